import PyProof.Rows.All
import Wide.All
import OpenK.AllK
import Wide.FinOn
import Lean
import PyProof.EqAt
import PyProof.EqKinds
import PyProof.TupleCall
import PySem.Challenge.RW_redo_k30_great_books
noncomputable section
open PySem.W (Frag)
set_option Elab.async false
set_option linter.all false
set_option maxRecDepth 100000
set_option compiler.extract_closed false
set_option bootstrap.genMatcherCode false
namespace Internal
namespace L2
open PySem PySem.Spec PyProof.Rows
abbrev Key:=Sum Int Str
def ej:Key->Value->Bool
 |.inl k,v=>Value.isInt k v
 |.inr x,v=>Value.isStrOf x v
def wF(w:World):Key->Int
 |.inl k=>hashInt k
 |.inr x=>hashStr w x
theorem dG:∀{k:Key}{v:Value},ej k v=true->(∃i t,k=Sum.inl i/\v=Value.int i t)\/(∃x t,k=Sum.inr x/\v=Value.str x t)
 |.inl i,v,h=>by
  obtain⟨t,e⟩:=Value.isInt_shape (k:=i) (v:=v) h;exact .inl ⟨i,t,rfl,e⟩
 |.inr x,v,h=>by
  obtain⟨t,e⟩:=Value.isStrOf_shape (x:=x) (v:=v) h;exact .inr ⟨x,t,rfl,e⟩
theorem zx(i:Int)(t:Tok):ej (.inl i) (.int i t)=true:=by simp[ej,Value.isInt]
theorem zw(x:Str)(t:Tok):ej (.inr x) (.str x t)=true:=by simp[ej,Value.isStrOf]
theorem uR(a b:Int):decide ((Sum.inl a:Key)=Sum.inl b)=(a == b):=by
 by_cases e:a=b
 .subst e;simp
 .have h:¬(Sum.inl a:Key)=Sum.inl b:=fun q=>e (Sum.inl.inj q)
  rw[decide_eq_false h];exact(beq_eq_false_iff_ne.mpr e).symm
theorem uO(a b:Str):decide ((Sum.inr a:Key)=Sum.inr b)=decide (a=b):=by
 by_cases e:a=b
 .subst e;simp
 .have h:¬(Sum.inr a:Key)=Sum.inr b:=fun q=>e (Sum.inr.inj q)
  rw[decide_eq_false h,decide_eq_false e]
theorem uQ(a:Int)(b:Str):decide ((Sum.inl a:Key)=Sum.inr b)=false:=decide_eq_false (fun q=>nomatch q)
theorem uP(a:Str)(b:Int):decide ((Sum.inr a:Key)=Sum.inl b)=false:=decide_eq_false (fun q=>nomatch q)
def bF(prog:Program)(w:World):PySem.KeyKind prog w Key where
 is:=ej
 hash:=wF w
 inj:=fun v a b ha hb=>by
  rcases dG ha with⟨i,t,rfl,rfl⟩|⟨x,t,rfl,rfl⟩
  .rcases dG hb with⟨j,u,rfl,e⟩|⟨y,u,rfl,e⟩
   .injection e with e1 _;rw[e1]
   .exact nomatch e
  .rcases dG hb with⟨j,u,rfl,e⟩|⟨y,u,rfl,e⟩
   .exact nomatch e
   .injection e with e1 _;rw[e1]
 byValue:=fun k v h=>by
  rcases dG h with⟨i,t,rfl,rfl⟩|⟨x,t,rfl,rfl⟩ <;> rfl
 pyHash:=fun hv h=>by
  rcases dG hv with⟨i,t,rfl,rfl⟩|⟨x,t,rfl,rfl⟩
  .exact wpAny_pyHash_int h
  .exact wpAny_pyHash_str h
 eqBool:=fun hu hv h=>by
  rcases dG hu with⟨i,t,rfl,rfl⟩|⟨x,t,rfl,rfl⟩
  .rcases dG hv with⟨j,u,rfl,rfl⟩|⟨y,u,rfl,rfl⟩
   .rw[uR] at h;exact wpAny_eqBool_int h
   .rw[uQ] at h;exact SeqAt.EqAt.int_str i t y u _ _ _ _ h
  .rcases dG hv with⟨j,u,rfl,rfl⟩|⟨y,u,rfl,rfl⟩
   .rw[uP] at h;exact SeqAt.EqAt.str_int x t j u _ _ _ _ h
   .rw[uO] at h;exact wpAny_eqBool_str h
 «strs»:=fun k x t v h=>by
  rcases dG h with⟨i,u,rfl,e⟩|⟨y,u,rfl,e⟩
  .exact nomatch e
  .injection e with e1 _
   subst e1
   cases v <;> rfl
theorem x4(prog:Program)(w:World)(i:Int)(t:Tok):(bF prog w).is (.inl i) (.int i t)=true:=zx i t
theorem x3(prog:Program)(w:World)(x:Str)(t:Tok):(bF prog w).is (.inr x) (.str x t)=true:=zw x t
inductive V where
 |non|bl (b:Bool)|int (i:Int)|str (x:Str)|byt (b:Array UInt8)|flt (b:UInt64)|ref (a:Addr)|ty (n:String)
 deriving DecidableEq
def RelV:V->Value->Prop
 |.non,u=>u=Value.none
 |.bl b,u=>u=Value.bool b
 |.int i,u=>∃t,u=Value.int i t
 |.str x,u=>∃t,u=Value.str x t
 |.byt b,u=>∃t,u=Value.bytes b t
 |.flt b,u=>∃t,u=Value.float b t
 |.ref a,u=>u=Value.ref a
 |.ty n,u=>u=Value.type n
abbrev Vals:List V->List Value->Prop:=Paired RelV
theorem Vals.length{xs:List V}{us:List Value}(r:Vals xs us):xs.length=us.length:=Paired.length r
theorem Vals.get:∀{xs:List V}{us:List Value}{i:Nat}{x:V},Vals xs us->xs[i]? = some x->∃u,us[i]? = some u/\RelV x u
 |_,_,_,_,.nil,e=>by simp at e
 |_,_,0,_,.cons r _,e=>by simp at e;subst e;exact⟨_,rfl,r⟩
 |_,_,i+1,x,.cons _ t,e=>by
  obtain⟨u,h1,h2⟩:=Vals.get (i:=i) (x:=x) t (by simpa using e);exact⟨u,by simpa using h1,h2⟩
theorem Vals.set{x:V}{u:Value}(r:RelV x u):∀{xs:List V}{us:List Value} (i:Nat),Vals xs us->Vals (xs.set i x) (us.set i u)
 |_,_,_,.nil=>.nil
 |_,_,0,.cons _ t=>.cons r t
 |_,_,i+1,.cons q t=>.cons q (Vals.set r i t)
theorem Vals.append:∀{xs ys:List V}{us ws:List Value},Vals xs us->Vals ys ws->Vals (xs++ys) (us++ws)
 |_,_,_,_,.nil,s=>s
 |_,_,_,_,.cons r t,s=>.cons r (Vals.append t s)
theorem Vals.take:∀{xs:List V}{us:List Value} (n:Nat),Vals xs us->Vals (xs.take n) (us.take n)
 |_,_,0,_=>.nil
 |_,_,_+1,.nil=>.nil
 |_,_,n+1,.cons r t=>.cons r (Vals.take n t)
theorem Vals.drop:∀{xs:List V}{us:List Value} (n:Nat),Vals xs us->Vals (xs.drop n) (us.drop n)
 |_,_,0,r=>r
 |_,_,_+1,.nil=>.nil
 |_,_,n+1,.cons _ t=>Vals.drop n t
def RelO:Option V->Option Value->Prop
 |some v,some u=>RelV v u
 |none,none=>True
 |_,_=>False
def KV{κ:Type}:List (κ×V)->List (κ×Value)->Prop:=Paired fun(p:κ×V) (q:κ×Value)=>p.1=q.1/\RelV p.2 q.2
def kV:Key->V
 |.inl i=>.int i
 |.inr x=>.str x
inductive HO where
  |lst (xs:List V)
  |tup (xs:List V)
  |dK (kvs:List (Key×V))|dT (kvs:List (List Key×V))
  |set (S:Int->Bool) (n:Nat)
  |ins (C dx:Addr) (fs:List (Str×V))
  |own (x:Addr)
  |xd (fs:List (Str×V))
  |met (f x:Addr)
  |rng (lo hi:Int)
  |frz (o:Obj) (u:HO)
  |tbl (ps:Array Value)
  |ext (φ:Heap->Prop)
abbrev Hp:=Addr->Option HO
def upd(H:Hp)(a:Addr)(o:HO):Hp:=fun b=>if b=a then some o else H b
theorem bG{H:Hp}{a:Addr}{o:HO}:upd H a o a=some o:=by unfold upd;rw[if_pos rfl]
theorem aQ{H:Hp}{a b:Addr}{o:HO}(h:b≠a):upd H a o b=H b:=by unfold upd;rw[if_neg h]
theorem Fj{H:Hp}{a b:Addr}{o u:HO}(h:H a=some o)(h':H b=some u)(d:o≠u):a≠b:=by intro e;subst e;rw[h] at h';exact d (Option.some.inj h')
theorem cV{H:Hp}{a b:Addr}{o:HO}(h:H a=some o)(h':H b=none):a≠b:=by intro e;subst e;rw[h] at h';cases h'
section
variable (P:Program)(w:World)
def ObjOk(H:Hp)(h:Heap)(a:Addr):HO->Prop
 |.lst xs=>xs.length<=sizeLine/\∃(its:List Value) (n:Nat),Vals xs its/\h.get? a=some { cls:=.type "list",data:=.seq its.toArray n }
 |.tup xs=>xs.length<=sizeLine/\∃its:List Value,Vals xs its/\IsTup h a its.toArray
 |.dK kvs=>kvs.length<=sizeLine/\(a == sysModules)=false/\∃vs,KV kvs vs/\h.DictOf (bF P w) a vs
 |.dT kvs=>kvs.length<=sizeLine/\(a == sysModules)=false/\∃xs:List (List Key×Addr×Value),
   Paired (fun(p:List Key×V) (q:List Key×Addr×Value)=>p.1=q.1/\H q.2.1=some (.tup (p.1.map kV))/\RelV p.2 q.2.2) kvs xs /\
   ∃o es ep,h.get? a=some o/\o.ExactDict/\o.data=.dict es ep/\es.toList=xs.map (entryOfKey (tupleKind (bF P w)))/\(xs.map (·.1)).Nodup
 |.set S n=>h.SetOf (intKind P w) a S n
 |.ins C dx fs=>H dx=some (.own a)/\fs.length<=1000/\dx≠a/\h.get? a=some (PySem.W.instObj C dx) /\
   ∃mA,h.Ns1 dx mA/\(∀f,RelO (fs.lookup f) (mA f))/\PySem.Within mA (fs.map (·.1))
 |.own _=>∃o,h.get? a=some o
 |.xd fs=>∃mA,h.Ns1 a mA/\∀f,RelO (fs.lookup f) (mA f)
 |.rng lo hi=>∃t u v,h.get? a=some { cls:=.type "range",data:=.fields #[.int lo t,.int hi u,.int 1 v] }
 |.frz o u=>h.get? a=some o/\ObjOk H h a u
 |.tbl ps=>h.get? a=some { cls:=.none,data:=.fields ps }
 |.met f x=>h.get? a=some (PySem.W.methodObj (.ref f) (.ref x))
 |.ext φ=>φ h/\(∃o,h.get? a=some o)/\∀h1 h2:Heap,φ h1->(∀o,h1.get? a=some o->h2.get? a=some o)->φ h2
def HOk(H:Hp)(h:Heap):Prop:=∀a o,H a=some o->ObjOk P w H h a o
end
section
variable {P:Program}{w:World}{H H':Hp}{h h':Heap}{a:Addr}{o:HO}
theorem ObjOk.lt(x:ObjOk P w H h a o):a<h.objs.size:=by
 cases o with
 |lst xs=>obtain⟨_,_,_,_,e⟩:=x;exact Heap.lt_size e
 |tup xs=>obtain⟨_,_,_,p⟩:=x;exact p.lt
 |dK kvs=>obtain⟨_,_,_,_,o,_,_,e,_⟩:=x;exact Heap.lt_size e
 |dT kvs=>obtain⟨_,_,_,_,o,_,_,e,_⟩:=x;exact Heap.lt_size e
 |set S n=>obtain⟨o,_,_,_,e,_⟩:=x;exact Heap.lt_size e
 |ins C dx fs=>obtain⟨_,_,_,e,_⟩:=x;exact Heap.lt_size e
 |own y=>obtain⟨_,e⟩:=x;exact Heap.lt_size e
 |xd fs=>obtain⟨_,⟨_,_,_,e,_⟩,_⟩:=x;exact Heap.lt_size e
 |rng lo hi=>obtain⟨_,_,_,e⟩:=x;exact Heap.lt_size e
 |frz ob u=>obtain⟨e,_⟩:=x;exact Heap.lt_size e
 |tbl ps=>exact Heap.lt_size (show h.get? a=some _ from x)
 |met f y=>exact Heap.lt_size (show h.get? a=some _ from x)
 |ext φ=>obtain⟨_,⟨_,e⟩,_⟩:=x;exact Heap.lt_size e
theorem Paired.mapP{α β:Type}{F G:α->β->Prop}:∀{l₁:List α}{l₂:List β},Paired F l₁ l₂->(∀a b,F a b->G a b)->Paired G l₁ l₂
 |_,_,.nil,_=>.nil
 |_,_,.cons r t,f=>.cons (f _ _ r) (Paired.mapP t f)
theorem ObjOk.stay(x:ObjOk P w H h a o)(k:∀b u,(b=a\/H b=some (.own a))->h.get? b=some u->h'.get? b=some u)
  (ho:∀b,H b=some (.own a)->H' b=some (.own a)) (ht:∀b xs,H b=some (.tup xs)->H' b=some (.tup xs)):ObjOk P w H' h' a o:=by
 induction o with
 |lst xs=>obtain⟨z,its,n,r,e⟩:=x;exact⟨z,its,n,r,k _ _ (.inl rfl) e⟩
 |tup xs=>obtain⟨z,its,r,ob,e,c⟩:=x;exact⟨z,its,r,ob,k _ _ (.inl rfl) e,c⟩
 |dK kvs=>obtain⟨z,y,vs,r,ob,es,ep,e,c⟩:=x;exact⟨z,y,vs,r,ob,es,ep,k _ _ (.inl rfl) e,c⟩
 |dT kvs=>
  obtain⟨z,y,xs,r,ob,es,ep,e,c⟩:=x;exact⟨z,y,xs,Paired.mapP r fun p q z=>⟨z.1,ht _ _ z.2.1,z.2.2⟩,ob,es,ep,k _ _ (.inl rfl) e,c⟩
 |set S n=>obtain⟨ob,es,ep,t,e,c⟩:=x;exact⟨ob,es,ep,t,k _ _ (.inl rfl) e,c⟩
 |ins C dx fs=>
  obtain⟨d,z,ne,e,mA,⟨od,es,ep,e2,c⟩,r⟩:=x;exact⟨ho _ d,z,ne,k _ _ (.inl rfl) e,mA,⟨od,es,ep,k _ _ (.inr d) e2,c⟩,r⟩
 |own y=>obtain⟨ob,e⟩:=x;exact⟨ob,k _ _ (.inl rfl) e⟩
 |xd fs=>obtain⟨mA,⟨od,es,ep,e,c⟩,r⟩:=x;exact⟨mA,⟨od,es,ep,k _ _ (.inl rfl) e,c⟩,r⟩
 |rng lo hi=>obtain⟨t,u,v,e⟩:=x;exact⟨t,u,v,k _ _ (.inl rfl) e⟩
 |frz ob u ih=>obtain⟨e,q⟩:=x;exact⟨k _ _ (.inl rfl) e,ih q⟩
 |tbl ps=>
  have e:h.get? a=some { cls:=.none,data:=.fields ps }:=x;show h'.get? a=some { cls:=.none,data:=.fields ps };exact k a _ (.inl rfl) e
 |met f y=>
  have e:h.get? a=some (PySem.W.methodObj (.ref f) (.ref y)):=x;show h'.get? a=some (PySem.W.methodObj (.ref f) (.ref y));exact k a _ (.inl rfl) e
 |ext φ=>obtain⟨p,⟨o,e⟩,st⟩:=x;exact⟨st _ _ p fun o q=>k _ _ (.inl rfl) q,⟨o,k _ _ (.inl rfl) e⟩,st⟩
theorem HOk.lt(x:HOk P w H h)(e:H a=some o):a<h.objs.size:=(x a o e).lt
theorem HOk.fresh(x:HOk P w H h)(e:h.objs.size<=a):H a=none:=by
 cases q:H a with
 |none=>rfl
 |some u=>exact absurd (Nat.lt_of_lt_of_le (x.lt q) e) (Nat.lt_irrefl _)
theorem HOk.kept(x:HOk P w H h)(k:∀b u,h.get? b=some u->h'.get? b=some u):HOk P w H h':=fun a o e=>
 (x a o e).stay (fun b u _ q=>k b u q) (fun _ q=>q) fun _ _ q=>q
theorem HOk.laid(x:HOk P w H h)(k:∀b u,h.get? b=some u->h'.get? b=some u)(hp:h.objs.size<=a)(new:ObjOk P w (upd H a o) h' a o):HOk P w (upd H a o) h':=fun b u e=>by
 have hn:=x.fresh hp
 by_cases hb:b=a
 .subst hb;rw[bG] at e;cases e;exact new
 .rw[aQ hb] at e
  exact(x b u e).stay (fun c v _ q=>k c v q) (fun c q=>by rw[aQ (cV q hn)];exact q) fun c xs q=>by rw[aQ (cV q hn)];exact q
end
def Rd(H:Hp)(a:Addr)(u:HO):Prop:=H a=some u\/∃o,H a=some (.frz o u)
theorem Rd.ok{P:Program}{w:World}{H:Hp}{h:Heap}{a:Addr}{u:HO}(r:Rd H a u)(x:HOk P w H h):ObjOk P w H h a u:=by
 rcases r with r|⟨o,r⟩
 .exact x a u r
 .obtain⟨_,q⟩:=x a _ r
  exact q
def Mut:Option HO->Prop
 |some (.lst _)=>True
 |some (.dK _)=>True
 |some (.dT _)=>True
 |some (.set _ _)=>True
 |some (.ins _ _ _)=>True
 |some (.ext _)=>True
 |_=>False
section
variable {P:Program}{w:World}{H:Hp}{h h':Heap}{x e:Addr}{o':HO}
theorem HOk.write(ok:HOk P w H h)(mu:Mut (H x))(he:e=x\/H e=some (.own x))(k:∀b u,b≠e->h.get? b=some u->h'.get? b=some u)(heo:∃u,h'.get? e=some u)
  (new:ObjOk P w (upd H x o') h' x o'):HOk P w (upd H x o') h':=fun b u q=>by
 have nown:∀c y,H c=some (.own y)->c≠x:=fun c y r z=>by subst z;rw[r] at mu;exact mu
 have ntup:∀c xs,H c=some (.tup xs)->c≠x:=fun c xs r z=>by subst z;rw[r] at mu;exact mu
 by_cases hb:b=x
 .subst hb;rw[bG] at q;cases q;exact new
 .rw[aQ hb] at q
  by_cases hbe:b=e
  .have q':H b=some (.own x):=by
    rcases he with z|z
    .exact absurd (hbe.trans z) hb
    .rw[hbe];exact z
   rw[q] at q';cases q';obtain⟨v,hv⟩:=heo;exact⟨v,by rw[hbe];exact hv⟩
  .refine(ok b u q).stay (fun c v hc r=>k c v ?_ r) (fun c r=>by rw[aQ (nown c b r)];exact r) fun c xs r=>by rw[aQ (ntup c xs r)];exact r
   rcases hc with rfl|hc
   .exact hbe
   .rintro rfl
    rcases he with z|z
    .exact nown c b hc z
    .rw[hc] at z;cases z;exact hb rfl
end
structure Un(fs ex:List Addr)(H H':Hp)(h h':Heap):Prop where
 keep:∀b o,h.get? b=some o->H b=none->b∉fs->b∉ex->h'.get? b=some o
 slot:∀b o,h.get? b=some o->H b=none->b∈fs->b∉ex->∃sl,h'.get? b=some { o with slots:=sl }
 free:∀b o,h.get? b=some o->H b=none->b∉ex->H' b=none
 there:∀b o,h.get? b=some o->b∉ex->∃o',h'.get? b=some o'
 tups:∀b xs,H b=some (.tup xs)->H' b=some (.tup xs)
 frzs:∀b o u,H b=some (.frz o u)->H' b=some (.frz o u)
 tbls:∀b ps,H b=some (.tbl ps)->∃more,H' b=some (.tbl (ps++more))
section
variable {fs fs' ex ex':List Addr}{H H1 H2:Hp}{h h1 h2 h':Heap}{a x e:Addr}{o:HO}
theorem Un.any(u:Un fs ex H H1 h h1){b:Addr}{ob:Obj}(q:h.get? b=some ob)(n:H b=none)(hx:b∉ex):∃sl,h1.get? b=some { ob with slots:=sl }:=by
 by_cases hb:b∈fs
 .exact u.slot b ob q n hb hx
 .exact⟨ob.slots,u.keep b ob q n hb hx⟩
theorem Un.kept(k:∀b u,h.get? b=some u->h'.get? b=some u):Un fs ex H H h h':=⟨fun b ob q _ _ _=>k b ob q,fun b ob q _ _ _=>⟨ob.slots,k b ob q⟩,fun _ _ _ n _=>n,fun b ob q _=>⟨ob,k b ob q⟩,fun _ _ q=>q,fun _ _ _ q=>q,fun _ ps q=>⟨#[],by rw[q];simp⟩⟩
theorem Un.refl:Un fs ex H H h h:=Un.kept fun _ _ q=>q
theorem Un.laid(k:∀b u,h.get? b=some u->h'.get? b=some u)(hp:h.objs.size<=a)(hn:H a=none):Un fs ex H (upd H a o) h h' where
 keep:=fun b u q _ _ _=>k b u q
 slot:=fun b u q _ _ _=>⟨u.slots,k b u q⟩
 free:=fun b u q n _=>by rw[aQ (Nat.ne_of_lt (Nat.lt_of_lt_of_le (Heap.lt_size q) hp))];exact n
 there:=fun b u q _=>⟨u,k b u q⟩
 tups:=fun b xs q=>by rw[aQ (cV q hn)];exact q
 frzs:=fun b u xs q=>by rw[aQ (cV q hn)];exact q
 tbls:=fun b ps q=>⟨#[],by rw[aQ (cV q hn),q];simp⟩
theorem Un.write(mu:Mut (H x))(he:e=x\/H e=some (.own x))(k:∀b u,b≠e->h.get? b=some u->h'.get? b=some u)(heo:∃u,h'.get? e=some u):Un fs ex H (upd H x o) h h':=by
 have hx:∀b,H b=none->b≠x:=fun b n z=>by subst z;rw[n] at mu;exact mu
 have hb:∀b,H b=none->b≠e:=fun b n z=>by
  subst z
  rcases he with r|r
  .exact hx b n r
  .rw[n] at r;cases r
 have hm:∀b u,H b=some u->¬Mut (some u)->b≠x:=fun b u q nm z=>by subst z;rw[q] at mu;exact nm mu
 refine⟨fun b u q n _ _=>k b u (hb b n) q,fun b u q n _ _=>⟨u.slots,k b u (hb b n) q⟩,fun b u q n _=>by rw[aQ (hx b n)];exact n,fun b u q _=>?_,
  fun b xs q=>by rw[aQ (hm b _ q fun z=>z)];exact q,fun b u xs q=>by rw[aQ (hm b _ q fun z=>z)];exact q,fun b ps q=>⟨#[],by rw[aQ (hm b _ q fun z=>z),q];simp⟩⟩
 by_cases hbe:b=e
 .subst hbe;exact heo
 .exact⟨u,k b u hbe q⟩
end
def trk(h:Heap)(H:Hp):List Addr:=(List.range h.objs.size).filter fun a=>(H a).isSome
def fM(h:Heap)(H:Hp):Heap:=PySem.W.hideAll h (trk h H)
theorem zC(h:Heap)(H:Hp):(fM h H).objs.size=h.objs.size:=PySem.W.hideAll_size _ _
theorem AJ{h:Heap}{H:Hp}{b:Addr}{o:Obj}(e:h.get? b=some o)(n:H b=none):(fM h H).get? b=some o:=
 PySem.W.hideAll_get _ e fun hm=>by
  have q:(H b).isSome=true:=(List.mem_filter.mp hm).2;rw[n] at q;simp at q
theorem B0{h:Heap}{H:Hp}{b:Addr}{o:Obj}(e:(fM h H).get? b=some o):h.get? b=some o/\H b=none:=by
 have e':h.get? b=some o:=PySem.W.of_hideAll (trk h H) e;refine⟨e',?_⟩
 cases q:H b with
 |none=>rfl
 |some x=>
  have hm:b∈trk h H:=List.mem_filter.mpr ⟨List.mem_range.mpr (Heap.lt_size e'),by simp[q]⟩;have z:(fM h H).get? b=none:=PySem.W.hideAll_none (trk h H) hm;rw[z] at e;cases e
def CM(g h:Heap)(L:Addr):List (Addr×Obj):=(List.range h.objs.size).filterMap fun a=>if a=L\/(g.get? a).isSome=true then none else (h.get? a).map fun o=>(a,o)
def rest(g h:Heap)(L d:Addr):List (Addr×Obj):=(CM g h L).filter fun p=>decide (p.1≠d)
structure Mod(K:Frag)(mg:Str->Option Value)(base:Heap):Prop where
 kin:K.In base
 glob:base.Ns mainGlobals mg
 blt:∃mb,base.Ns builtinsNs mb/\∀x:Str,x≠"__name__"->mb x=bootBuiltins x
 nolimit:base.NoLimit
structure Cx where
 prog:Program
 w:World
 K:Frag
 mg:Str->Option Value
 base:Heap
 A:Around
 N:List Str
 s₀:Shared
 H₀:Hp
 env:Env
 outer:List Env
 stack:List Env
 ex:List Addr
 fn:Str->Bool
 calm:Bool
 pn:List (Addr×Obj)
 xe:Value->Shared->Prop
def frs(l:List Env):List Addr:=l.filterMap (·.frame)
abbrev Cx.fs(X:Cx):List Addr:=frs X.outer
def Vis(sc:Scope)(x:Str):Prop:=sc.names.lookup x=some .local\/sc.names.lookup x=some .cell\/sc.names.lookup x=some .free
def Loc(sc:Scope)(x:Str):Prop:=sc.names.lookup x=some .local\/sc.names.lookup x=some .cell
def Look(env:Env)(h:Heap)(m:Str->Option Value)(x:Str)(u:Value):Prop:=(env.kindOf x=some .local/\m x=some u)\/((env.kindOf x=some .cell\/env.kindOf x=some .free)/\∃c,env.cells.lookup x=some c/\h.IsCell c (some u))
structure Cx.Ok(X:Cx):Prop where
 mod:Mod X.K X.mg X.base
 kind:X.env.scope.kind=.function
 glob:X.env.globals=mainGlobals
 blt:X.env.builtins=builtinsNs
 above:X.s₀.heap.objs.size<=X.env.locals
 inj:∀x y c,X.env.cells.lookup x=some c->X.env.cells.lookup y=some c->x=y
 has:∀x,(X.env.kindOf x=some .cell\/X.env.kindOf x=some .free)->∃c,X.env.cells.lookup x=some c
 cab:∀x c,X.fn x=true->X.env.cells.lookup x=some c->X.s₀.heap.objs.size<=c
 hd:X.calm=true->X.A.handled=none
 frames:X.A.frames=some X.stack
 stk:X.stack=X.outer\/(X.stack=X.env::X.outer/\X.env.frame=some X.env.locals)
 exf:∀b∈X.ex,b≠X.env.locals/\∀x c,X.env.cells.lookup x=some c->c≠b
 bs:∀b o,X.base.get? b=some o->X.s₀.heap.get? b=some o/\X.H₀ b=none
 bsz:X.base.objs.size<=X.s₀.heap.objs.size
 noex:∀b o,X.base.get? b=some o->b∉X.ex
 exfs:∀b∈X.ex,b∉X.fs
 funs:X.s₀.heap.FunFrames X.base X.outer
 frf:∀b∈X.fs,X.H₀ b=none
structure Inv(X:Cx)(pins:List (Addr×Obj))(σ:List (Option V))(H:Hp)(s:Shared):Prop where
 ok:X.Ok
 os:s.os=X.s₀.os
 bare:AllBare s.gens
 base:Un X.fs X.ex X.H₀ H X.s₀.heap s.heap
 loc:∃m,s.heap.Ns X.env.locals m/\∀(i:Nat) (x:Str) (v:V),X.N[i]? = some x->σ[i]? = some (some v)->Vis X.env.scope x->∃u,RelV v u/\Look X.env s.heap m x u
 cell:∀x c,X.env.cells.lookup x=some c->∃v,s.heap.IsCell c v
 free:H X.env.locals=none
 freeC:∀x c,X.env.cells.lookup x=some c->H c=none
 pin:∀p∈X.pn++pins,s.heap.get? p.1=some p.2/\H p.1=none/\p.1≠X.env.locals/\p.1∉X.fs/\∀v,p.2.data≠.cell v
 hok:HOk X.prog X.w H s.heap
 len:σ.length=X.N.length
section
variable {X:Cx}{pins:List (Addr×Obj)}{σ:List (Option V)}{H H':Hp}{s:Shared}{h':Heap}
theorem Cx.Ok.nofr(ok:X.Ok){b:Addr}{o:Obj}(e:X.base.get? b=some o):b∉X.fs:=fun hb=>by
 have:=(ok.funs.mem hb).1;rw[e] at this;cases this
theorem Inv.bs(I:Inv X pins σ H s):∀b o,X.base.get? b=some o->s.heap.get? b=some o/\H b=none:=fun b o e=>
 ⟨I.base.keep b o (I.ok.bs b o e).1 (I.ok.bs b o e).2 (I.ok.nofr e) (I.ok.noex b o e),I.base.free b o (I.ok.bs b o e).1 (I.ok.bs b o e).2 (I.ok.noex b o e)⟩
theorem Inv.bk(I:Inv X pins σ H s):∀b o,X.base.get? b=some o->s.heap.get? b=some o:=fun b o e=>(I.bs b o e).1
theorem Inv.mod(I:Inv X pins σ H s):Mod X.K X.mg X.base:=I.ok.mod
theorem Inv.kIn(I:Inv X pins σ H s):X.K.In s.heap:=I.ok.mod.kin.keeps I.bk
theorem Inv.lt(I:Inv X pins σ H s):X.env.locals<s.heap.objs.size:=let ⟨_,hn,_⟩:=I.loc;hn.lt
theorem Inv.sz(I:Inv X pins σ H s):X.s₀.heap.objs.size<=s.heap.objs.size:=Nat.le_trans I.ok.above (Nat.le_of_lt I.lt)
theorem Inv.nofs(I:Inv X pins σ H s){a:Addr}(h:s.heap.objs.size<=a):a∉X.fs:=fun hb=>by
 obtain⟨_,o,ho,_⟩:=I.ok.funs.mem hb;exact absurd (Nat.lt_of_lt_of_le (Heap.lt_size ho) (Nat.le_trans I.sz h)) (Nat.lt_irrefl _)
theorem Inv.cne(I:Inv X pins σ H s):∀x c,X.env.cells.lookup x=some c->c≠X.env.locals:=fun x c e z=>by
 obtain⟨v,o,ho,hd⟩:=I.cell x c e;obtain⟨m,⟨o',es,ep,ho',hd',_⟩,_⟩:=I.loc;rw[z,ho'] at ho;cases ho;rw[hd'] at hd;cases hd
theorem Inv.funs(I:Inv X pins σ H s):s.heap.FunFrames X.base X.outer:=by
 have all:∀(l:List Env),(∀b∈frs l,b∈X.fs)->X.s₀.heap.FunFrames X.base l->s.heap.FunFrames X.base l:=by
  intro l
  induction l with
  |nil=>intro _ _;trivial
  |cons env r ih=>
   intro hs hl;obtain⟨hk,⟨L,o,hf,hn,ho,hd⟩,hr⟩:=hl;have hL:L∈X.fs:=hs L (by unfold frs;rw[List.filterMap_cons,hf];exact List.mem_cons_self);obtain⟨sl,e⟩:=I.base.slot L o ho (I.ok.frf L hL) hL fun z=>I.ok.exfs L z hL;exact⟨hk,⟨L,_,hf,hn,e,hd⟩,ih (fun b hb=>hs b (by unfold frs;rw[List.filterMap_cons,hf];exact List.mem_cons_of_mem _ hb)) hr⟩
 exact all X.outer (fun _ hb=>hb) I.ok.funs
theorem Inv.stack(I:Inv X pins σ H s):s.heap.FunFrames X.base X.stack:=by
 rcases I.ok.stk with e|⟨e,hf⟩
 .rw[e];exact I.funs
 .rw[e]
  obtain⟨m,hn,_⟩:=I.loc;refine .cons (by rw[I.ok.kind];decide) hf hn ?_ I.funs;exact Heap.get?_none_of_le (Nat.le_trans I.ok.bsz I.ok.above)
theorem Inv.stkSub(I:Inv X pins σ H s):∀b∈frs X.stack,b∈X.env.locals::X.fs:=fun b hb=>by
 rcases I.ok.stk with e|⟨e,hf⟩
 .rw[e] at hb;exact List.mem_cons_of_mem _ hb
 .rw[e] at hb
  unfold frs at hb;rw[List.filterMap_cons,hf] at hb;exact hb
theorem Inv.stkFree(I:Inv X pins σ H s):∀b∈frs X.stack,H b=none:=fun b hb=>by
 rcases List.mem_cons.mp (I.stkSub b hb) with e|hb
 .rw[e];exact I.free
 .obtain⟨_,o,ho,_⟩:=I.ok.funs.mem hb
  exact I.base.free b o ho (I.ok.frf b hb) fun z=>I.ok.exfs b z hb
theorem Inv.step{g':Array GenState}{t':Nat}{d':Drawn}{ch:List Addr}(I:Inv X pins σ H s)
  (hch:∀b∈ch,(b∈X.ex\/X.s₀.heap.objs.size<=b)/\b≠X.env.locals/\(∀x c,X.env.cells.lookup x=some c->c≠b)/\∀p∈X.pn++pins,p.1≠b)
  (keep:∀b o,b≠X.env.locals->b∉X.fs->b∉ch->s.heap.get? b=some o->H b=none->h'.get? b=some o)
  (slot:∀b o,b≠X.env.locals->b∈X.fs->b∉ch->s.heap.get? b=some o->H b=none->∃sl,h'.get? b=some { o with slots:=sl }) (free:∀b o,b∉ch->s.heap.get? b=some o->H b=none->H' b=none)
  (there:∀b o,b∉ch->s.heap.get? b=some o->∃o',h'.get? b=some o')
  (tups:∀b xs,H b=some (.tup xs)->H' b=some (.tup xs)) (frzs:∀b o u,H b=some (.frz o u)->H' b=some (.frz o u)) (tbls:∀b ps,H b=some (.tbl ps)->∃more,H' b=some (.tbl (ps++more)))
  (ns:∀m,s.heap.Ns X.env.locals m->h'.Ns X.env.locals m) (hok:HOk X.prog X.w H' h') (hg:AllBare g') :
  Inv X pins σ H' { s with heap:=h',gens:=g',drawn:=d',toks:=t' }:=by
 have neL:∀b o,X.s₀.heap.get? b=some o->b≠X.env.locals:=fun b o e=>Nat.ne_of_lt (Nat.lt_of_lt_of_le (Heap.lt_size e) I.ok.above)
 have neC:∀b o,X.s₀.heap.get? b=some o->b∉X.ex->b∉ch:=fun b o e hx hb=>by
  rcases(hch b hb).1 with z|z
  .exact hx z
  .exact absurd (Nat.lt_of_lt_of_le (Heap.lt_size e) z) (Nat.lt_irrefl _)
 have cellK:∀x c,X.env.cells.lookup x=some c->∀v,s.heap.IsCell c v->h'.IsCell c v:=fun x c e v ⟨o,ho,hd⟩=>by
  have nch:c∉ch:=fun z=>(hch c z).2.2.1 x c e rfl
  by_cases hc:c∈X.fs
  .obtain⟨sl,q⟩:=slot c o (I.cne x c e) hc nch ho (I.freeC x c e)
   exact⟨_,q,hd⟩
  .exact⟨o,keep c o (I.cne x c e) hc nch ho (I.freeC x c e),hd⟩
 refine⟨I.ok,I.os,hg,⟨fun b o e n hb hx=>?_,fun b o e n hb hx=>?_,fun b o e n hx=>?_,fun b o e hx=>?_,fun b xs e=>tups b xs (I.base.tups b xs e),fun b o xs e=>frzs b o xs (I.base.frzs b o xs e),fun b ps e=>?_⟩,?_,fun x c e=>?_,?_,fun x c e=>?_,fun p hp=>?_,hok,I.len⟩
 .exact keep b o (neL b o e) hb (neC b o e hx) (I.base.keep b o e n hb hx) (I.base.free b o e n hx)
 .obtain⟨sl,e1⟩:=I.base.slot b o e n hb hx
  obtain⟨sl',e2⟩:=slot b _ (neL b o e) hb (neC b o e hx) e1 (I.base.free b o e n hx);exact⟨sl',e2⟩
 .obtain⟨o',e1⟩:=I.base.there b o e hx
  exact free b o' (neC b o e hx) e1 (I.base.free b o e n hx)
 .obtain⟨o',e1⟩:=I.base.there b o e hx
  exact there b o' (neC b o e hx) e1
 .obtain⟨m1,e1⟩:=I.base.tbls b ps e
  obtain⟨m2,e2⟩:=tbls b _ e1;exact⟨m1++m2,by rw[e2,Array.append_assoc]⟩
 .obtain⟨m,hn,hl⟩:=I.loc
  refine⟨m,ns m hn,fun i x v e1 e2 e3=>?_⟩;obtain⟨u,r,l⟩:=hl i x v e1 e2 e3;refine⟨u,r,?_⟩
  rcases l with l|⟨k,c,e,z⟩
  .exact .inl l
  .exact .inr ⟨k,c,e,cellK x c e _ z⟩
 .obtain⟨v,z⟩:=I.cell x c e
  exact⟨v,cellK x c e v z⟩
 .obtain⟨m,⟨o,_,_,ho,_⟩,_⟩:=I.loc
  exact free _ o (fun z=>(hch _ z).2.1 rfl) ho I.free
 .obtain⟨v,o,ho,hd⟩:=I.cell x c e
  exact free c o (fun z=>(hch c z).2.2.1 x c e rfl) ho (I.freeC x c e)
 .obtain⟨e,n,ne,nf,d⟩:=I.pin p hp
  have nch:p.1∉ch:=fun z=>(hch p.1 z).2.2.2 p hp rfl;exact⟨keep p.1 p.2 ne nf nch e n,free p.1 p.2 nch e n,ne,nf,d⟩
theorem Inv.un{t':Nat}(I:Inv X pins σ H s)(u:Un X.fs [] H H' s.heap h')(hok:HOk X.prog X.w H' h'):Inv X pins σ H' { s with heap:=h',toks:=t' }:=by
 obtain⟨m,⟨o,es,ep,ho,r⟩,_⟩:=id I.loc;obtain⟨sl,hL⟩:=u.any ho I.free (by simp)
 exact I.step (g':=s.gens) (d':=s.drawn) (ch:=[]) (fun _ z=>nomatch z) (fun b o _ hb _ e n=>u.keep b o e n hb (by simp)) (fun b o _ hb _ e n=>u.slot b o e n hb (by simp)) (fun b o _ e n=>u.free b o e n (by simp)) (fun b o _ e=>u.there b o e (by simp)) u.tups u.frzs u.tbls (fun m' hm=>by
  obtain⟨o',es',ep',ho',r'⟩:=hm;rw[ho] at ho';cases ho'
  exact⟨_,es',ep',hL,r'⟩) hok I.bare
theorem Inv.call{g':Array GenState}{t':Nat}{d':Drawn}{ch:List Addr}(I:Inv X pins σ H s)(u:Un (frs X.stack) ch H H' s.heap h')(hok:HOk X.prog X.w H' h')(hg:AllBare g')
  (hch:∀b∈ch,(b∈X.ex\/X.s₀.heap.objs.size<=b)/\b≠X.env.locals/\(∀x c,X.env.cells.lookup x=some c->c≠b)/\∀p∈X.pn++pins,p.1≠b) :
  Inv X pins σ H' { s with heap:=h',gens:=g',drawn:=d',toks:=t' }:=by
 obtain⟨m,⟨o,es,ep,ho,r⟩,_⟩:=id I.loc;obtain⟨sl,hL⟩:=u.any ho I.free fun z=>(hch _ z).2.1 rfl
 exact I.step (ch:=ch) hch (fun b o hL hb hc e n=>u.keep b o e n (fun z=>(List.mem_cons.mp (I.stkSub b z)).elim hL hb) hc) (fun b o _ _ hc e n=>u.any e n hc) (fun b o hc e n=>u.free b o e n hc) (fun b o hc e=>u.there b o e hc) u.tups u.frzs u.tbls (fun m' hm=>by
  obtain⟨o',es',ep',ho',r'⟩:=hm;rw[ho] at ho';cases ho'
  exact⟨_,es',ep',hL,r'⟩) hok hg
theorem Inv.turned{t':Nat}{it:Addr}(I:Inv X pins σ H s)(k:∀b o,b≠it->s.heap.get? b=some o->h'.get? b=some o)(hn:H it=none)(hL:it≠X.env.locals)
  (h1:it∈X.ex\/X.s₀.heap.objs.size<=it) (h2:∀x c,X.env.cells.lookup x=some c->c≠it) (h3:∀p∈X.pn++pins,p.1≠it):Inv X pins σ H { s with heap:=h',toks:=t' }:=by
 have nit:∀b u,H b=some u->b≠it:=fun b u e z=>by rw[z,hn] at e;cases e
 refine I.step (g':=s.gens) (d':=s.drawn) (ch:=[it]) (fun b hb=>?_) (fun b o _ _ hc e _=>k b o (fun z=>hc (by simp[z])) e) (fun b o _ _ hc e _=>⟨o.slots,k b o (fun z=>hc (by simp[z])) e⟩) (fun _ _ _ _ n=>n)
  (fun b o hc e=>⟨o,k b o (fun z=>hc (by simp[z])) e⟩) (fun _ _ e=>e) (fun _ _ _ e=>e) (fun b ps e=>⟨#[],by rw[e];simp⟩) (fun m hm=>?_) (fun b u e=>?_) I.bare
 .have e:b=it:=by simpa using hb
  subst e;exact⟨h1,hL,h2,h3⟩
 .obtain⟨o,es,ep,ho,r⟩:=hm
  exact⟨o,es,ep,k _ o (Ne.symm hL) ho,r⟩
 .refine(I.hok b u e).stay (fun c v hc q=>k c v ?_ q) (fun _ q=>q) fun _ _ q=>q
  rcases hc with z|z
  .rw[z];exact nit b u e
  .exact nit c _ z
theorem Inv.tok(I:Inv X pins σ H s)(t:Nat):Inv X pins σ H { s with toks:=t }:=I.un (h':=s.heap) (t':=t) Un.refl I.hok
theorem Inv.kept{t':Nat}(I:Inv X pins σ H s)(k:∀b u,s.heap.get? b=some u->h'.get? b=some u):Inv X pins σ H { s with heap:=h',toks:=t' }:=I.un (Un.kept k) (I.hok.kept k)
theorem Inv.laid{a:Addr}{o:HO}{t':Nat}(I:Inv X pins σ H s)(k:∀b u,s.heap.get? b=some u->h'.get? b=some u)(hp:s.heap.objs.size<=a)(new:ObjOk X.prog X.w (upd H a o) h' a o) :
  Inv X pins σ (upd H a o) { s with heap:=h',toks:=t' }:=I.un (Un.laid k hp (I.hok.fresh hp)) (I.hok.laid k hp new)
theorem Inv.write{x e:Addr}{o:HO}{t':Nat}(I:Inv X pins σ H s)(mu:Mut (H x))(he:e=x\/H e=some (.own x))(k:∀b u,b≠e->s.heap.get? b=some u->h'.get? b=some u)(heo:∃u,h'.get? e=some u)
  (new:ObjOk X.prog X.w (upd H x o) h' x o):Inv X pins σ (upd H x o) { s with heap:=h',toks:=t' }:=I.un (Un.write mu he k heo) (I.hok.write mu he k heo new)
theorem Inv.pins_of{pins':List (Addr×Obj)}(I:Inv X pins σ H s)(h:∀p∈pins',s.heap.get? p.1=some p.2/\H p.1=none/\p.1≠X.env.locals/\p.1∉X.fs/\∀v,p.2.data≠.cell v):Inv X pins' σ H s:=⟨I.ok,I.os,I.bare,I.base,I.loc,I.cell,I.free,I.freeC,fun p hp=>(List.mem_append.mp hp).elim (fun z=>I.pin p (List.mem_append_left _ z)) (h p),I.hok,I.len⟩
theorem r8{N:List Str}(hN:N.Nodup){i j:Nat}{x:Str}(a:N[i]? = some x)(b:N[j]? = some x):i=j:=by
 obtain⟨h1,e1⟩:=List.getElem?_eq_some_iff.mp a;obtain⟨h2,e2⟩:=List.getElem?_eq_some_iff.mp b;exact(List.getElem_inj hN).mp (e1.trans e2.symm)
theorem qS{M:Model}{A:Around}{E:Value->Shared->Prop}{i:Nat}{x:Str}{v:V}{u:Value}{Q:Unit->Shared->Prop}(I:Inv X pins σ H s)(hN:X.N.Nodup)(hi:X.N[i]? = some x)(hx:Loc X.env.scope x)(r:RelV v u)
  (h:∀s',Inv X pins (σ.set i (some v)) H s'->(∃a,Heap.SameBut a s.heap s'.heap/\(a=X.env.locals\/X.env.cells.lookup x=some a))->Q () s') (hf:X.fn x=true\/X.env.scope.names.lookup x=some .local:=by first|exact .inl rfl|exact .inr rfl|assumption):wpAny M A (storeName X.env x u) Q E s:=by
 obtain⟨m,hn,hl⟩:=id I.loc
 have hcls:(X.env.scope.kind == .class||(X.env.scope.kind == .module&&X.env.locals != X.env.globals))=false:=by rw[I.ok.kind];rfl
 have hiσ:i<σ.length:=by rw[I.len];exact(List.getElem?_eq_some_iff.mp hi).1
 have cne:=I.cne
 have tracked:∀{a:Addr}{h':Heap},(∃o,s.heap.get? a=some o/\H a=none)->Heap.SameBut a s.heap h'->HOk X.prog X.w H h':=fun {a h'} ha hs b ob e=>by
  obtain⟨_,_,hfree⟩:=ha;refine(I.hok b ob e).stay (fun c w' hc q=>(hs.2 c ?_).trans q) (fun _ q=>q) fun _ _ q=>q;rintro rfl
  rcases hc with rfl|hc
  .rw[hfree] at e;cases e
  .rw[hfree] at hc;cases hc
 rcases hx with hk|hk
 .refine wpAny_storeName_local hk hn (fun h' hn' hs=>?_) hcls
  obtain⟨oL,_,_,hoL,_⟩:=id hn;refine h _ ⟨I.ok,I.os,I.bare,⟨fun b o e n hb hx=>?_,fun b o e n hb hx=>?_,I.base.free,fun b o e hx=>?_,I.base.tups,I.base.frzs,I.base.tbls⟩,⟨_,hn',fun j y v' e1 e2 e3=>?_⟩,fun y c e=>?_,I.free,I.freeC,fun p hp=>?_,tracked ⟨oL,hoL,I.free⟩ hs,by simpa using I.len⟩ ⟨_,hs,.inl rfl⟩
  .exact(hs.2 b (Nat.ne_of_lt (Nat.lt_of_lt_of_le (Heap.lt_size e) I.ok.above))).trans (I.base.keep b o e n hb hx)
  .obtain⟨sl,e1⟩:=I.base.slot b o e n hb hx
   exact⟨sl,(hs.2 b (Nat.ne_of_lt (Nat.lt_of_lt_of_le (Heap.lt_size e) I.ok.above))).trans e1⟩
  .obtain⟨o',e1⟩:=I.base.there b o e hx
   exact⟨o',(hs.2 b (Nat.ne_of_lt (Nat.lt_of_lt_of_le (Heap.lt_size e) I.ok.above))).trans e1⟩
  .by_cases hj:j=i
   .subst hj
    rw[hi] at e1;cases e1;rw[List.getElem?_set_self hiσ] at e2;cases e2;exact⟨u,r,.inl ⟨hk,by simp⟩⟩
   .rw[List.getElem?_set_ne (Ne.symm hj)] at e2
    obtain⟨u',r',q⟩:=hl j y v' e1 e2 e3;refine⟨u',r',?_⟩
    rcases q with⟨k,e⟩|⟨k,c,e,z⟩
    .refine .inl ⟨k,?_⟩
     have:y≠x:=fun e=>hj (r8 hN e1 (e ▸ hi));simp[this,e]
    .exact .inr ⟨k,c,e,z.sameBut hs (cne y c e)⟩
  .obtain⟨w',z⟩:=I.cell y c e
   exact⟨w',z.sameBut hs (cne y c e)⟩
  .obtain⟨e,n,ne,nf,d⟩:=I.pin p hp
   exact⟨(hs.2 p.1 ne).trans e,n,ne,nf,d⟩
 .have hfn:X.fn x=true:=by
   rcases hf with z|z
   .exact z
   .rw[z] at hk;cases hk
  obtain⟨c,hc⟩:=I.ok.has x (.inl hk);obtain⟨w',z⟩:=I.cell x c hc;refine wpAny_storeName_cell I.ok.kind hk hc z (fun h' hc' hs=>?_);obtain⟨oc,hoc,hocd⟩:=id z;refine h { s with heap:=h' } ⟨I.ok,I.os,I.bare,⟨fun b o e n hb hx=>?_,fun b o e n hb hx=>?_,I.base.free,fun b o e hx=>?_,I.base.tups,I.base.frzs,I.base.tbls⟩,⟨m,hn.sameBut hs (Ne.symm (cne x c hc)),fun j y v' e1 e2 e3=>?_⟩,fun y c' e=>?_,I.free,I.freeC,fun p hp=>?_,tracked ⟨oc,hoc,I.freeC x c hc⟩ hs,by simpa using I.len⟩ ⟨c,hs,.inr hc⟩
  .exact(hs.2 b (Nat.ne_of_lt (Nat.lt_of_lt_of_le (Heap.lt_size e) (I.ok.cab x c hfn hc)))).trans (I.base.keep b o e n hb hx)
  .obtain⟨sl,e1⟩:=I.base.slot b o e n hb hx
   exact⟨sl,(hs.2 b (Nat.ne_of_lt (Nat.lt_of_lt_of_le (Heap.lt_size e) (I.ok.cab x c hfn hc)))).trans e1⟩
  .obtain⟨o',e1⟩:=I.base.there b o e hx
   exact⟨o',(hs.2 b (Nat.ne_of_lt (Nat.lt_of_lt_of_le (Heap.lt_size e) (I.ok.cab x c hfn hc)))).trans e1⟩
  .by_cases hj:j=i
   .subst hj
    rw[hi] at e1;cases e1;rw[List.getElem?_set_self hiσ] at e2;cases e2;exact⟨u,r,.inr ⟨.inl hk,c,hc,hc'⟩⟩
   .rw[List.getElem?_set_ne (Ne.symm hj)] at e2
    obtain⟨u',r',q⟩:=hl j y v' e1 e2 e3;refine⟨u',r',?_⟩
    rcases q with q|⟨k,c',e,z'⟩
    .exact .inl q
    .refine .inr ⟨k,c',e,z'.sameBut hs ?_⟩
     rintro rfl;exact hj (r8 hN e1 (I.ok.inj _ _ _ e hc ▸ hi))
  .by_cases hcc:c'=c
   .subst hcc;exact⟨_,hc'⟩
   .obtain⟨w2,z2⟩:=I.cell y c' e
    exact⟨w2,z2.sameBut hs hcc⟩
  .obtain⟨e,n,ne,nf,d⟩:=I.pin p hp
   refine⟨(hs.2 p.1 ?_).trans e,n,ne,nf,d⟩;intro q;rw[q,hoc] at e;have q':oc=p.2:=Option.some.inj e;exact d w' (by rw[←q'];exact hocd)
theorem mw{M:Model}{A:Around}{E:Value->Shared->Prop}{i:Nat}{x:Str}{v:V}{u:Value}{Q:Unit->Shared->Prop}(I:Inv X pins σ H s)(hN:X.N.Nodup)(hi:X.N[i]? = some x)(hx:Loc X.env.scope x)(r:RelV v u)
  (h:∀s',Inv X pins (σ.set i (some v)) H s'->Q () s') (hf:X.fn x=true\/X.env.scope.names.lookup x=some .local:=by first|exact .inl rfl|exact .inr rfl|assumption):wpAny M A (storeName X.env x u) Q E s:=qS I hN hi hx r (fun s' I' _=>h s' I') hf
theorem Inv.call'{s':Shared}{ch:List Addr}(I:Inv X pins σ H s)(ho:s'.os=s.os)(u:Un (frs X.stack) ch H H' s.heap s'.heap)(hok:HOk X.prog X.w H' s'.heap)(hg:AllBare s'.gens)
  (hch:∀b∈ch,(b∈X.ex\/X.s₀.heap.objs.size<=b)/\b≠X.env.locals/\(∀x c,X.env.cells.lookup x=some c->c≠b)/\∀p∈X.pn++pins,p.1≠b):Inv X pins σ H' s':=by
 obtain⟨h',g',d',t',o'⟩:=s';have e:o'=s.os:=ho;subst e;exact I.call (g':=g') (t':=t') (d':=d') u hok hg hch
end
abbrev XK:=Value->Option Addr->Hp->Prop
abbrev St:=List (Option V)
abbrev VK:=V->Hp->Prop
abbrev TE:=St->Hp->VK->Prop
abbrev TT:=St->Hp->(Bool->Hp->Prop)->Prop
abbrev TA:=St->Hp->(List V->Hp->Prop)->Prop
structure Ends where
 nx:St->Hp->Prop
 rt:VK
 bk:St->Hp->Prop:=fun _ _=>False
 ct:St->Hp->Prop:=fun _ _=>False
abbrev TS:=Ends->St->Hp->Prop
def EP(X:Cx)(pins:List (Addr×Obj))(σ:St)(Q:VK)(u:Value)(s':Shared):Prop:=∃v H',Inv X pins σ H' s'/\RelV v u/\Q v H'
def TP(X:Cx)(pins:List (Addr×Obj))(σ:St)(Q:Bool->Hp->Prop)(b:Bool)(s':Shared):Prop:=∃H',Inv X pins σ H' s'/\Q b H'
def AP(X:Cx)(pins:List (Addr×Obj))(σ:St)(Q:List V->Hp->Prop)(us:List Value)(s':Shared):Prop:=∃vs H',Inv X pins σ H' s'/\Vals vs us/\Q vs H'
def SP(X:Cx)(pins:List (Addr×Obj))(D:Ends)(f:Flow)(s':Shared):Prop:=
 match f with
 |.next=>∃σ' H',Inv X pins σ' H' s'/\D.nx σ' H'
 |.brk=>∃σ' H',Inv X pins σ' H' s'/\D.bk σ' H'
 |.cont=>∃σ' H',Inv X pins σ' H' s'/\D.ct σ' H'
 |.ret u=>∃v σ' H',Inv X pins σ' H' s'/\RelV v u/\D.rt v H'
def PE(X:Cx)(e:Expr)(t:TE):Prop:=∀(pins:List (Addr×Obj)) (s:Shared) (σ:St) (H:Hp) (Q:VK),Inv X pins σ H s->t σ H Q->wpAny (model X.prog X.w) X.A (eval e X.env) (EP X pins σ Q) X.xe s
def PT(X:Cx)(e:Expr)(t:TT):Prop:=∀(pins:List (Addr×Obj)) (s:Shared) (σ:St) (H:Hp) (Q:Bool->Hp->Prop),Inv X pins σ H s->t σ H Q->wpAny (model X.prog X.w) X.A (isTrue e X.env (eval e X.env)) (TP X pins σ Q) X.xe s
def PW(X:Cx)(e:Expr)(t:TT):Prop:=∀(whole:Sem Value) (pins:List (Addr×Obj)) (s:Shared) (σ:St) (H:Hp) (Q:Bool->Hp->Prop),Inv X pins σ H s->t σ H Q->wpAny (model X.prog X.w) X.A (isTrue e X.env whole) (TP X pins σ Q) X.xe s
theorem PW.pt{X:Cx}{e:Expr}{t:TT}(h:PW X e t):PT X e t:=h _
def PA(X:Cx)(es:List Expr)(t:TA):Prop:=∀(pos:Pos) (pins:List (Addr×Obj)) (s:Shared) (σ:St) (H:Hp) (Q:List V->Hp->Prop),Inv X pins σ H s->t σ H Q->wpAny (model X.prog X.w) X.A (spliced (backTo pos (starEach es X.env))) (AP X pins σ Q) X.xe s
def PS(X:Cx)(st:Stmt)(t:TS):Prop:=∀(pins:List (Addr×Obj)) (s:Shared) (σ:St) (H:Hp) (D:Ends),Inv X pins σ H s->t D σ H->wpAny (model X.prog X.w) X.A (exec st X.env) (SP X pins D) X.xe s
def PSs(X:Cx)(st:List Stmt)(t:TS):Prop:=∀(pins:List (Addr×Obj)) (s:Shared) (σ:St) (H:Hp) (D:Ends),Inv X pins σ H s->t D σ H->wpAny (model X.prog X.w) X.A (execs st X.env) (SP X pins D) X.xe s
theorem thn{α:Type}{t:Sem α}{Q Q':α->Shared->Prop}{M:Model}{A:Around}{E:Value->Shared->Prop}{s:Shared}(h:wpAny M A t Q E s)(hQ:∀a s,Q a s->Q' a s):wpAny M A t Q' E s:=wpAny_mono h hQ fun _ _ x=>x
section
variable {X:Cx}
def wc(i:Nat):TE:=fun σ H Q=>∃v,σ[i]? = some (some v)/\Q v H
def tC(v:V):TE:=fun _ H Q=>Q v H
theorem Dt{i:Nat}{x:Str}{pos:Pos}(hN:X.N[i]? = some x)(hv:Vis X.env.scope x)(hd:(x == ("__debug__" : Str))=false:=by decide)(hcd:(x == ("__classdict__" : Str))=false:=by decide):PE X (.Name x pos) (wc i):=by
 intro pins s σ H Q I h;obtain⟨v,e,h⟩:=h;obtain⟨m,hn,hl⟩:=I.loc;obtain⟨u,r,l⟩:=hl i x v hN e hv;have fin:EP X pins σ Q u s:=⟨v,H,I,r,h⟩
 rcases l with⟨hk,hm⟩|⟨hk,c,hc,hcell⟩
 .exact wpAny_Name (wpAny_loadName_local I.ok.kind hk hn hm fin) hd
 .rcases hk with hk|hk
  .exact wpAny_Name (wpAny_loadName_cell I.ok.kind hk hc hcell fin) hd
  .exact wpAny_Name (wpAny_loadName_free I.ok.kind hk hc hcell fin hcd) hd
theorem Dw{i j pos}:PE X (.Constant (.int i) j pos) (tC (.int i)):=fun _ _ _ H _ I h=>wpAny_Constant_int ⟨.int i,H,I.tok _,⟨_,rfl⟩,h⟩
theorem E4{b j pos}:PE X (.Constant (.bool b) j pos) (tC (.bl b)):=fun _ _ _ H _ I h=>Constant_bool ⟨.bl b,H,I,rfl,h⟩
theorem uG{j pos}:PE X (.Constant .none j pos) (tC .non):=fun _ _ _ H _ I h=>Constant_none ⟨.non,H,I,rfl,h⟩
theorem nT{x j pos}:PE X (.Constant (.str x) j pos) (tC (.str x)):=fun _ _ _ H _ I h=>Calls.Constant_str ⟨.str x,H,I.tok _,⟨_,rfl⟩,h⟩
def Gl(X:Cx)(x:Str):Prop:=X.env.kindOf x=some .globalImplicit
theorem tP{E:Value->Shared->Prop}{pins:List (Addr×Obj)}{s:Shared}{σ:St}{H:Hp}{x:Str}{u:Value}{pos:Pos}{Q:Value->Shared->Prop}(I:Inv X pins σ H s)(hg:Gl X x)(hm:X.mg x=some u)(h:Q u s)
  (hd:(x == ("__debug__" : Str))=false:=by decide):wpAny (model X.prog X.w) X.A (eval (.Name x pos) X.env) Q E s:=Calls.Name_function_global I.ok.kind hg (Calls.loadGlobal_global (by rw[I.ok.glob];exact I.mod.glob.keeps I.bk) hm h) hd
theorem gN{E:Value->Shared->Prop}{pins:List (Addr×Obj)}{s:Shared}{σ:St}{H:Hp}{x:Str}{u:Value}{pos:Pos}{Q:Value->Shared->Prop}(I:Inv X pins σ H s)(hg:Gl X x)(hm:X.mg x=none)(hv:bootBuiltins x=some u)(h:Q u s)
  (hn:x≠"__name__":=by decide) (hd:(x == ("__debug__" : Str))=false:=by decide):wpAny (model X.prog X.w) X.A (eval (.Name x pos) X.env) Q E s:=by
 obtain⟨mb,h1,h2⟩:=I.mod.blt;exact Calls.Name_function_global I.ok.kind hg (Calls.loadGlobal_builtin (by rw[I.ok.glob];exact I.mod.glob.keeps I.bk) hm (by rw[I.ok.blt];exact h1.keeps I.bk) ((h2 x hn).trans hv) h) hd
theorem kM{x:Str}{v:V}{u:Value}{pos:Pos}(hg:Gl X x)(hm:X.mg x=some u)(r:RelV v u)(hd:(x == ("__debug__" : Str))=false:=by decide):PE X (.Name x pos) (tC v):=fun _ _ _ H _ I h=>tP I hg hm ⟨v,H,I,r,h⟩ hd
theorem m6{x:Str}{v:V}{u:Value}{pos:Pos}(hg:Gl X x)(hm:X.mg x=none)(hv:bootBuiltins x=some u)(r:RelV v u)(hn:x≠"__name__":=by decide)(hd:(x == ("__debug__" : Str))=false:=by decide):PE X (.Name x pos) (tC v):=fun _ _ _ H _ I h=>gN I hg hm hv ⟨v,H,I,r,h⟩ hn hd
variable {a b:Expr}{ta tb:TE}{pos:Pos}
def PC(X:Cx)(op:CmpOp)(a b:Expr)(t:TE):Prop:=
 ∀(pins:List (Addr×Obj)) (s:Shared) (σ:St) (H:Hp) (Q:VK),Inv X pins σ H s->t σ H Q ->
  wpAny (model X.prog X.w) X.A (eval a X.env) (fun v s₁=>wpAny (model X.prog X.w) X.A (eval b X.env) (fun u s₂=>wpAny (model X.prog X.w) X.A (compareOp op v u) (EP X pins σ Q) X.xe s₂) X.xe s₁) X.xe s
def tB(t:TE):TT:=fun σ H Q=>t σ H fun x H1=>∃c,x=.bl c/\Q c H1
theorem Do{op:CmpOp}{t:TE}(h:PC X op a b t)(h1:behindInMarks op b=false:=by first|exact nobehind _ (by decide) (by decide)|rfl):PT X (.Compare a [op] [b] pos) (tB t):=by
 intro pins s σ H Q I hw;refine wpAny_isTrue_Compare1 (thn (h pins s σ H _ I hw) fun v s1 h1=>thn h1 fun u s2 h2=>thn h2 fun c s3 ⟨x,H1,I1,r1,q1⟩=>?_) h1;obtain⟨d,rfl,q⟩:=q1;cases r1;exact wpAny_truthy_bool ⟨H1,I1,q⟩
variable {tA tB':TT}{rest:List Expr}
def Gm(t u:TT):TT:=fun σ H Q=>t σ H fun c H1=>if c=true then u σ H1 Q else Q false H1
def tOr(t u:TT):TT:=fun σ H Q=>t σ H fun c H1=>if c=true then Q true H1 else u σ H1 Q
def Ge(t:TT):TT:=fun σ H Q=>t σ H fun c H1=>Q (!c) H1
theorem By(ha:PT X a tA):PW X (.BoolOp .And [a] pos) tA:=by
 intro wh pins s σ H Q I h;refine isTrue_and (thn (ha pins s σ H Q I h) fun c s1 e=>?_)
 cases c with
 |true=>exact isTrue_and_nil e
 |false=>exact e
theorem Dj(ha:PT X a tA):PW X (.BoolOp .Or [a] pos) tA:=by
 intro wh pins s σ H Q I h;refine isTrue_or (thn (ha pins s σ H Q I h) fun c s1 e=>?_)
 cases c with
 |false=>exact isTrue_or_nil e
 |true=>exact e
theorem Dk(ha:PT X a tA)(hb:PW X (.BoolOp .And (b::rest) pos) tB'):PW X (.BoolOp .And (a::b::rest) pos) (Gm tA tB'):=by
 intro wh pins s σ H Q I h;refine isTrue_and (thn (ha pins s σ H _ I h) fun c s1 ⟨H1,I1,q1⟩=>?_)
 cases c with
 |true=>exact hb wh pins s1 σ H1 Q I1 q1
 |false=>exact⟨H1,I1,q1⟩
theorem EW(ha:PT X a tA)(hb:PW X (.BoolOp .Or (b::rest) pos) tB'):PW X (.BoolOp .Or (a::b::rest) pos) (tOr tA tB'):=by
 intro wh pins s σ H Q I h;refine isTrue_or (thn (ha pins s σ H _ I h) fun c s1 ⟨H1,I1,q1⟩=>?_)
 cases c with
 |true=>exact⟨H1,I1,q1⟩
 |false=>exact hb wh pins s1 σ H1 Q I1 q1
theorem Dm(ha:PT X a tA):PT X (.UnaryOp .Not a pos) (Ge tA):=by
 intro pins s σ H Q I h;exact isTrue_not (ha pins s σ H (fun c H1=>Q (!c) H1) I h)
def EN(ta tb:TE):TE:=fun σ H Q=>ta σ H fun x H1=>∃c,x=.bl c/\if c=true then tb σ H1 Q else Q (.bl false) H1
def Gd(ta tb:TE):TE:=fun σ H Q=>ta σ H fun x H1=>∃c,x=.bl c/\if c=true then Q (.bl true) H1 else tb σ H1 Q
def EH(ta:TE):TE:=fun σ H Q=>ta σ H fun x H1=>∃c,x=.bl c/\Q (.bl (!c)) H1
theorem Du{op}{t:TE}(h:PE X a t):PE X (.BoolOp op [a] pos) t:=fun pins s σ H Q I hw=>BoolOp_one (h pins s σ H Q I hw)
theorem Dy(ha:PE X a ta)(hb:PE X (.BoolOp .And (b::rest) pos) tb):PE X (.BoolOp .And (a::b::rest) pos) (EN ta tb):=by
 intro pins s σ H Q I h;refine BoolOp_and (thn (ha pins s σ H _ I h) fun v s1 ⟨x,H1,I1,r1,q1⟩=>?_);obtain⟨c,rfl,q1⟩:=q1;cases r1;refine wpAny_truthy_bool ?_
 cases c with
 |true=>exact hb pins s1 σ H1 Q I1 q1
 |false=>exact⟨.bl false,H1,I1,rfl,q1⟩
theorem E1(ha:PE X a ta)(hb:PE X (.BoolOp .Or (b::rest) pos) tb):PE X (.BoolOp .Or (a::b::rest) pos) (Gd ta tb):=by
 intro pins s σ H Q I h;refine BoolOp_or (thn (ha pins s σ H _ I h) fun v s1 ⟨x,H1,I1,r1,q1⟩=>?_);obtain⟨c,rfl,q1⟩:=q1;cases r1;refine wpAny_truthy_bool ?_
 cases c with
 |false=>exact hb pins s1 σ H1 Q I1 q1
 |true=>exact⟨.bl true,H1,I1,rfl,q1⟩
theorem Dv(ha:PE X a ta):PE X (.UnaryOp .Not a pos) (EH ta):=by
 intro pins s σ H Q I h;refine UnaryOp_ (thn (ha pins s σ H _ I h) fun v s1 ⟨x,H1,I1,r1,q1⟩=>?_);obtain⟨c,rfl,q1⟩:=q1;cases r1;exact not_of (wpAny_truthy_bool ⟨.bl (!c),H1,I1,rfl,q1⟩)
def tIf(t:TT)(ta tb:TE):TE:=fun σ H Q=>t σ H fun c H1=>if c=true then ta σ H1 Q else tb σ H1 Q
theorem An{c:Expr}(hc:PT X c tA)(ha:PE X a ta)(hb:PE X b tb):PE X (.IfExp c a b pos) (tIf tA ta tb):=by
 intro pins s σ H Q I h;refine wpAny_IfExp (thn (hc pins s σ H _ I h) fun d s1 ⟨H1,I1,q1⟩=>?_)
 cases d with
 |true=>exact ha pins s1 σ H1 Q I1 q1
 |false=>exact hb pins s1 σ H1 Q I1 q1
end
def SqL(K:Frag)(H:Hp)(a:Addr)(xs:List V):Prop:=
 Rd H a (.lst xs) \/
  ∃(o:Obj) (its:Array Value) (n:Nat),K.lookup a=some o/\o.cls=.type "list"/\o.dict=none/\o.data=.seq its n/\its.size<=sizeLine/\Vals xs its.toList
def SqT(K:Frag)(H:Hp)(a:Addr)(xs:List V):Prop:=
 Rd H a (.tup xs) \/
  ∃(o:Obj) (its:Array Value) (n:Nat),K.lookup a=some o/\o.cls=.type "tuple"/\o.data=.seq its n/\its.size<=sizeLine/\Vals xs its.toList
def GM:Value->Option V
 |.none=>some .non
 |.bool b=>some (.bl b)
 |.int i _=>some (.int i)
 |.str x _=>some (.str x)
 |.bytes b _=>some (.byt b)
 |.float b _=>some (.flt b)
 |.ref a=>some (.ref a)
 |.type n=>some (.ty n)
 |_=>none
theorem RelV.abs{x:V}{u:Value}(r:RelV x u):GM u=some x:=by
 cases x with
 |non=>cases r;rfl
 |bl _=>cases r;rfl
 |int _=>obtain⟨t,rfl⟩:=r;rfl
 |str _=>obtain⟨t,rfl⟩:=r;rfl
 |byt _=>obtain⟨t,rfl⟩:=r;rfl
 |flt _=>obtain⟨t,rfl⟩:=r;rfl
 |ref _=>cases r;rfl
 |ty _=>cases r;rfl
theorem RelV.inj{x y:V}{u:Value}(r:RelV x u)(q:RelV y u):x=y:=Option.some.inj (r.abs.symm.trans q.abs)
theorem Vals.inj:∀{xs ys:List V}{us:List Value},Vals xs us->Vals ys us->xs=ys
 |_,_,_,.nil,.nil=>rfl
 |_,_,_,.cons r t,.cons r' t'=>by rw[r.inj r',Vals.inj t t']
section
variable {X:Cx}{pins:List (Addr×Obj)}{σ:St}{H:Hp}{s:Shared}{a:Addr}{xs ys:List V}
theorem SqL.of{K:Frag}(h:H a=some (.lst xs)):SqL K H a xs:=.inl (.inl h)
theorem SqT.of{K:Frag}(h:H a=some (.tup xs)):SqT K H a xs:=.inl (.inl h)
theorem Inv.list(I:Inv X pins σ H s)(h:SqL X.K H a xs):∃its:List Value,Vals xs its/\PlainL s.heap a its.toArray/\xs.length<=sizeLine:=by
 rcases h with h|⟨o,its,n,hk,hc,hd,hs,hz,r⟩
 .obtain⟨z,its,n,r,e⟩:=h.ok I.hok
  exact⟨its,r,⟨_,n,e,rfl,rfl,rfl⟩,z⟩
 .refine⟨its.toList,r,⟨o,n,I.kIn a o hk,hc,hd,by simpa using hs⟩,?_⟩
  have e:=r.length;simp only[Array.length_toList] at e;omega
theorem Inv.tuple(I:Inv X pins σ H s)(h:SqT X.K H a xs):∃its:List Value,Vals xs its/\IsTup s.heap a its.toArray/\xs.length<=sizeLine:=by
 rcases h with h|⟨o,its,n,hk,hc,hs,hz,r⟩
 .obtain⟨z,its,r,p⟩:=h.ok I.hok
  exact⟨its,r,p,z⟩
 .refine⟨its.toList,r,⟨o,I.kIn a o hk,hc,n,by simpa using hs⟩,?_⟩
  have e:=r.length;simp only[Array.length_toList] at e;omega
theorem Inv.list_inj(I:Inv X pins σ H s)(h:SqL X.K H a xs)(h':SqL X.K H a ys):xs=ys:=by
 obtain⟨its,r,⟨o,n,e,_,_,d⟩,_⟩:=I.list h;obtain⟨its',r',⟨o',n',e',_,_,d'⟩,_⟩:=I.list h';rw[e] at e';cases e';rw[d] at d'
 injection d' with d1 _
 have:its=its':=by simpa using congrArg Array.toList d1
 subst this;exact r.inj r'
theorem Inv.tuple_inj(I:Inv X pins σ H s)(h:SqT X.K H a xs)(h':SqT X.K H a ys):xs=ys:=by
 obtain⟨its,r,⟨o,e,_,n,d⟩,_⟩:=I.tuple h;obtain⟨its',r',⟨o',e',_,n',d'⟩,_⟩:=I.tuple h';rw[e] at e';cases e';rw[d] at d'
 injection d' with d1 _
 have:its=its':=by simpa using congrArg Array.toList d1
 subst this;exact r.inj r'
end
abbrev Cx.wish(X:Cx)(E:Value->Shared->Prop):Cx:={ X with xe:=E }
abbrev Cx.nox(X:Cx):Cx:=X.wish fun _ _=>False
theorem Cx.Ok.wish{X:Cx}(ok:X.Ok)(E:Value->Shared->Prop):(X.wish E).Ok:=⟨ok.mod,ok.kind,ok.glob,ok.blt,ok.above,ok.inj,ok.has,ok.cab,ok.hd,ok.frames,ok.stk,ok.exf,ok.bs,ok.bsz,ok.noex,ok.exfs,ok.funs,ok.frf⟩
theorem Cx.Ok.unwish{X:Cx}{E:Value->Shared->Prop}(ok:(X.wish E).Ok):X.Ok:=⟨ok.mod,ok.kind,ok.glob,ok.blt,ok.above,ok.inj,ok.has,ok.cab,ok.hd,ok.frames,ok.stk,ok.exf,ok.bs,ok.bsz,ok.noex,ok.exfs,ok.funs,ok.frf⟩
section
variable {X:Cx}{pins:List (Addr×Obj)}{σ:St}{H:Hp}{s:Shared}{E:Value->Shared->Prop}
theorem Inv.wish(I:Inv X pins σ H s)(E:Value->Shared->Prop):Inv (X.wish E) pins σ H s:=⟨I.ok.wish E,I.os,I.bare,I.base,I.loc,I.cell,I.free,I.freeC,I.pin,I.hok,I.len⟩
theorem Inv.unwish(I:Inv (X.wish E) pins σ H s):Inv X pins σ H s:=⟨I.ok.unwish,I.os,I.bare,I.base,I.loc,I.cell,I.free,I.freeC,I.pin,I.hok,I.len⟩
theorem SP.unwish{D:Ends}{f:Flow}{s':Shared}(h:SP (X.wish E) pins D f s'):SP X pins D f s':=by
 cases f with
 |next=>obtain⟨σ',H',I,q⟩:=h;exact⟨σ',H',I.unwish,q⟩
 |brk=>obtain⟨σ',H',I,q⟩:=h;exact⟨σ',H',I.unwish,q⟩
 |cont=>obtain⟨σ',H',I,q⟩:=h;exact⟨σ',H',I.unwish,q⟩
 |ret u=>obtain⟨v,σ',H',I,r,q⟩:=h;exact⟨v,σ',H',I.unwish,r,q⟩
theorem PSs.nox{st:List Stmt}{t:TS}(h:PSs X.nox st t):PSs X st t:=fun pins s σ H D I hw=>
 wpAny_mono (h pins s σ H D (I.wish _) hw) (fun _ _ q=>q.unwish) fun _ _ z=>False.elim z
end
section
variable {X:Cx}{st:Stmt}{rest:List Stmt}{t u:TS}{e:Expr}{te:TE}{pos:Pos}
def EI:TS:=fun D σ H=>D.nx σ H
def Gb(t u:TS):TS:=fun D σ H=>t { D with nx:=u D } σ H
theorem BG:PSs X [] EI:=fun _ _ σ H _ I h=>wpAny_execs_nil ⟨σ,H,I,h⟩
theorem rW(h1:PS X st t)(h2:PSs X rest u):PSs X (st::rest) (Gb t u):=by
 intro pins s σ H D I h;refine wpAny_execs_cons (thn (h1 pins s σ H { D with nx:=u D } I h) fun f s1 q=>?_)
 cases f with
 |next=>
  obtain⟨σ',H',I',q⟩:=q;exact h2 pins s1 σ' H' D I' q
 |ret v=>exact q
 |brk=>exact q
 |cont=>exact q
theorem BF(h1:PS X st t):PSs X [st] t:=by
 intro pins s σ H D I h;refine wpAny_execs_cons (thn (h1 pins s σ H D I h) fun f s1 q=>?_)
 cases f with
 |next=>exact wpAny_execs_nil q
 |ret v=>exact q
 |brk=>exact q
 |cont=>exact q
theorem Inv.quiet{pins:List (Addr×Obj)}{σ:St}{H:Hp}{s:Shared}(I:Inv X pins σ H s):interactive X.env=false:=by simp[interactive,I.ok.kind]
def EK(te:TE):TS:=fun D σ H=>te σ H fun _ H1=>D.nx σ H1
theorem mZ(he:PE X e te)(hs:swapsWith e none pos.line X.env=pure false:=by rfl):PS X (.Expr e pos) (EK te):=by
 intro pins s σ H D I h;exact wpAny_Expr_any (thn (he pins s σ H _ I h) fun v s1 ⟨x,H1,I1,r1,q1⟩=>⟨σ,H1,I1,q1⟩) I.quiet hs
def Gc(te:TE):TS:=fun D σ H=>te σ H D.rt
theorem nR(he:PE X e te):PS X (.Return (some e) pos) (Gc te):=by
 intro pins s σ H D I h;exact wpAny_Return_some (thn (he pins s σ H _ I h) fun v s1 ⟨x,H1,I1,r1,q1⟩=>⟨x,σ,H1,I1,r1,q1⟩)
def Gg(c:TT)(t u:TS):TS:=fun D σ H=>c σ H fun b H1=>if b=true then t D σ H1 else u D σ H1
theorem EX{c:Expr}{a b:List Stmt}{tc:TT}(hc:PT X c tc)(ha:PSs X a t)(hb:PSs X b u):PS X (.If c a b pos) (Gg tc t u):=by
 intro pins s σ H D I h;refine wpAny_If (thn (hc pins s σ H _ I h) fun d s1 ⟨H1,I1,q1⟩=>?_)
 cases d with
 |true=>exact ha pins s1 σ H1 D I1 q1
 |false=>exact hb pins s1 σ H1 D I1 q1
end
abbrev TG:=V->St->Hp->(St->Hp->Prop)->Prop
abbrev TGs:=List V->St->Hp->(St->Hp->Prop)->Prop
def PG(X:Cx)(target:Expr)(t:TG):Prop:=
 ∀(pins:List (Addr×Obj)) (s:Shared) (σ:St) (H:Hp) (v:V) (u:Value) (Q:St->Hp->Prop),Inv X pins σ H s->RelV v u->t v σ H Q ->
  wpAny (model X.prog X.w) X.A (assign target X.env u) (fun _ s'=>∃σ' H',Inv X pins σ' H' s'/\Q σ' H') X.xe s
def PGs(X:Cx)(ts:List Expr)(t:TGs):Prop:=
 ∀(pins:List (Addr×Obj)) (s:Shared) (σ:St) (H:Hp) (vs:List V) (us:List Value) (Q:St->Hp->Prop),Inv X pins σ H s->Vals vs us->t vs σ H Q ->
  wpAny (model X.prog X.w) X.A (assignInOrder ((assignEach ts X.env).map (·.2)) us) (fun _ s'=>∃σ' H',Inv X pins σ' H' s'/\Q σ' H') X.xe s
abbrev pC:=V->V->V->Hp->(Hp->Prop)->Prop
def wV(X:Cx)(t:pC):Prop:=
 ∀(pins:List (Addr×Obj)) (s:Shared) (σ:St) (H:Hp) (o i v:V) (ov iv u:Value) (Q:Hp->Prop),Inv X pins σ H s->RelV o ov->RelV i iv->RelV v u->t o i v H Q ->
  wpAny (model X.prog X.w) X.A (setItem ov iv u) (fun _ s'=>∃H',Inv X pins σ H' s'/\Q H') X.xe s
section
variable {X:Cx}{pos:Pos}
def vT(i:Nat):TG:=fun v σ H Q=>Q (σ.set i (some v)) H
theorem gC{i:Nat}{x:Str}(hN:X.N.Nodup)(hi:X.N[i]? = some x)(hx:Loc X.env.scope x)(hf:X.fn x=true\/X.env.scope.names.lookup x=some .local:=by first|exact .inl rfl|exact .inr rfl|assumption):PG X (.Name x pos) (vT i):=by
 intro pins s σ H v u Q I r h;exact wpAny_assign_Name (mw I hN hi hx r (fun s' I'=>⟨_,H,I',h⟩) hf)
def GC:TGs:=fun vs σ H Q=>vs=[]/\Q σ H
def Fy(t:TG)(u:TGs):TGs:=fun vs σ H Q=>∃v r,vs=v::r/\t v σ H fun σ' H'=>u r σ' H' Q
theorem tG:PGs X [] GC:=by
 intro pins s σ H vs us Q I r h;obtain⟨e,h⟩:=h;subst e;cases r;exact assignInOrder_nil ⟨σ,H,I,h⟩
theorem ip{e:Expr}{es:List Expr}{t:TG}{u:TGs}(h1:PG X e t)(h2:PGs X es u)
  (hs:(assignEach (e::es) X.env).map (·.2)=assign e X.env::(assignEach es X.env).map (·.2):=by rfl):PGs X (e::es) (Fy t u):=by
 intro pins s σ H vs us Q I r h;obtain⟨v,vr,e1,h⟩:=h;subst e1
 cases r with
 |cons r rr=>
  rw[hs];refine assignInOrder_cons (thn (h1 pins s σ H _ _ _ I r h) fun _ s1 ⟨σ1,H1,I1,q1⟩=>?_);exact h2 pins s1 σ1 H1 _ _ Q I1 rr q1
def GA(K:Frag)(n:Nat)(t:TGs):TG:=fun v σ H Q=>∃a xs,v=.ref a/\SqT K H a xs/\xs.length=n/\t xs σ H Q
theorem Dq{es:List Expr}{k:Nat}{t:TGs}{n:Nat}(hc:X.calm=true)(h:PGs X es t)
  (hn:(assignEach es X.env).length=n:=by rfl) (hst:(assignEach es X.env).findIdx? (·.1)=none:=by rfl):PG X (.Tuple es k pos) (GA X.K n t):=by
 intro pins s σ H v u Q I r hw;obtain⟨a,xs,e1,hq,hl,hw⟩:=hw;subst e1;cases r;obtain⟨its,rv,ht,hz⟩:=I.tuple hq;refine assign_Tuple_tuple (I.ok.hd hc) ht (by simp[hn,←hl,rv.length]) hst fun h' hx=>?_;have I1:Inv X pins σ H { s with heap:=h' }:=I.kept (t':=s.toks) fun b o e=>hx b o (Nat.ne_of_lt (Heap.lt_size e)) e;exact h pins _ σ H xs _ Q I1 (by simpa using rv) hw
def GB(to ti:TE)(t:pC):TG:=fun v σ H Q=>to σ H fun o H1=>ti σ H1 fun i H2=>t o i v H2 fun H3=>Q σ H3
theorem Dr{o i:Expr}{to ti:TE}{t:pC}(ho:PE X o to)(hi:PE X i ti)(hs:wV X t)
  (ha:∀v,assign (.Subscript o i pos) X.env v=(do
   let ov ←holding [v] (eval o X.env)
   let iv ←holding [v,ov] (eval i X.env)
   standAt pos
   holding [v,ov,iv] (setItem ov iv v)
   release [v,ov,iv] []):=by intro _;rfl):PG X (.Subscript o i pos) (GB to ti t):=by
 intro pins s σ H v u Q I r h;rw[ha];refine wpAny_bind (wpAny_holding (thn (ho pins s σ H _ I h) fun ov s1 ⟨x,H1,I1,r1,q1⟩=>?_));refine wpAny_bind (wpAny_holding (thn (hi pins s1 σ H1 _ I1 q1) fun iv s2 ⟨y,H2,I2,r2,q2⟩=>?_));refine wpAny_bind (wpAny_standAt (wpAny_bind (wpAny_holding (thn (hs pins s2 σ H2 x y v ov iv u _ I2 r1 r2 r q2) fun _ s3 ⟨H3,I3,q3⟩=>?_))));exact wpAny_release ⟨σ,H3,I3,q3⟩
def we(te:TE)(g:TG):TS:=fun D σ H=>te σ H fun x H1=>g x σ H1 D.nx
theorem uC{tg e:Expr}{te:TE}{g:TG}(he:PE X e te)(hg:PG X tg g)(hs:swapsWithSole [tg] e pos.line X.env=pure false:=by rfl)(hw:swappedStores [tg] e X.env=pure none:=by rfl)
  (h1:(assignEach [tg] X.env).map (·.2)=[assign tg X.env]:=by rfl):PS X (.Assign [tg] e pos) (we te g):=by
 intro pins s σ H D I h;refine wpAny_Assign_stores (thn (he pins s σ H _ I h) fun v s1 ⟨x,H1,I1,r1,q1⟩=>?_) hs hw;rw[h1];exact thn (hg pins s1 σ H1 x v _ I1 r1 q1) fun _ s2 q=>q
theorem fX{i:Nat}{x:Str}{e:Expr}{te:TE}{pos':Pos}(hN:X.N.Nodup)(hi:X.N[i]? = some x)(hx:Loc X.env.scope x)(he:PE X e te)(hs:swapsWith e (some (.Name x pos')) pos.line X.env=pure false:=by rfl)(hf:X.fn x=true\/X.env.scope.names.lookup x=some .local:=by first|exact .inl rfl|exact .inr rfl|assumption) :
  PS X (.Assign [.Name x pos'] e pos) (we te (vT i)):=by
 intro pins s σ H D I h;refine wpAny_Assign_Name (thn (he pins s σ H _ I h) fun v s1 ⟨y,H1,I1,r1,q1⟩=>?_) hs;exact mw I1 hN hi hx r1 (fun s2 I2=>⟨_,H1,I2,q1⟩) hf
def C3(c:TT)(tb:TS):TS:=fun D σ H=>∃W:Nat->St->Hp->Prop,(∃m,W m σ H)/\∀m σ H,W m σ H ->
 c σ H fun b H1=>if b=true then ∃N:St->Hp->Prop,(∀σ' H',N σ' H'->∃m',m' < m/\W m' σ' H')/\tb { D with nx:=N,ct:=N,bk:=D.nx } σ H1 else D.nx σ H1
theorem Ai{c:Expr}{body:List Stmt}{tc:TT}{tb:TS}(hp:PassesOwn (model X.prog X.w) X.A X.env X.xe)(hc:PT X c tc)(hb:PSs X body tb):PS X (.While c body [] pos) (C3 tc tb):=by
 intro pins s σ H D I h;obtain⟨W,⟨m0,w0⟩,turn⟩:=h;refine wpAny_While (codeAny_whileLoop (fun n s'=>∃σ' H',Inv X pins σ' H' s'/\W n σ' H') ?_ m0 ⟨σ,H,I,w0⟩);rintro n s1 ⟨σ1,H1,I1,w1⟩;refine wpAny_passesOwn hp (thn (hc pins s1 σ1 H1 _ I1 (turn n σ1 H1 w1)) fun b s2 ⟨H2,I2,q2⟩=>?_)
 cases b with
 |true=>
  obtain⟨N,hN,q2⟩:=q2;rw[if_pos rfl];refine wpAny_passesOwn hp (thn (hb pins s2 σ1 H2 _ I2 q2) fun f s3 q3=>?_)
  cases f with
  |next=>
   obtain⟨σ3,H3,I3,n3⟩:=q3;obtain⟨m',hm,w3⟩:=hN σ3 H3 n3;exact⟨m',hm,σ3,H3,I3,w3⟩
  |cont=>
   obtain⟨σ3,H3,I3,n3⟩:=q3;obtain⟨m',hm,w3⟩:=hN σ3 H3 n3;exact⟨m',hm,σ3,H3,I3,w3⟩
  |brk=>exact q3
  |ret v=>exact q3
 |false=>
  rw[if_neg Bool.false_ne_true];exact wpAny_execs_nil ⟨σ1,H2,I2,q2⟩
end
structure It where
 go:Nat->Hp->Prop
 yld:Nat->Hp->V->Hp->Prop
 stop:Nat->Hp->Prop
def dC(X:Cx)(pins:List (Addr×Obj))(H:Hp)(b:Addr):Prop:=H b=none/\b≠X.env.locals/\b∉X.fs/\(b∈X.ex\/X.s₀.heap.objs.size<=b)/\(∀x c,X.env.cells.lookup x=some c->c≠b)/\∀p∈X.pn++pins,p.1≠b
theorem Inv.fpOk{X:Cx}{pins:List (Addr×Obj)}{σ:St}{H H':Hp}{s:Shared}{b:Addr}(I:Inv X pins σ H s)(hb:s.heap.objs.size<=b)(hn:H' b=none):dC X pins H' b:=by
 refine⟨hn,Nat.ne_of_gt (Nat.lt_of_lt_of_le I.lt hb),I.nofs hb,.inr (Nat.le_trans I.sz hb),fun x c e z=>?_,fun p hp z=>?_⟩
 .obtain⟨v,q⟩:=I.cell x c e
  exact absurd (Nat.lt_of_lt_of_le q.lt (by rw[z];exact hb)) (Nat.lt_irrefl _)
 .exact absurd (Nat.lt_of_lt_of_le (Heap.lt_size (I.pin p hp).1) (by rw[z];exact hb)) (Nat.lt_irrefl _)
structure Turn(P:Program)(w:World)(K:Frag)(tg:Expr)(J:It)(fp:List Addr)(it:Addr)(tn:Nat->Heap->Prop):Prop where
 mem:it∈fp
 obj:∀i h,tn i h->∀b∈fp,∃o,h.get? b=some o/\∀v,o.data≠.cell v
 keep:∀i h h',tn i h->(∀b∈fp,∀o,h.get? b=some o->h'.get? b=some o)->tn i h'
 item:∀(X:Cx),X.prog=P->X.w=w->X.K=K->X.calm=true->∀(i:Nat) (pins:List (Addr×Obj)) (s:Shared) (σ:St) (H:Hp) (E:Value->Shared->Prop),Inv X pins σ H s->(∀b∈fp,dC X pins H b)->tn i s.heap->J.go i H ->
  wpAny (model P w) X.A (pyNext (.ref it)) (fun r s1=>∃u,r=some u /\
   wpAny (model P w) X.A (letOwnedTupleGo tg (.ref it) u) (fun _ s2=>∃x H',Inv X pins σ H' s2/\RelV x u/\J.yld i H x H'/\tn (i+1) s2.heap/\∀b∈fp,H' b=none) E s1) E s
 done:∀(X:Cx),X.prog=P->X.w=w->X.K=K->X.calm=true->∀(i:Nat) (pins:List (Addr×Obj)) (s:Shared) (σ:St) (H:Hp) (E:Value->Shared->Prop),Inv X pins σ H s->(∀b∈fp,dC X pins H b)->tn i s.heap->J.stop i H ->
  wpAny (model P w) X.A (pyNext (.ref it)) (fun r s1=>r=none/\Inv X pins σ H s1) E s
 self:∀(A:Around) (i:Nat) (s:Shared) (Q:Value->Shared->Prop) (E:Value->Shared->Prop),tn i s.heap->Q (.ref it) s->wpAny (model P w) A (pyIter (.ref it)) Q E s
abbrev TI:=St->Hp->(It->Hp->Prop)->Prop
def PIE(X:Cx)(pins:List (Addr×Obj))(σ:St)(tg:Expr)(R:It->Hp->Prop)(itv:Value)(s2:Shared):Prop:=∃(it:Addr) (fp:List Addr) (tn:Nat->Heap->Prop) (J:It) (H':Hp),itv=.ref it/\Inv X pins σ H' s2/\Turn X.prog X.w X.K tg J fp it tn/\tn 0 s2.heap/\(∀b∈fp,dC X pins H' b)/\R J H'
def PI(X:Cx)(tg iter:Expr)(wi:TI):Prop:=
 ∀(pins:List (Addr×Obj)) (s:Shared) (σ:St) (H:Hp) (R:It->Hp->Prop),Inv X pins σ H s->wi σ H R ->
  wpAny (model X.prog X.w) X.A (eval iter X.env) (fun v s1=>wpAny (model X.prog X.w) X.A (pyIter v) (PIE X pins σ tg R) X.xe s1) X.xe s
theorem jL{M:Model}{A:Around}{E:Value->Shared->Prop}{s:Shared}{tg:Expr}{it:Addr}{u:Value}{o:Obj}{n:String}{vs:Array Value}{Q:Unit->Shared->Prop}(ho:s.heap.get? it=some o)(hc:o.cls=.type n)(hd:o.data=.fields vs)
  (hn:["enumerate","zip","dict_itemiterator","dict_reverseitemiterator","odict_iterator","itertools.zip_longest","itertools.pairwise"].contains n=false) (hQ:Q () s):wpAny M A (letOwnedTupleGo tg (.ref it) u) Q E s:=by
 unfold letOwnedTupleGo
 cases tg <;> first
  |exact wpAny_pure hQ
  | (cases u <;> first
    |exact wpAny_pure hQ
    | (refine wpAny_bind (wpAny_load ho ?_)
       rw[hc,hd];show wpAny M A (if (["enumerate","zip","dict_itemiterator","dict_reverseitemiterator","odict_iterator","itertools.zip_longest","itertools.pairwise"].contains n&&vs[0]? == some (rawInt _))=true then _ else _) Q E s;rw[if_neg (by intro h;rw[hn,Bool.false_and] at h;cases h)]
       exact wpAny_pure hQ))
def Itl(K:Frag)(a:Addr):It:=⟨fun i H=>∃xs x,SqL K H a xs/\xs[i]? = some x,fun i H x H'=>H'=H/\∀xs,SqL K H a xs->xs[i]? = some x,fun i H=>∃xs,SqL K H a xs/\xs.length<=i⟩
def Itt(K:Frag)(a:Addr):It:=⟨fun i H=>∃xs x,SqT K H a xs/\xs[i]? = some x,fun i H x H'=>H'=H/\∀xs,SqT K H a xs->xs[i]? = some x,fun i H=>∃xs,SqT K H a xs/\xs.length<=i⟩
def Itr(lo:Int)(n:Nat):It:=⟨fun i _=>i<n,fun i H x H'=>H'=H/\x=.int (lo+i),fun i _=>n<=i⟩
theorem yZ{P:Program}{w:World}{K:Frag}{tg:Expr}(a it:Addr):Turn P w K tg (Itl K a) [it] it (fun i h=>h.IsListIter it a i) where
 mem:=by simp
 obj:=fun i h st b hb=>by
  have e:b=it:=by simpa using hb
  subst e;obtain⟨o,e,c,d⟩:=st;exact⟨o,e,fun v z=>by rw[d] at z;cases z⟩
 keep:=fun i h h' st k=>st.at fun o e=>k it (by simp) o e
 item:=by
  intro X hP hw hK hc i pins s σ H E I hf st hg;subst hP hw hK;obtain⟨xs,x,hq,hx⟩:=hg;obtain⟨its,rv,p,hz⟩:=I.list hq;obtain⟨u,hu,ru⟩:=rv.get hx;obtain⟨f0,f1,f2,f3,f4,f5⟩:=hf it (by simp);refine wpAny_pyNext_list_item st p.isList (x:=u) (by simpa using hu) fun h' st' sb=>?_;have I1:Inv X pins σ H { s with heap:=h' }:=I.turned (t':=s.toks) (fun b o hb e=>(sb.2 b hb).trans e) f0 f1 f3 f4 f5;obtain⟨o,e,c,d⟩:=id st';exact⟨u,rfl,jL (s:={ s with heap:=h' }) e c d (by decide) ⟨x,H,I1,ru,⟨rfl,fun ys hy=>by rw[I.list_inj hy hq];exact hx⟩,st',fun b hb=>(hf b hb).1⟩⟩
 done:=by
  intro X hP hw hK hc i pins s σ H E I hf st hg;subst hP hw hK;obtain⟨xs,hq,hx⟩:=hg;obtain⟨its,rv,p,hz⟩:=I.list hq;obtain⟨f0,f1,f2,f3,f4,f5⟩:=hf it (by simp);have hl:=rv.length;exact wpAny_pyNext_list_end (I.ok.hd hc) st p.isList (by simp;omega) fun h' eb=>⟨rfl,I.turned (t':=s.toks) (fun b o hb e=>eb b o hb e) f0 f1 f3 f4 f5⟩
 self:=fun _ _ _ _ _ st h=>wpAny_pyIter_listiter st h
theorem yk{P:Program}{w:World}{K:Frag}{tg:Expr}(a it:Addr):Turn P w K tg (Itt K a) [it] it (fun i h=>h.IsTupleIter it a i) where
 mem:=by simp
 obj:=fun i h st b hb=>by
  have e:b=it:=by simpa using hb
  subst e;obtain⟨o,e,c,d⟩:=st;exact⟨o,e,fun v z=>by rw[d] at z;cases z⟩
 keep:=fun i h h' st k=>st.at fun o e=>k it (by simp) o e
 item:=by
  intro X hP hw hK hc i pins s σ H E I hf st hg;subst hP hw hK;obtain⟨xs,x,hq,hx⟩:=hg;obtain⟨its,rv,p,hz⟩:=I.tuple hq;obtain⟨u,hu,ru⟩:=rv.get hx;obtain⟨f0,f1,f2,f3,f4,f5⟩:=hf it (by simp);refine wpAny_pyNext_tuple_item st (show s.heap.IsTuple a its.toArray from p) (x:=u) (by simpa using hu) fun h' st' sb=>?_;have I1:Inv X pins σ H { s with heap:=h' }:=I.turned (t':=s.toks) (fun b o hb e=>(sb.2 b hb).trans e) f0 f1 f3 f4 f5;obtain⟨o,e,c,d⟩:=id st';exact⟨u,rfl,jL (s:={ s with heap:=h' }) e c d (by decide) ⟨x,H,I1,ru,⟨rfl,fun ys hy=>by rw[I.tuple_inj hy hq];exact hx⟩,st',fun b hb=>(hf b hb).1⟩⟩
 done:=by
  intro X hP hw hK hc i pins s σ H E I hf st hg;subst hP hw hK;obtain⟨xs,hq,hx⟩:=hg;obtain⟨its,rv,p,hz⟩:=I.tuple hq;obtain⟨f0,f1,f2,f3,f4,f5⟩:=hf it (by simp);have hl:=rv.length;exact wpAny_pyNext_tuple_end (I.ok.hd hc) st (show s.heap.IsTuple a its.toArray from p) (by simp;omega) fun h' eb=>⟨rfl,I.turned (t':=s.toks) (fun b o hb e=>eb b o hb e) f0 f1 f3 f4 f5⟩
 self:=fun _ _ _ _ _ st h=>wpAny_pyIter_tupleiter st h
theorem yl{P:Program}{w:World}{K:Frag}{tg:Expr}(it:Addr)(lo:Int)(n:Nat):Turn P w K tg (Itr lo n) [it] it (fun i h=>IsRangeIter h it (lo+(i:Nat)*1) ((n:Int)-(i:Nat)) 1) where
 mem:=by simp
 obj:=fun i h st b hb=>by
  have e:b=it:=by simpa using hb
  subst e
  exact⟨_,st,fun v z=>by
   have z':Data.fields _=Data.cell v:=z
   cases z'⟩
 keep:=fun i h h' st k=>k it (by simp) _ st
 item:=by
  intro X hP hw hK hc i pins s σ H E I hf st hg;subst hP hw hK;obtain⟨f0,f1,f2,f3,f4,f5⟩:=hf it (by simp);have W:=Walks.range (prog:=X.prog) (w:=X.w) (I.ok.hd hc) it lo 1 n;refine W.item i s _ _ hg st fun v h' tk hv st' kk=>?_;obtain⟨t,rfl⟩:=hv;have I1:Inv X pins σ H { s with heap:=h',toks:=tk }:=I.turned (fun b o hb e=>kk b o (by simpa using hb) e) f0 f1 f3 f4 f5;refine⟨_,rfl,jL (s:={ s with heap:=h',toks:=tk }) (n:="range_iterator") st' rfl rfl (by decide) ⟨.int (lo+i),H,I1,⟨t,?_⟩,⟨rfl,rfl⟩,st',fun b hb=>(hf b hb).1⟩⟩;rw[Int.mul_one]
 done:=by
  intro X hP hw hK hc i pins s σ H E I hf st hg;subst hP hw hK;obtain⟨f0,f1,f2,f3,f4,f5⟩:=hf it (by simp);exact wpAny_pyNext_range_end (I.ok.hd hc) st (by have:n<=i:=hg;omega) fun h' eb=>⟨rfl,I.turned (t':=s.toks) (fun b o hb e=>eb b o hb e) f0 f1 f3 f4 f5⟩
 self:=fun _ _ _ _ _ st h=>wpAny_pyIter_rangeiter st h
section
variable {X:Cx}{tg:Expr}
theorem rV{pins:List (Addr×Obj)}{σ:St}{H:Hp}{s:Shared}{R:It->Hp->Prop}{E:Value->Shared->Prop}{lo hi:Int}{t u v:Tok}{tk:Nat}(I:Inv X pins σ H s)(h1 : -(2^62)<=lo)(h2:lo<2^62)(h3 : -(2^62)<=hi)(h4:hi<2^62)
  (q:R (Itr lo (hi-lo).toNat) H):wpAny (model X.prog X.w) X.A (pyIter (.ref s.heap.objs.size)) (PIE X pins σ tg R) E { s with heap:=s.heap.push { cls:=.type "range",data:=.fields #[.int lo t,.int hi u,.int 1 v] },toks:=tk }:=by
 refine wpAny_pyIter_range (IsRange.new ..) (small_one h1 h2 h3 h4) ?_;have I1:Inv X pins σ H { s with heap:=s.heap.push { cls:=.type "range",data:=.fields #[.int lo t,.int hi u,.int 1 v] },toks:=tk }:=I.kept fun b o e=>Heap.get?_push_of_some _ e
 refine⟨(s.heap.push { cls:=.type "range",data:=.fields #[.int lo t,.int hi u,.int 1 v] }).objs.size,[(s.heap.push { cls:=.type "range",data:=.fields #[.int lo t,.int hi u,.int 1 v] }).objs.size],_,_,H,rfl,
  I1.kept (t':=tk) fun b o e=>Heap.get?_push_of_some _ e,yl _ lo (hi-lo).toNat,?_,fun b hb=>?_,q⟩
 .have e1:lo+((0:Nat):Int)*1=lo:=by simp
  have e2:(((hi-lo).toNat:Nat):Int)-((0:Nat):Int)=Builtin.Range.rangeSize lo hi 1:=by rw[rangeSize_one];split <;> omega
  show IsRangeIter _ _ (lo+((0:Nat):Int)*1) ((((hi-lo).toNat:Nat):Int)-((0:Nat):Int)) 1;rw[e1,e2];exact Heap.get?_push_size _ rfl
 .have e:b=(s.heap.push { cls:=.type "range",data:=.fields #[.int lo t,.int hi u,.int 1 v] }).objs.size:=by simpa using hb
  subst e;exact I1.fpOk (Nat.le_refl _) (I1.hok.fresh (Nat.le_refl _))
def Fu(ta:TA):TI:=fun σ H R=>ta σ H fun vs H1=>∃j:Int,vs=[.int j]/\-(2^62)<=j/\j<2^62/\R (Itr 0 j.toNat) H1
def Ft(ta:TA):TI:=fun σ H R=>ta σ H fun vs H1=>∃i j:Int,vs=[.int i,.int j]/\(-(2^62)<=i/\i<2^62/\-(2^62)<=j/\j<2^62)/\R (Itr i (j-i).toNat) H1
theorem zf{a:Expr}{ta:TA}{p pos:Pos}(hg:Gl X "range")(hm:X.mg "range"=none)(ha:PA X [a] ta)(hs:starEach [a] X.env=[(false,eval a X.env)]:=by rfl):PI X tg (.Call (.Name "range" p) [a] [] pos) (Fu ta):=by
 intro pins s σ H R I h;refine Call_ (gN I hg hm boot_range (PyProof.Rows.callWith_type1 (thn (ha pos pins s σ H _ I h) fun us s1 ⟨vs,H1,I1,r1,q1⟩=>?_) hs rfl));obtain⟨j,e,q1,q2,q⟩:=q1;subst e
 cases r1 with
 |cons r rr=>
  cases rr;obtain⟨t,rfl⟩:=r;exact call_range_1 (rV I1 (by omega) (by omega) q1 q2 (by simpa using q))
theorem ze{a b:Expr}{ta:TA}{p pos:Pos}(hg:Gl X "range")(hm:X.mg "range"=none)(ha:PA X [a,b] ta)(hs:starEach [a,b] X.env=[(false,eval a X.env),(false,eval b X.env)]:=by rfl)(hs2:starEach [b] X.env=[(false,eval b X.env)]:=by rfl) :
  PI X tg (.Call (.Name "range" p) [a,b] [] pos) (Ft ta):=by
 intro pins s σ H R I h;refine Call_ (gN I hg hm boot_range (PyProof.Rows.callWith_type1 (thn (ha pos pins s σ H _ I h) fun us s1 ⟨vs,H1,I1,r1,q1⟩=>?_) (by rw[hs,hs2]) (by rw[hs2];rfl)));obtain⟨i,j,e,⟨q1,q2,q3,q4⟩,q⟩:=q1;subst e
 cases r1 with
 |cons r rr=>
  cases rr with
  |cons r' rr=>
   cases rr;obtain⟨t,rfl⟩:=r;obtain⟨t',rfl⟩:=r';exact call_range_2 (rV I1 q1 q2 q3 q4 q)
def Gi(wi:TI)(g:TG)(tb:TS):TS:=fun D σ H=>wi σ H fun J H1=>∃W:Nat->Nat->St->Hp->Prop,(∃m,W 0 m σ H1)/\∀i m σ H,W i m σ H ->
 (J.stop i H/\D.nx σ H)\/(J.go i H/\∃N:St->Hp->Prop,(∀σ' H',N σ' H'->∃m',m' < m/\W (i+1) m' σ' H')/\∀x H',J.yld i H x H'->g x σ H' fun σ2 H2=>tb { D with nx:=N,ct:=N,bk:=D.nx } σ2 H2)
def fY(fp:List Addr)(h:Heap):List (Addr×Obj):=fp.filterMap fun b=>(h.get? b).map fun o=>(b,o)
theorem j8{fp:List Addr}{h:Heap}{b:Addr}{o:Obj}(hb:b∈fp)(e:h.get? b=some o):(b,o)∈fY fp h:=List.mem_filterMap.mpr ⟨b,hb,by rw[e];rfl⟩
theorem zj{fp:List Addr}{h:Heap}{p:Addr×Obj}(hp:p∈fY fp h):p.1∈fp/\h.get? p.1=some p.2:=by
 obtain⟨b,hb,e⟩:=List.mem_filterMap.mp hp
 cases q:h.get? b with
 |none=>rw[q] at e;cases e
 |some o=>
  rw[q] at e;have e':(b,o)=p:=Option.some.inj e;subst e';exact⟨hb,q⟩
theorem Inv.pinned{pins:List (Addr×Obj)}{σ:St}{H:Hp}{s:Shared}{fp:List Addr}(I:Inv X pins σ H s)(hf:∀b∈fp,dC X pins H b)(ho:∀b∈fp,∃o,s.heap.get? b=some o/\∀v,o.data≠.cell v):Inv X (pins++fY fp s.heap) σ H s:=
 I.pins_of fun p hp=>(List.mem_append.mp hp).elim (fun z=>I.pin p (List.mem_append_right _ z)) fun z=>by
  obtain⟨hb,e⟩:=zj z;obtain⟨f0,f1,f2,_⟩:=hf p.1 hb;obtain⟨o,e',d⟩:=ho p.1 hb;rw[e] at e';cases e';exact⟨e,f0,f1,f2,d⟩
theorem Inv.unpinned{pins pl:List (Addr×Obj)}{σ:St}{H:Hp}{s:Shared}(I:Inv X (pins++pl) σ H s):Inv X pins σ H s:=I.pins_of fun p hp=>I.pin p (List.mem_append_right _ (List.mem_append_left _ hp))
theorem uB{iter:Expr}{body:List Stmt}{wi:TI}{g:TG}{tb:TS}{pos:Pos}(hp:PassesOwn (model X.prog X.w) X.A X.env X.xe)(hc:X.calm=true)(hi:PI X tg iter wi)(hg:PG X tg g)(hb:PSs X body tb)
  (hs:∀x,foldedSetIterable iter X.env x=pure x:=by intro _;rfl):PS X (.For tg iter body [] pos) (Gi wi g tb):=by
 intro pins s σ H D I h;refine wpAny_For (thn (hi pins s σ H _ I h) fun v s1 h1=>thn h1 fun itv s2 h2=>?_) hs;obtain⟨it,fp,tn,J,H2,e,I2,T,st2,f2,W,⟨m0,w0⟩,turn⟩:=h2;subst e;have stat:∀{H':Hp},(∀b∈fp,H' b=none)->∀b∈fp,dC X pins H' b:=fun hn b hb=>⟨hn b hb,(f2 b hb).2⟩;refine codeAny_forLoop_any (fun n s'=>∃i σ' H',Inv X pins σ' H' s'/\tn i s'.heap/\(∀b∈fp,H' b=none)/\W i n σ' H') ?_ m0 ⟨0,σ,H2,I2,st2,fun b hb=>(f2 b hb).1,w0⟩;rintro n s3 ⟨i,σ3,H3,I3,st3,fr3,w3⟩
 rcases turn i n σ3 H3 w3 with⟨stop,qn⟩|⟨go,N,hN,step⟩
 .refine wpAny_passesOwn hp (thn (T.done X rfl rfl rfl hc i pins s3 σ3 H3 X.xe I3 (stat fr3) st3 stop) fun r s4 ⟨hr,I4⟩=>?_)
  subst hr;exact wpAny_execs_nil ⟨σ3,H3,I4,qn⟩
 .refine wpAny_passesOwn hp (thn (T.item X rfl rfl rfl hc i pins s3 σ3 H3 X.xe I3 (stat fr3) st3 go) fun r s4 ⟨u,hr,h4⟩=>?_)
  subst hr;refine wpAny_passesOwn hp (thn h4 fun _ s5 ⟨x,H5,I5,r5,y5,st5,fr5⟩=>?_);have I5':=I5.pinned (stat fr5) (T.obj _ _ st5);refine wpAny_passesOwn hp (thn (hg _ s5 σ3 H5 x u _ I5' r5 (step x H5 y5)) fun _ s6 ⟨σ6,H6,I6,q6⟩=>?_);refine wpAny_passesOwn hp (thn (hb _ s6 σ6 H6 _ I6 q6) fun f s7 q7=>?_)
  have again:∀{σ7:St}{H7:Hp},Inv X (pins++fY fp s5.heap) σ7 H7 s7->N σ7 H7->∃m,m<n/\∃i σ' H',Inv X pins σ' H' s7/\tn i s7.heap/\(∀b∈fp,H' b=none)/\W i m σ' H':=fun {σ7 H7} I7 n7=>by
   obtain⟨m',hm,w7⟩:=hN σ7 H7 n7;refine⟨m',hm,i+1,σ7,H7,I7.unpinned,T.keep _ _ _ st5 fun b hb o e=>(I7.pin (b,o) (List.mem_append_right _ (List.mem_append_right _ (j8 hb e)))).1,fun b hb=>?_,w7⟩;obtain⟨o,e,d⟩:=T.obj _ _ st5 b hb;exact(I7.pin (b,o) (List.mem_append_right _ (List.mem_append_right _ (j8 hb e)))).2.1
  cases f with
  |next=>obtain⟨σ7,H7,I7,n7⟩:=q7;exact again I7 n7
  |cont=>obtain⟨σ7,H7,I7,n7⟩:=q7;exact again I7 n7
  |brk=>obtain⟨σ7,H7,I7,q7⟩:=q7;exact⟨σ7,H7,I7.unpinned,q7⟩
  |ret v=>obtain⟨x7,σ7,H7,I7,r7,q7⟩:=q7;exact⟨x7,σ7,H7,I7.unpinned,r7,q7⟩
end
abbrev R2:=V->V->Hp->VK->Prop
def OpR(X:Cx)(f:Value->Value->Sem Value)(r:R2):Prop:=
 ∀(pins:List (Addr×Obj)) (s:Shared) (σ:St) (H:Hp) (x y:V) (v u:Value) (Q:VK),Inv X pins σ H s->RelV x v->RelV y u->r x y H Q ->
  wpAny (model X.prog X.w) X.A (f v u) (EP X pins σ Q) X.xe s
def UnR(X:Cx)(f:Value->Sem Value)(r:V->Hp->VK->Prop):Prop:=
 ∀(pins:List (Addr×Obj)) (s:Shared) (σ:St) (H:Hp) (x:V) (v:Value) (Q:VK),Inv X pins σ H s->RelV x v->r x H Q ->
  wpAny (model X.prog X.w) X.A (f v) (EP X pins σ Q) X.xe s
def CallR(X:Cx)(f:Value)(r:List V->Hp->VK->Prop):Prop:=
 ∀(pins:List (Addr×Obj)) (s:Shared) (σ:St) (H:Hp) (xs:List V) (us:List Value) (Q:VK),Inv X pins σ H s->Vals xs us->r xs H Q ->
  wpAny (model X.prog X.w) X.A (call f us) (EP X pins σ Q) X.xe s
def GN(X:Cx)(r:V->Hp->(Bool->Hp->Prop)->Prop):Prop:=
 ∀(pins:List (Addr×Obj)) (s:Shared) (σ:St) (H:Hp) (x:V) (v:Value) (Q:Bool->Hp->Prop),Inv X pins σ H s->RelV x v->r x H Q ->
  wpAny (model X.prog X.w) X.A (truthy v) (TP X pins σ Q) X.xe s
def tOp(r:R2)(ta tb:TE):TE:=fun σ H Q=>ta σ H fun x H1=>tb σ H1 fun y H2=>r x y H2 Q
def tUn(r:V->Hp->VK->Prop)(ta:TE):TE:=fun σ H Q=>ta σ H fun x H1=>r x H1 Q
def rI(C:Int->Int->Prop)(g:Int->Int->V):R2:=fun x y H Q=>∃i j,x=.int i/\y=.int j/\C i j/\Q (g i j) H
def rI0(g:Int->Int->V):R2:=fun x y H Q=>∃i j,x=.int i/\y=.int j/\Q (g i j) H
def rU(g:Int->V):V->Hp->VK->Prop:=fun x H Q=>∃i,x=.int i/\Q (g i) H
section
variable {X:Cx}{a b c:Expr}{ta tb tc:TE}{pos:Pos}
theorem pA(ha:PE X a ta)(hb:PE X b tb){pins:List (Addr×Obj)}{s:Shared}{σ:St}{H:Hp}{R:V->V->Hp->Prop}(I:Inv X pins σ H s)
  (h:ta σ H fun x H1=>tb σ H1 fun y H2=>R x y H2) {Q:Value->Shared->Prop}{f:Value->Value->Sem Value}
  (hf:∀v u s2 x y H2,Inv X pins σ H2 s2->RelV x v->RelV y u->R x y H2->wpAny (model X.prog X.w) X.A (f v u) Q X.xe s2) :
  wpAny (model X.prog X.w) X.A (eval a X.env) (fun v s₁=>wpAny (model X.prog X.w) X.A (eval b X.env) (fun u s₂=>wpAny (model X.prog X.w) X.A (f v u) Q X.xe s₂) X.xe s₁) X.xe s:=by
 refine thn (ha pins s σ H _ I h) fun v s1 ⟨x,H1,I1,r1,q1⟩=>?_;refine thn (hb pins s1 σ H1 _ I1 q1) fun u s2 ⟨y,H2,I2,r2,q2⟩=>?_;exact hf v u s2 x y H2 I2 r1 r2 q2
theorem E2{op:Operator}{r:R2}(ho:OpR X (binaryOp op) r)(ha:PE X a ta)(hb:PE X b tb):PE X (.BinOp a op b pos) (tOp r ta tb):=by
 intro pins s σ H Q I h;exact wpAny_BinOp (pA ha hb I h fun v u s2 x y H2 I2 rx ry q=>ho pins s2 σ H2 x y v u Q I2 rx ry q)
theorem EZ{op:UnaryOp}{r:V->Hp->VK->Prop}(ho:UnR X (unaryOp op) r)(ha:PE X a ta):PE X (.UnaryOp op a pos) (tUn r ta):=by
 intro pins s σ H Q I h;exact UnaryOp_ (thn (ha pins s σ H _ I h) fun v s1 ⟨x,H1,I1,r1,q1⟩=>ho pins s1 σ H1 x v Q I1 r1 q1)
theorem opI{f:Value->Value->Sem Value}{C:Int->Int->Prop}{g:Int->Int->Int}
  (rule:∀(i j:Int) (t u:Tok) (s:Shared) (Q:Value->Shared->Prop) (E:Value->Shared->Prop),C i j->Q (.int (g i j) s.toks) { s with toks:=s.toks+1 }->wpAny (model X.prog X.w) X.A (f (.int i t) (.int j u)) Q E s) :
  OpR X f (rI C fun i j=>.int (g i j)):=by
 intro pins s σ H x y v u Q I rx ry h;obtain⟨i,j,rfl,rfl,hc,q⟩:=h;obtain⟨t,rfl⟩:=rx;obtain⟨t',rfl⟩:=ry;exact rule i j t t' s _ _ hc ⟨.int (g i j),H,I.tok _,⟨_,rfl⟩,q⟩
theorem wA{f:Value->Value->Sem Value}{g:Int->Int->Int}
  (rule:∀(i j:Int) (t u:Tok) (s:Shared) (Q:Value->Shared->Prop) (E:Value->Shared->Prop),Q (.int (g i j) s.toks) { s with toks:=s.toks+1 }->wpAny (model X.prog X.w) X.A (f (.int i t) (.int j u)) Q E s) :
  OpR X f (rI0 fun i j=>.int (g i j)):=by
 intro pins s σ H x y v u Q I rx ry h;obtain⟨i,j,rfl,rfl,q⟩:=h;obtain⟨t,rfl⟩:=rx;obtain⟨t',rfl⟩:=ry;exact rule i j t t' s _ _ ⟨.int (g i j),H,I.tok _,⟨_,rfl⟩,q⟩
theorem lM{f:Value->Value->Sem Value}{g:Int->Int->Bool}
  (rule:∀(i j:Int) (t u:Tok) (s:Shared) (Q:Value->Shared->Prop) (E:Value->Shared->Prop),Q (.bool (g i j)) s->wpAny (model X.prog X.w) X.A (f (.int i t) (.int j u)) Q E s) :
  OpR X f (rI0 fun i j=>.bl (g i j)):=by
 intro pins s σ H x y v u Q I rx ry h;obtain⟨i,j,rfl,rfl,q⟩:=h;obtain⟨t,rfl⟩:=rx;obtain⟨t',rfl⟩:=ry;exact rule i j t t' s _ _ ⟨.bl (g i j),H,I,rfl,q⟩
def GP(i j:Int):Prop:=0<=j/\j<=1000000/\i.natAbs<2^64
def CMul(i j:Int):Prop:=(-(2^64)<i/\i<2^64)\/(-(2^64)<j/\j<2^64)
theorem CMul.ok{i j:Int}(h:CMul i j):IntMulOk i j:=by
 rcases h with⟨h1,h2⟩|⟨h1,h2⟩
 .exact .of_left (intBits_le_64 h1 h2)
 .exact .of_right (intBits_le_64 h1 h2)
theorem op_add:OpR X (binaryOp .Add) (rI0 fun i j=>.int (i+j)):=wA fun _ _ _ _ _ _ _ q=>add_int q
theorem DB:OpR X (binaryOp .Sub) (rI0 fun i j=>.int (i-j)):=wA fun _ _ _ _ _ _ _ q=>sub_int q
theorem op_mul:OpR X (binaryOp .Mult) (rI CMul fun i j=>.int (i*j)):=opI fun _ _ _ _ _ _ _ hc q=>mul_int q hc.ok
theorem DF:OpR X (binaryOp .Mod) (rI (fun _ j=>0<j) fun i j=>.int (i % j)):=opI fun i j _ _ _ _ _ hc q=>by
 have h1:(0:Int)<j:=hc;exact mod_int' (by omega) (by rw[Int.fmod_eq_emod_of_nonneg i (by omega)];exact q)
theorem DC:OpR X (binaryOp .Pow) (rI GP fun i j=>.int (i^j.toNat)):=opI fun _ _ _ _ _ _ _ hc q=>pow_int_small hc.1 hc.2.1 hc.2.2 q
theorem unI{f:Value->Sem Value}{g:Int->Int}
  (rule:∀(i:Int) (t:Tok) (s:Shared) (Q:Value->Shared->Prop) (E:Value->Shared->Prop),Q (.int (g i) s.toks) { s with toks:=s.toks+1 }->wpAny (model X.prog X.w) X.A (f (.int i t)) Q E s) :
  UnR X f (rU fun i=>.int (g i)):=by
 intro pins s σ H x v Q I rx h;obtain⟨i,rfl,q⟩:=h;obtain⟨t,rfl⟩:=rx;exact rule i t s _ _ ⟨.int (g i),H,I.tok _,⟨_,rfl⟩,q⟩
theorem CY:UnR X (unaryOp .USub) (rU fun i=>.int (-i)):=unI fun _ _ _ _ _ q=>neg_int q
end
def oW:V->V->Bool
 |.non,.non=>true | .non,.int _=>true | .int _,.non=>true | .non,.bl _=>true | .bl _,.non=>true | .non,.str _=>true | .str _,.non=>true
 |.int _,.int _=>true | .bl _,.bl _=>true | .str _,.str _=>true | .byt _,.byt _=>true
 |.int _,.str _=>true | .str _,.int _=>true | .bl _,.str _=>true | .str _,.bl _=>true
 |_,_=>false
def rEq:R2:=fun x y H Q=>oW x y=true/\Q (.bl (decide (x=y))) H
def rNe:R2:=fun x y H Q=>oW x y=true/\Q (.bl (!decide (x=y))) H
theorem ud{i j:Int}:decide (V.int i=V.int j)=(i == j):=by
 rw[Bool.eq_iff_iff];simp
theorem va{i j:Bool}:decide (V.bl i=V.bl j)=(i == j):=by
 rw[Bool.eq_iff_iff];simp
theorem ub{i j:Str}:decide (V.str i=V.str j)=(i == j):=by
 rw[Bool.eq_iff_iff];simp
theorem ue{i j:Array UInt8}:decide (V.byt i=V.byt j)=(i.toList == j.toList):=by
 rw[Bool.eq_iff_iff];cases i;cases j;simp
section
variable {X:Cx}{a b c:Expr}{ta tb tc:TE}{pos:Pos}
theorem bA{pins:List (Addr×Obj)}{σ:St}{H:Hp}{s:Shared}{Q:VK}{k k':Bool}(I:Inv X pins σ H s)(q:Q (.bl k) H)(e:k=k'):EP X pins σ Q (.bool k') s:=by
 subst e;exact⟨.bl k,H,I,rfl,q⟩
theorem Ff:OpR X (compareOp .Eq) rEq:=by
 intro pins s σ H x y v u Q I rx ry h;obtain⟨hs,q⟩:=h
 cases x with
 |non=>
  cases rx
  cases y with
  |non=>cases ry;exact PySem.EqNone.eq_none_none (bA I q (by simp))
  |bl j=>cases ry;exact PySem.EqNone.eq_none_bool (bA I q (by simp))
  |int j=>obtain⟨t',rfl⟩:=ry;exact PySem.EqNone.eq_none_int (bA I q (by simp))
  |str j=>obtain⟨t',rfl⟩:=ry;exact PySem.EqNone.eq_none_str (bA I q (by simp))
  |_=>exact absurd (show false=true from hs) Bool.false_ne_true
 |bl i=>
  cases rx
  cases y with
  |non=>cases ry;exact PySem.EqNone.eq_bool_none (bA I q (by simp))
  |bl j=>cases ry;exact eq_bool (bA I q va)
  |str j=>obtain⟨t',rfl⟩:=ry;exact PySem.EqMixed.eq_bool_str (bA I q (by simp))
  |_=>exact absurd (show false=true from hs) Bool.false_ne_true
 |int i=>
  obtain⟨t,rfl⟩:=rx
  cases y with
  |non=>cases ry;exact PySem.EqNone.eq_int_none (bA I q (by simp))
  |int j=>obtain⟨t',rfl⟩:=ry;exact eq_int (bA I q ud)
  |str j=>obtain⟨t',rfl⟩:=ry;exact PySem.EqMixed.eq_int_str (bA I q (by simp))
  |_=>exact absurd (show false=true from hs) Bool.false_ne_true
 |str i=>
  obtain⟨t,rfl⟩:=rx
  cases y with
  |non=>cases ry;exact PySem.EqNone.eq_str_none (bA I q (by simp))
  |bl j=>cases ry;exact PySem.EqMixed.eq_str_bool (bA I q (by simp))
  |int j=>obtain⟨t',rfl⟩:=ry;exact PySem.EqMixed.eq_str_int (bA I q (by simp))
  |str j=>obtain⟨t',rfl⟩:=ry;exact eq_str (bA I q ub)
  |_=>exact absurd (show false=true from hs) Bool.false_ne_true
 |byt i=>
  obtain⟨t,rfl⟩:=rx
  cases y with
  |byt j=>obtain⟨t',rfl⟩:=ry;exact PySem.W.eq_bytes (bA I q ue)
  |_=>exact absurd (show false=true from hs) Bool.false_ne_true
 |_=>cases y <;> exact absurd (show false=true from hs) Bool.false_ne_true
theorem E6:OpR X (compareOp .NotEq) rNe:=by
 intro pins s σ H x y v u Q I rx ry h;obtain⟨hs,q⟩:=h
 cases x with
 |non=>
  cases rx
  cases y with
  |non=>cases ry;exact PySem.EqNone.ne_none_none (bA I q (by simp))
  |bl j=>cases ry;exact PySem.EqNone.ne_none_bool (bA I q (by simp))
  |int j=>obtain⟨t',rfl⟩:=ry;exact PySem.EqNone.ne_none_int (bA I q (by simp))
  |str j=>obtain⟨t',rfl⟩:=ry;exact PySem.EqNone.ne_none_str (bA I q (by simp))
  |_=>exact absurd (show false=true from hs) Bool.false_ne_true
 |bl i=>
  cases rx
  cases y with
  |non=>cases ry;exact PySem.EqNone.ne_bool_none (bA I q (by simp))
  |bl j=>cases ry;exact ne_bool (bA I q (congrArg not va))
  |str j=>obtain⟨t',rfl⟩:=ry;exact PySem.EqMixed.ne_bool_str (bA I q (by simp))
  |_=>exact absurd (show false=true from hs) Bool.false_ne_true
 |int i=>
  obtain⟨t,rfl⟩:=rx
  cases y with
  |non=>cases ry;exact PySem.EqNone.ne_int_none (bA I q (by simp))
  |int j=>obtain⟨t',rfl⟩:=ry;exact ne_int (bA I q (congrArg not ud))
  |str j=>obtain⟨t',rfl⟩:=ry;exact PySem.EqMixed.ne_int_str (bA I q (by simp))
  |_=>exact absurd (show false=true from hs) Bool.false_ne_true
 |str i=>
  obtain⟨t,rfl⟩:=rx
  cases y with
  |non=>cases ry;exact PySem.EqNone.ne_str_none (bA I q (by simp))
  |bl j=>cases ry;exact PySem.EqMixed.ne_str_bool (bA I q (by simp))
  |int j=>obtain⟨t',rfl⟩:=ry;exact PySem.EqMixed.ne_str_int (bA I q (by simp))
  |str j=>obtain⟨t',rfl⟩:=ry;exact ne_str (bA I q (congrArg not ub))
  |_=>exact absurd (show false=true from hs) Bool.false_ne_true
 |byt i=>
  obtain⟨t,rfl⟩:=rx
  cases y with
  |byt j=>obtain⟨t',rfl⟩:=ry;exact PySem.W.ne_bytes (bA I q (congrArg not ue))
  |_=>exact absurd (show false=true from hs) Bool.false_ne_true
 |_=>cases y <;> exact absurd (show false=true from hs) Bool.false_ne_true
theorem Fb:OpR X (compareOp .Lt) (rI0 fun i j=>.bl (decide (i<j))):=lM fun _ _ _ _ _ _ _ q=>lt_int q
theorem Fc:OpR X (compareOp .LtE) (rI0 fun i j=>.bl (decide (i<=j))):=lM fun _ _ _ _ _ _ _ q=>le_int q
theorem Fd:OpR X (compareOp .Gt) (rI0 fun i j=>.bl (decide (j<i))):=lM fun _ _ _ _ _ _ _ q=>gt_int q
theorem Fe:OpR X (compareOp .GtE) (rI0 fun i j=>.bl (decide (j<=i))):=lM fun _ _ _ _ _ _ _ q=>ge_int q
theorem op_in_str:OpR X (compareOp .In) (fun x y H Q=>∃i j,x=.str i/\y=.str j/\Q (.bl (!(Builtin.Str.occurrences j i 0 j.length 1).isEmpty)) H):=by
 intro pins s σ H x y v u Q I rx ry h;obtain⟨i,j,rfl,rfl,q⟩:=h;obtain⟨t,rfl⟩:=rx;obtain⟨t',rfl⟩:=ry;exact in_str (bA I q rfl)
theorem DG:OpR X (compareOp .Is) (fun x y H Q=>y=.non/\Q (.bl (decide (x=.non))) H):=by
 intro pins s σ H x y v u Q I rx ry h;obtain⟨rfl,q⟩:=h;cases ry;refine is_none_gen (bA I q ?_)
 cases x <;> first
  |(cases rx;rfl)
  |(obtain⟨t,rfl⟩:=rx;rfl)
theorem op_notN:OpR X (compareOp .IsNot) (fun x y H Q=>y=.non/\Q (.bl (!decide (x=.non))) H):=by
 intro pins s σ H x y v u Q I rx ry h;obtain⟨rfl,q⟩:=h;cases ry;refine isnot_none_gen (bA I q ?_)
 cases x <;> first
  |(cases rx;rfl)
  |(obtain⟨t,rfl⟩:=rx;rfl)
theorem op_notin_str:OpR X (compareOp .NotIn) (fun x y H Q=>∃i j,x=.str i/\y=.str j/\Q (.bl (!(!(Builtin.Str.occurrences j i 0 j.length 1).isEmpty))) H):=by
 intro pins s σ H x y v u Q I rx ry h;obtain⟨i,j,rfl,rfl,q⟩:=h;obtain⟨t,rfl⟩:=rx;obtain⟨t',rfl⟩:=ry;exact notIn_str (bA I q rfl)
theorem OpR.or{f:Value->Value->Sem Value}{r r':R2}(h:OpR X f r)(h':OpR X f r'):OpR X f (fun x y H Q=>r x y H Q\/r' x y H Q):=by
 intro pins s σ H x y v u Q I rx ry q
 rcases q with q|q
 .exact h pins s σ H x y v u Q I rx ry q
 .exact h' pins s σ H x y v u Q I rx ry q
theorem nY(b:Expr){op:CmpOp}(h:op≠.In:=by decide)(h2:op≠.NotIn:=by decide):behindInMarks op b=false:=by
 have e1:(op == CmpOp.In)=false:=by cases op <;> first|rfl|exact absurd rfl h
 have e2:(op == CmpOp.NotIn)=false:=by cases op <;> first|rfl|exact absurd rfl h2
 cases b <;> simp[behindInMarks,e1,e2]
theorem BU{op:CmpOp}{r:R2}(ho:OpR X (compareOp op) r)(ha:PE X a ta)(hb:PE X b tb)(hm:behindInMarks op b=false):PE X (.Compare a [op] [b] pos) (tOp r ta tb):=by
 intro pins s σ H Q I h;exact wpAny_Compare1 (pA ha hb I h fun v u s2 x y H2 I2 rx ry q=>ho pins s2 σ H2 x y v u Q I2 rx ry q) hm
def vn(t:TE):TT:=fun σ H Q=>t σ H fun x H'=>∃k,x=.bl k/\Q k H'
theorem BE{op:CmpOp}{r:R2}(ho:OpR X (compareOp op) r)(ha:PE X a ta)(hb:PE X b tb)(hm:behindInMarks op b=false):PT X (.Compare a [op] [b] pos) (vn (tOp r ta tb)):=by
 intro pins s σ H Q I h
 refine wpAny_isTrue_Compare1 (thn (ha pins s σ H _ I h) fun v s1 ⟨x,H1,I1,r1,q1⟩=>thn (hb pins s1 σ H1 _ I1 q1) fun u s2 ⟨y,H2,I2,r2,q2⟩=>
  thn (ho pins s2 σ H2 x y v u _ I2 r1 r2 q2) fun c s3 ⟨z,H3,I3,r3,k,e,q3⟩=>?_) hm
 subst e;cases r3;exact wpAny_truthy_bool ⟨H3,I3,q3⟩
def nJ(r r':R2)(ta tb tc:TE):TE:=fun σ H Q=>ta σ H fun x H1=>tb σ H1 fun y H2=>r x y H2 fun z H3=>∃k,z=.bl k /\
 (if k=true then tc σ H3 fun w' H4=>r' y w' H4 Q else Q (.bl false) H3)
theorem Ar{op op':CmpOp}{r r':R2}(ho:OpR X (compareOp op) r)(ho':OpR X (compareOp op') r')(ha:PE X a ta)(hb:PE X b tb)(hc:PE X c tc)
  (hm:lastMarks [op,op'] [b,c]=false:=by with_unfolding_all rfl):PE X (.Compare a [op,op'] [b,c] pos) (nJ r r' ta tb tc):=by
 intro pins s σ H Q I h
 refine Compare_chain (thn (ha pins s σ H _ I h) fun v s1 ⟨x,H1,I1,r1,q1⟩=>chain_link (thn (hb pins s1 σ H1 _ I1 q1) fun u s2 ⟨y,H2,I2,r2,q2⟩=>
  thn (ho pins s2 σ H2 x y v u _ I2 r1 r2 q2) fun d s3 ⟨z,H3,I3,r3,k,e,q3⟩=>?_)) hm
 subst e;cases r3;refine wpAny_truthy_bool ?_
 cases k with
 |false=>exact ite_ff ⟨.bl false,H3,I3,rfl,q3⟩
 |true=>exact ite_tt (chain_last (thn (hc pins s3 σ H3 _ I3 q3) fun w' s4 ⟨z',H4,I4,r4,q4⟩=>ho' pins s4 σ H4 y z' u w' Q I4 r2 r4 q4))
theorem Ah{op op':CmpOp}{r r':R2}(ho:OpR X (compareOp op) r)(ho':OpR X (compareOp op') r')(ha:PE X a ta)(hb:PE X b tb)(hc:PE X c tc)
  (hm:lastMarks [op,op'] [b,c]=false:=by with_unfolding_all rfl):PT X (.Compare a [op,op'] [b,c] pos) (vn (nJ r r' ta tb tc)):=by
 intro pins s σ H Q I h
 refine isTrue_chain (thn (ha pins s σ H _ I h) fun v s1 ⟨x,H1,I1,r1,q1⟩=>test_link (thn (hb pins s1 σ H1 _ I1 q1) fun u s2 ⟨y,H2,I2,r2,q2⟩=>
  thn (ho pins s2 σ H2 x y v u _ I2 r1 r2 q2) fun d s3 ⟨z,H3,I3,r3,k,e,q3⟩=>?_)) hm
 subst e;cases r3;refine wpAny_truthy_bool ?_
 cases k with
 |false=>
  obtain⟨k',e',q'⟩:=q3;cases e';exact ite_ff ⟨H3,I3,q'⟩
 |true=>
  refine ite_tt (test_last (thn (hc pins s3 σ H3 _ I3 q3) fun w' s4 ⟨z',H4,I4,r4,q4⟩=>thn (ho' pins s4 σ H4 y z' u w' _ I4 r2 r4 q4) fun d' s5 ⟨z2,H5,I5,r5,k2,e2,q5⟩=>?_));subst e2;cases r5;exact wpAny_truthy_bool ⟨H5,I5,q5⟩
def pB(K:Frag)(x:V)(H:Hp)(k:Bool):Prop:=
 match x with
 |.non=>k=false
 |.bl b=>k=b
 |.int i=>k=(i != 0)
 |.str y=>y.length<=sizeLine/\k=((y.length:Int) != 0)
 |.byt y=>y.size<=sizeLine/\k=((y.size:Int) != 0)
 |.ref p=>(∃xs,SqL K H p xs/\k = !xs.isEmpty)\/(∃xs,SqT K H p xs/\k = !xs.isEmpty)\/∃kvs,H p=some (.dK kvs)/\k = !kvs.isEmpty
 |_=>False
theorem yD{κ:Type}{kvs:List (κ×V)}{vs:List (κ×Value)}(r:KV kvs vs):(!vs.isEmpty) = !kvs.isEmpty:=by cases r <;> rfl
theorem qx{xs:List V}{its:List Value}(r:Vals xs its):(!its.toArray.isEmpty) = !xs.isEmpty:=by cases r <;> simp
theorem gK:(sizeLine:Nat)<2^63:=by rw[sizeLine_eq];decide
theorem CZ:GN X (fun x H Q=>∃k,pB X.K x H k/\Q k H):=by
 intro pins s σ H x v Q I rx h;obtain⟨k,e,q⟩:=h;have hl:=gK;have hs:sizeLine=16777216:=sizeLine_eq
 cases x with
 |non=>
  cases rx;have e':k=false:=e;subst e';exact truthy_none ⟨H,I,q⟩
 |bl b=>
  cases rx;have e':k=b:=e;subst e';exact wpAny_truthy_bool ⟨H,I,q⟩
 |int i=>
  obtain⟨t,rfl⟩:=rx;have e':k=(i != 0):=e;subst e';exact PySem.P.truthy_int ⟨H,I,q⟩
 |str y=>
  obtain⟨t,rfl⟩:=rx;obtain⟨hy,e'⟩:y.length<=sizeLine/\k=((y.length:Int) != 0):=e;subst e';exact PySem.P.truthy_str (by omega) ⟨H,I.tok _,q⟩
 |byt y=>
  obtain⟨t,rfl⟩:=rx;obtain⟨hy,e'⟩:y.size<=sizeLine/\k=((y.size:Int) != 0):=e;subst e';exact PySem.W.truthy_bytes (by omega) ⟨H,I.tok _,q⟩
 |ref p=>
  cases rx;have e':(∃xs,SqL X.K H p xs/\k = !xs.isEmpty)\/(∃xs,SqT X.K H p xs/\k = !xs.isEmpty)\/∃kvs,H p=some (.dK kvs)/\k = !kvs.isEmpty:=e
  rcases e' with⟨xs,hx,e'⟩|⟨xs,hx,e'⟩|⟨kvs,hx,e'⟩
  .subst e'
   obtain⟨its,r,pl,hz⟩:=I.list hx;have hlen:=r.length;exact wpAny_truthy_list pl.isList (by simp only[List.size_toArray];omega) ⟨H,I.tok _,by rw[qx r];exact q⟩
  .subst e'
   obtain⟨its,r,pl,hz⟩:=I.tuple hx;have hlen:=r.length;exact truthy_tuple pl (by simp only[List.size_toArray];omega) ⟨H,I.tok _,by rw[qx r];exact q⟩
  .subst e'
   obtain⟨hz,hS,vs,r,m⟩:kvs.length<=sizeLine/\(p == sysModules)=false/\∃vs,KV kvs vs/\s.heap.DictOf (bF X.prog X.w) p vs:=I.hok p _ hx;have hlen:kvs.length=vs.length:=Paired.length r;exact wpAny_truthy_dict hS m (by omega) ⟨H,I.tok _,by rw[yD r];exact q⟩
 |_=>exact(show False from e).elim
theorem Ag(ha:PE X a ta)(he:∀whole,isTrue a X.env whole=(do let v ←whole;standAt a.pos;holding [v] (truthy v))) :
  PT X a (fun σ H Q=>ta σ H fun x H'=>∃k,pB X.K x H' k/\Q k H'):=by
 intro pins s σ H Q I h;exact isTrue_plain (thn (ha pins s σ H _ I h) fun v s1 ⟨x,H1,I1,r1,q1⟩=>CZ pins s1 σ H1 x v Q I1 r1 q1) (he _)
theorem op_add_str:OpR X (binaryOp .Add) (fun x y H Q=>∃i j,x=.str i/\y=.str j/\i.length+j.length<=sizeLine/\Q (.str (i++j)) H):=by
 intro pins s σ H x y v u Q I rx ry h;obtain⟨i,j,rfl,rfl,hz,q⟩:=h;obtain⟨t,rfl⟩:=rx;obtain⟨t',rfl⟩:=ry;exact add_str (fun t' tk=>⟨.str (i++j),H,I.tok _,⟨_,rfl⟩,q⟩) hz
theorem vals1{x:V}{us:List Value}(r:Vals [x] us):∃u,us=[u]/\RelV x u:=by
 cases r with
 |cons r1 r2=>cases r2;exact⟨_,rfl,r1⟩
theorem vals2{x y:V}{us:List Value}(r:Vals [x,y] us):∃u w',us=[u,w']/\RelV x u/\RelV y w':=by
 cases r with
 |cons r1 r2=>
  cases r2 with
  |cons r3 r4=>cases r4;exact⟨_,_,rfl,r1,r3⟩
theorem Bc:CallR X (.builtin "abs") (fun xs H Q=>∃i,xs=[.int i]/\Q (.int (if i<0 then -i else i)) H):=by
 intro pins s σ H xs us Q I r h;obtain⟨i,rfl,q⟩:=h;obtain⟨u,rfl,t,rfl⟩:=vals1 r;exact call_abs_int fun u tk=>⟨.int (if i<0 then -i else i),H,I.tok _,⟨_,rfl⟩,q⟩
theorem zU(hc:X.calm=true):CallR X (.builtin "max") (fun xs H Q=>∃i j,xs=[.int i,.int j]/\Q (.int (if j>i then j else i)) H):=by
 intro pins s σ H xs us Q I r h;obtain⟨i,j,rfl,q⟩:=h;obtain⟨u,w',rfl,⟨t,rfl⟩,⟨t',rfl⟩⟩:=vals2 r;refine max_two_ints (I.ok.hd hc) fun h' tk k=>⟨_,H,I.kept k,?_,q⟩
 by_cases hj:j>i
 .rw[if_pos hj,if_pos hj];exact⟨_,rfl⟩
 .rw[if_neg hj,if_neg hj];exact⟨_,rfl⟩
theorem zR(hc:X.calm=true):CallR X (.builtin "min") (fun xs H Q=>∃i j,xs=[.int i,.int j]/\Q (.int (if j<i then j else i)) H):=by
 intro pins s σ H xs us Q I r h;obtain⟨i,j,rfl,q⟩:=h;obtain⟨u,w',rfl,⟨t,rfl⟩,⟨t',rfl⟩⟩:=vals2 r;refine min_two_ints (I.ok.hd hc) fun h' tk k=>⟨_,H,I.kept k,?_,q⟩
 by_cases hj:j<i
 .rw[if_pos hj,if_pos hj];exact⟨_,rfl⟩
 .rw[if_neg hj,if_neg hj];exact⟨_,rfl⟩
theorem call_int1:CallR X (.type "int") (fun xs H Q=>(∃i,xs=[.int i]/\Q (.int i) H)\/∃k,xs=[.bl k]/\Q (.int (if k then 1 else 0)) H):=by
 intro pins s σ H xs us Q I r h
 rcases h with⟨i,rfl,q⟩|⟨k,rfl,q⟩
 .obtain⟨u,rfl,t,rfl⟩:=vals1 r
  exact call_int_int ⟨.int i,H,I,⟨_,rfl⟩,q⟩
 .obtain⟨u,rfl,r1⟩:=vals1 r
  cases r1;exact call_int_bool ⟨.int (if k then 1 else 0),H,I.tok _,⟨_,rfl⟩,q⟩
theorem xZ:CallR X (.type "str") (fun xs H Q=>∃i,xs=[.int i]/\i.natAbs.log2<1920/\Q (.str (toString i)) H):=by
 intro pins s σ H xs us Q I r h;obtain⟨i,rfl,hz,q⟩:=h;obtain⟨u,rfl,t,rfl⟩:=vals1 r;exact PySem.P.str_of_int hz ⟨.str _,H,I.tok _,⟨_,rfl⟩,q⟩
end
structure ObjM(h:Heap)(x dx C:Addr)(mA:Str->Option Value):Prop where
 obj:h.get? x=some (PySem.W.instObj C dx)
 ns:h.Ns1 dx mA
 ne:dx≠x
theorem zp{h:Heap}{dx:Addr}{mA:Str->Option Value}(n:h.Ns1 dx mA):∃od,h.get? dx=some od/\∀name,PySem.W.lookIn name od=some (mA name):=by
 obtain⟨o,es,ep,ho,hd,hk,_,hm⟩:=n;refine⟨o,ho,fun name=>?_⟩;have e:=hm name;unfold nsFind findBy at e;rw[←Array.find?_toList] at e;unfold PySem.W.lookIn;rw[hd];dsimp only;split
 .rename_i y q
  rw[q] at e;exact congrArg some e
 .rename_i q
  rw[q] at e
  have a:es.toList.any (·.refKey)=false:=by
   rw[List.any_eq_false];intro y hy;obtain⟨z,t,hkey⟩:=hk y (Array.mem_toList_iff.mp hy);simp[DictEntry.refKey,hkey]
  have a':¬es.toList.any (·.refKey)=true:=by rw[a];exact Bool.false_ne_true
  rw[if_neg a'];exact congrArg some e
theorem ObjM.look{h:Heap}{x dx C:Addr}{mA:Str->Option Value}(I:ObjM h x dx C mA):∃od,PySem.W.InstAt h x (PySem.W.instObj C dx) C (some od)/\∀name,PySem.W.lookIn name od=some (mA name):=
 let ⟨od,ho,hl⟩:=zp I.ns
 ⟨od,⟨I.obj,rfl,rfl,ho⟩,hl⟩
section
variable {prog:Program}{w:World}{A:Around}{E:Value->Shared->Prop}{s:Shared}{K:Frag}{x dx C f:Addr}{mA:Str->Option Value}{name:Str}{v:Value}
end
theorem RelO.some_of{v:V}{o:Option Value}(r:RelO (some v) o):∃u,o=some u/\RelV v u:=by
 cases o with
 |none=>exact(show False from r).elim
 |some u=>exact⟨u,rfl,r⟩
section
variable {P:Program}{w:World}{H H':Hp}{h h':Heap}{a C dx:Addr}{fs fs':List (Str×V)}
theorem Ca(hok:HOk P w H h)(e:H a=some (.ins C dx fs)):∃mA,ObjM h a dx C mA/\(∀f,RelO (fs.lookup f) (mA f))/\PySem.Within mA (fs.map (·.1))/\fs.length<=1000/\H dx=some (.own a):=by
 obtain⟨d,z,ne,ob,mA,n,r,q⟩:=(show ObjOk P w H h a (.ins C dx fs) from hok a _ e);exact⟨mA,⟨ob,n,ne⟩,r,q,z,d⟩
end
structure Cls(K:Frag)(C:Addr):Prop where
 pg:PySem.W.plainGet K C Str.empty=true
 hd:PySem.W.hasDictIn K C=true
 po:PySem.W.plainOver K C=true
 sa:PySem.W.findIn K (.ref C) "__setattr__"=some (some (.builtin "object.__setattr__"))
theorem Cls.get{K:Frag}{C:Addr}(c:Cls K C)(f:Str):PySem.W.plainGet K C f=true:=c.pg
structure Con(K:Frag)(C:Addr)(f:Str)(v:V)(u:Value):Prop where
 at_:PySem.W.findIn K (.ref C) f=some (some u)
 rel:RelV v u
 get:PySem.W.specialIn K u "__get__"=some none
 cp:PySem.W.copiedNames.contains f=false
structure Meth(K:Frag)(C:Addr)(m:Str)(f:Addr):Prop where
 at_:PySem.W.findIn K (.ref C) m=some (some (.ref f))
 fn:PySem.W.isFn K (.ref f)=true
 kp:PySem.W.keepIn K (.ref f)=true
section
variable {X:Cx}{pins:List (Addr×Obj)}{σ:St}{H:Hp}{s:Shared}{a C dx:Addr}{fs:List (Str×V)}{f:Str}{v:V}{A:Around}{E:Value->Shared->Prop}
end
section
variable {X:Cx}{o e value:Expr}{f:Str}{pos pos' tpos:Pos}{ta tv:TE}
end
section
variable {X:Cx}{pins:List (Addr×Obj)}{σ:St}{H:Hp}{s:Shared}{A:Around}{E:Value->Shared->Prop}{Q:Value->Shared->Prop}{c:Value}{b:Bool}
inductive TyOf(K:Frag)(H:Hp):V->Value->Prop where
 |non:TyOf K H .non (.type "NoneType")
 |bl (x:Bool):TyOf K H (.bl x) (.type "bool")
 |int (i:Int):TyOf K H (.int i) (.type "int")
 |str (x:Str):TyOf K H (.str x) (.type "str")
 |flt (x:UInt64):TyOf K H (.flt x) (.type "float")
 |lst {a:Addr}{xs:List V} (e:H a=some (.lst xs)):TyOf K H (.ref a) (.type "list")
 |frz {a:Addr}{o:Obj}{xs:List V} (e:H a=some (.frz o (.lst xs))):TyOf K H (.ref a) (.type "list")
 |tup {a:Addr}{xs:List V} (e:H a=some (.tup xs)):TyOf K H (.ref a) (.type "tuple")
 |dK {a:Addr}{kvs:List (Key×V)} (e:H a=some (.dK kvs)):TyOf K H (.ref a) (.type "dict")
 |dT {a:Addr}{kvs:List (List Key×V)} (e:H a=some (.dT kvs)):TyOf K H (.ref a) (.type "dict")
 |ins {a C dx:Addr}{fs:List (Str×V)} (e:H a=some (.ins C dx fs)) (cl:Cls K C) (ha:PySem.W.findIn K (.ref C) "__class__"=some (some (.builtin "object.__class__")))
   (hn:PySem.W.specialIn K (.builtin "object.__class__") "__get__"=some (some (.builtin "getset_descriptor.__get__"))) (htk:PySem.W.takesIn K (.builtin "object.__class__")=some true)
   (hm:PySem.W.mroIn K C (.type "object")=some true):TyOf K H (.ref a) (.ref C)
theorem kz{x:V}{u t:Value}(I:Inv X pins σ H s)(rx:RelV x u)(ty:TyOf X.K H x t)(e:PySem.W.kitOne X.K t c=some b)(h:∀tk,Q (.bool b) { s with toks:=tk }) :
  wpAny (model X.prog X.w) A (call (.builtin "isinstance") [u,c]) Q E s:=by
 cases ty with
 |non=>cases (show u=Value.none from rx);exact PySem.W.kia_one PySem.W.kitx_none I.kIn True.intro e (fun z=>nomatch z) h
 |bl y=>cases (show u=Value.bool y from rx);exact PySem.W.kia_one PySem.W.kitx_bool I.kIn True.intro e (fun z=>nomatch z) h
 |int i=>obtain⟨t,q⟩:=(show ∃t,u=Value.int i t from rx);cases q;exact PySem.W.kia_one PySem.W.kitx_int I.kIn True.intro e (fun z=>nomatch z) h
 |str y=>obtain⟨t,q⟩:=(show ∃t,u=Value.str y t from rx);cases q;exact PySem.W.kia_one PySem.W.kitx_str I.kIn True.intro e (fun z=>nomatch z) h
 |flt y=>obtain⟨t,q⟩:=(show ∃t,u=Value.float y t from rx);cases q;exact PySem.W.kia_one PySem.W.kitx_float I.kIn True.intro e (fun z=>nomatch z) h
 |@lst a xs ea=>
  cases (show u=Value.ref a from rx);obtain⟨_,_,n,_,h1⟩:=(show ObjOk X.prog X.w H s.heap a (.lst xs) from I.hok a _ ea);exact PySem.W.kia_one PySem.W.kitx_list I.kIn ⟨_,h1,rfl⟩ e (fun z=>nomatch z) h
 |@frz a ob xs ea=>
  cases (show u=Value.ref a from rx);obtain⟨_,_,_,n,_,h1⟩:=(show ObjOk X.prog X.w H s.heap a (.frz ob (.lst xs)) from I.hok a _ ea);exact PySem.W.kia_one PySem.W.kitx_list I.kIn ⟨_,h1,rfl⟩ e (fun z=>nomatch z) h
 |@tup a xs ea=>
  cases (show u=Value.ref a from rx);obtain⟨_,_,_,p⟩:=(show ObjOk X.prog X.w H s.heap a (.tup xs) from I.hok a _ ea);obtain⟨o,h1,h2,_⟩:=p;exact PySem.W.kia_one PySem.W.kitx_tuple I.kIn ⟨o,h1,h2⟩ e (fun z=>nomatch z) h
 |@dK a kvs ea=>
  cases (show u=Value.ref a from rx);obtain⟨_,_,vs,_,p⟩:=(show ObjOk X.prog X.w H s.heap a (.dK kvs) from I.hok a _ ea);obtain⟨o,es,ep,h1,h2,_⟩:=p;exact PySem.W.kia_one PySem.W.kitx_dict I.kIn ⟨o,h1,h2.1⟩ e (fun z=>nomatch z) h
 |@dT a kvs ea=>
  cases (show u=Value.ref a from rx);obtain⟨_,_,xs,_,o,es,ep,h1,h2,_⟩:=(show ObjOk X.prog X.w H s.heap a (.dT kvs) from I.hok a _ ea);exact PySem.W.kia_one PySem.W.kitx_dict I.kIn ⟨o,h1,h2.1⟩ e (fun z=>nomatch z) h
 |@ins a C dx fs ea cl ha hn htk hm=>
  cases (show u=Value.ref a from rx);obtain⟨mA,O,_⟩:=Ca I.hok ea;obtain⟨od,J,_⟩:=O.look;exact PySem.W.kia_one (PySem.W.kitx_own (cl.get _) cl.hd ha hn htk hm) I.kIn J e (fun z=>nomatch z) h
end
structure Room(k:Nat)(A:Around):Prop where
 hd:A.handled=none
 dp:A.depth+3*k+5<recursionLimit
 un:A.units+16*k+200<cLine
 gd:A.guards=some []
theorem Room.mono{j k:Nat}{A:Around}(r:Room k A)(h:j<=k):Room j A:=⟨r.hd,by have:=r.dp;omega,by have:=r.un;omega,r.gd⟩
theorem Room.deeper{k:Nat}{A:Around}(r:Room (k+1) A)(env:Env):Room k (A.deeper env):=⟨r.hd,by have:=r.dp;show A.depth+1+3*k+5<_;omega,by have:=r.un;show A.units+3+16*k+200<_;omega,r.gd⟩
theorem Room.depth{k:Nat}{A:Around}(r:Room k A):A.depth<recursionLimit:=by have:=r.dp;omega
def oU:TA:=fun _ H Q=>Q [] H
def lx(ta:TE)(tr:TA):TA:=fun σ H Q=>ta σ H fun x H1=>tr σ H1 fun xs H2=>Q (x::xs) H2
section
variable {X:Cx}{e:Expr}{es:List Expr}{te:TE}{t:TA}{pos:Pos}
theorem cX:PA X [] oU:=fun _ _ _ _ H Q I h=>Calls.spliced_nil ⟨[],H,I,.nil,h⟩
theorem cx(ha:PE X e te)(hr:PA X es t)(hs:starEach (e::es) X.env=(false,eval e X.env)::starEach es X.env:=by rfl):PA X (e::es) (lx te t):=by
 intro pos pins s σ H Q I h;rw[hs];show wpAny _ _ (spliced ((false,eval e X.env)::backTo pos (starEach es X.env))) _ _ s;refine Calls.spliced_cons (thn (ha pins s σ H _ I h) fun u s1 ⟨x,H1,I1,r1,q1⟩=>?_);exact thn (hr pos pins s1 σ H1 _ I1 q1) fun us s2 ⟨xs,H2,I2,r2,q2⟩=>⟨x::xs,H2,I2,.cons r1 r2,q2⟩
def Ga(t:TA):TE:=fun σ H Q=>t σ H fun xs H1=>xs.length<=sizeLine/\∀p,H1 p=none->Q (.ref p) (upd H1 p (.tup xs))
def Gf(t:TA):TE:=fun σ H Q=>t σ H fun xs H1=>xs.length<=sizeLine/\∀p,H1 p=none->Q (.ref p) (upd H1 p (.lst xs))
theorem uF{x1}(h:PA X es t):PE X (.Tuple es x1 pos) (Ga t):=by
 intro pins s σ H Q I hq;refine wpAny_Tuple_spliced (thn (h pos pins s σ H _ I hq) fun us s1 ⟨xs,H1,I1,r,z,q⟩=>⟨by rw[←r.length];exact z,?_⟩);have hf:H1 s1.heap.objs.size=none:=I1.hok.fresh (Nat.le_refl _);refine⟨.ref s1.heap.objs.size,upd H1 s1.heap.objs.size (.tup xs),I1.laid (t':=s1.toks) (fun b u e=>Heap.get?_push_of_some _ e) (Nat.le_refl _) ?_,rfl,q _ hf⟩;exact⟨z,us,r,⟨_,Heap.get?_push_size _ rfl,rfl,_,rfl⟩⟩
theorem nU(h:PA X es t):PE X (.List es pos) (Gf t):=by
 intro pins s σ H Q I hq;refine wpAny_List_spliced (thn (h pos pins s σ H _ I hq) fun us s1 ⟨xs,H1,I1,r,z,q⟩=>⟨by rw[←r.length];exact z,?_⟩);have hf:H1 s1.heap.objs.size=none:=I1.hok.fresh (Nat.le_refl _);refine⟨.ref s1.heap.objs.size,upd H1 s1.heap.objs.size (.lst xs),I1.laid (t':=s1.toks) (fun b u e=>Heap.get?_push_of_some _ e) (Nat.le_refl _) ?_,rfl,q _ hf⟩;exact⟨z,us,0,r,Heap.get?_push_size _ rfl⟩
end
abbrev Sp:=List V->Hp->VK->XK->Prop
abbrev CXT:=List Env->Hp->Shared->XK->Value->Shared->Prop
structure Env0(P:Program)(w:World)(K:Frag)(mg:Str->Option Value)(base:Heap)(A:Around)(outer:List Env)(s:Shared)(H:Hp):Prop where
 frames:A.frames=some outer
 mod:Mod K mg base
 bs:∀b o,base.get? b=some o->s.heap.get? b=some o/\H b=none
 bsz:base.objs.size<=s.heap.objs.size
 funs:s.heap.FunFrames base outer
 frf:∀b∈frs outer,H b=none
 hok:HOk P w H s.heap
 bare:AllBare s.gens
def CE(outer:List Env)(P:Program)(w:World)(H:Hp)(s:Shared)(Q:VK)(u:Value)(s':Shared):Prop:=∃v H',s'.os=s.os/\AllBare s'.gens/\Un (frs outer) [] H H' s.heap s'.heap/\HOk P w H' s'.heap/\RelV v u/\Q v H'
def CR(CX:CXT)(outer:List Env)(P:Program)(w:World)(H:Hp)(s:Shared)(Q:VK)(E:XK)(r:Result)(s':Shared):Prop:=
 match r with
 |.ok (.ret u)=>CE outer P w H s Q u s'
 |.ok _=>False
 |.error e=>CX outer H s E e s'
structure FnOk(P:Program)(w:World)(K:Frag)(mg:Str->Option Value)(base:Heap)(CX:CXT)(k:Nat)(f:Addr)(fd:FuncData)(ps:List Str)(sp:Sp):Prop where
 len:∀vs H Q E,sp vs H Q E->vs.length=ps.length
 run:∀(A:Around) (outer:List Env) (s:Shared) (H:Hp) (args:Args) (us:List Value) (vs:List V) (Q:VK) (E:XK),Room k A->Env0 P w K mg base A outer s H->BindsTo s fd args (ps.zip us)->Vals vs us->sp vs H Q E ->
  codeAny (model P w) A (.call (.ref f) args) (CR CX outer P w H s Q E) s
section
variable {X:Cx}{pins:List (Addr×Obj)}{σ:St}{H:Hp}{s s':Shared}
theorem Inv.env0(I:Inv X pins σ H s):Env0 X.prog X.w X.K X.mg X.base X.A X.stack s H:=⟨I.ok.frames,I.ok.mod,I.bs,Nat.le_trans I.ok.bsz I.sz,I.stack,I.stkFree,I.hok,I.bare⟩
theorem Inv.after{Q:VK}{u:Value}(I:Inv X pins σ H s)(h:CE X.stack X.prog X.w H s Q u s'):EP X pins σ Q u s':=by
 obtain⟨v,H',os,bare,un,hok,r,q⟩:=h;obtain⟨hh,g,d,t,os'⟩:=s';obtain rfl:os'=s.os:=os;exact⟨v,H',I.call (h':=hh) (g':=g) (d':=d) (t':=t) (ch:=[]) un hok bare (fun b z=>absurd z (by simp)),r,q⟩
end
def vq(sp:Sp)(dvs:List V)(E:XK)(t:TA):TE:=fun σ H Q=>t σ H fun vs H1=>sp (vs++dvs) H1 Q E
def Binds(K:Frag)(fd:FuncData)(ps:List Str)(ds:List Value):Prop:=∀(s:Shared) (us:List Value),K.In s.heap->(us++ds).length=ps.length->BindsTo s fd ⟨us,[]⟩ (ps.zip (us++ds))
theorem Binds.all{K:Frag}{fd:FuncData}{ps:List Str}(h:∀us:List Value,us.length=ps.length->bindArgs fd ⟨us,[]⟩=pure (ps.zip us)):Binds K fd ps []:=fun s us _ hl=>by
 rw[List.append_nil] at hl ⊢;exact .of_eq (h us hl)
def oq(CX:CXT)(X:Cx)(E:XK):Prop:=∀(pins:List (Addr×Obj)) (σ:St) (H:Hp) (s:Shared) (e:Value) (s':Shared),Inv X pins σ H s->CX X.stack H s E e s'->X.xe e s'
section
variable {X:Cx}{CX:CXT}{k:Nat}{f C:Addr}{fd:FuncData}{ps:List Str}{sp:Sp}{dvs:List V}{ds:List Value}{E:XK}{x m:Str}{p pos apos:Pos}{e o:Expr}{es:List Expr}{ta:TE}{t:TA}
theorem Dg{pins:List (Addr×Obj)}{σ:St}{H:Hp}{s:Shared}{Q:VK}{us:List Value}{vs:List V}(F:FnOk X.prog X.w X.K X.mg X.base CX k f fd ps sp)(hr:Room k X.A)(hb:Binds X.K fd ps ds)(hd:Vals dvs ds)(hx:oq CX X E)
  (I:Inv X pins σ H s) (r:Vals vs us) (h:sp (vs++dvs) H Q E):wpAny (model X.prog X.w) X.A (call (.ref f) us) (EP X pins σ Q) X.xe s:=by
 have r2:Vals (vs++dvs) (us++ds):=r.append hd
 have hl:(us++ds).length=ps.length:=by rw[←r2.length];exact F.len _ _ _ _ h
 refine wpAny_call (codeAny_mono (F.run X.A X.stack s H ⟨us,[]⟩ (us++ds) (vs++dvs) Q E hr I.env0 (hb s us I.kIn hl) r2 h) fun r s' hq=>?_)
 cases r with
 |error e=>exact hx pins σ H s e s' I hq
 |ok fl=>
  cases fl with
  |ret u=>exact I.after hq
  |next=>exact False.elim hq
  |brk=>exact False.elim hq
  |cont=>exact False.elim hq
theorem BV(F:FnOk X.prog X.w X.K X.mg X.base CX k f fd ps sp)(hr:Room k X.A)(hg:Gl X x)(hm:X.mg x=some (.ref f))(hk:PySem.W.keepIn X.K (.ref f)=true)(hb:Binds X.K fd ps ds)(hd:Vals dvs ds)(hx:oq CX X E)
  (ha:PA X (e::es) t) (hdb:(x == ("__debug__" : Str))=false:=by decide) (he:starEach (e::es) X.env=(false,eval e X.env)::starEach es X.env:=by rfl) (hpl:(backTo pos (starEach es X.env)).any (·.1)=false:=by rfl) :
  PE X (.Call (.Name x p) (e::es) [] pos) (vq sp dvs E t):=by
 intro pins s σ H Q I h;refine wpAny_Call_Name_kw (tP I hg hm ?_ hdb);refine PySem.W.callWith_K (h₀:=X.base) I.ok.mod.kin hk (thn (ha pos pins s σ H _ I h) fun us s1 ⟨vs,H1,I1,r,q⟩=>⟨I1.kIn,?_⟩) he hpl;exact Dg F hr hb hd hx I1 r q
structure Mk(K:Frag)(C f:Addr):Prop where
 makes:PySem.W.makesIn K C=true
 init:PySem.W.findIn K (.ref C) "__init__"=some (some (.ref f))
 fn:PySem.W.isFn K (.ref f)=true
 kp:PySem.W.keepIn K (.ref C)=true
end
section
variable {X:Cx}{CX:CXT}{k:Nat}{f C:Addr}{fd:FuncData}{ps ks:List Str}{sp:Sp}{E:XK}{x m:Str}{p pos apos kpos:Pos}{e o:Expr}{es:List Expr}{kws:List Keyword}{te ta:TE}{t tk:TA}{nm:Option Str}
structure KBinds(K:Frag)(fd:FuncData)(ps ks:List Str)(g:List Value->List Value->List Value)(gV:List V->List V->List V):Prop where
 to:∀(s:Shared) (us ws:List Value),K.In s.heap->(g us ws).length=ps.length->BindsTo s fd ⟨us,ks.zip ws⟩ (ps.zip (g us ws))
 rel:∀{vs:List V}{us:List Value}{zs:List V}{ws:List Value},Vals vs us->Vals zs ws->Vals (gV vs zs) (g us ws)
variable {g:List Value->List Value->List Value}{gV:List V->List V->List V}
end
structure FnScope(N P:List Str)(sc:Scope):Prop where
 kind:sc.kind=.function
 co:sc.isCoroutine=false
 gen:sc.isGenerator=false
 nd:N.Nodup
 pre:N.take P.length=P
 par:∀x∈P,sc.names.lookup x=some .local\/sc.names.lookup x=some .cell
 nofree:∀y∈sc.names,y.2≠.free
theorem rG{kindOf:Str->Option NameKind}{x:Str}:∀{binds:List (Str×Value)}{m:Str->Option Value},(∀v,(x,v)∉binds)->bindL kindOf binds m x=m x
 |[],_,_=>rfl
 |(n,v)::r,m,h=>by
  unfold bindL;rw[rG fun w hw=>h w (List.mem_cons_of_mem _ hw)];split
  .have:x≠n:=by rintro rfl;exact h v List.mem_cons_self
   simp[this]
  .rfl
theorem rJ{kindOf:Str->Option NameKind}{x:Str}:∀{binds:List (Str×Value)}{m:Str->Option Value},(∀v,(x,v)∉binds)->bindC kindOf binds m x=m x
 |[],_,_=>rfl
 |(n,v)::r,m,h=>by
  unfold bindC;rw[rJ fun w hw=>h w (List.mem_cons_of_mem _ hw)];split
  .rfl
  .have:x≠n:=by rintro rfl;exact h v List.mem_cons_self
   simp[this]
theorem rH{kindOf:Str->Option NameKind}{x:Str}{v:Value}:∀{P:List Str}{vs:List Value}{i:Nat}{m:Str->Option Value},P.Nodup->P[i]? = some x->vs[i]? = some v->kindOf x=some .local ->
  bindL kindOf (P.zip vs) m x=some v
 |[],_,_,_,_,h,_,_=>by simp at h
 |_::_,[],_,_,_,_,h,_=>by simp at h
 |p::P,w::vs,0,m,nd,h1,h2,hk=>by
  simp at h1 h2;subst h1;subst h2;show bindL kindOf ((p,w)::P.zip vs) m p=_;unfold bindL;rw[rG fun v hv=>(List.nodup_cons.mp nd).1 (List.of_mem_zip hv).1,if_pos hk];simp
 |p::P,w::vs,i+1,m,nd,h1,h2,hk=>by
  show bindL kindOf ((p,w)::P.zip vs) m x=_;unfold bindL;exact rH (i:=i) (List.nodup_cons.mp nd).2 (by simpa using h1) (by simpa using h2) hk
theorem rK{kindOf:Str->Option NameKind}{x:Str}{v:Value}:∀{P:List Str}{vs:List Value}{i:Nat}{m:Str->Option Value},P.Nodup->P[i]? = some x->vs[i]? = some v->kindOf x≠some .local ->
  bindC kindOf (P.zip vs) m x=some v
 |[],_,_,_,_,h,_,_=>by simp at h
 |_::_,[],_,_,_,_,h,_=>by simp at h
 |p::P,w::vs,0,m,nd,h1,h2,hk=>by
  simp at h1 h2;subst h1;subst h2;show bindC kindOf ((p,w)::P.zip vs) m p=_;unfold bindC;rw[rJ fun v hv=>(List.nodup_cons.mp nd).1 (List.of_mem_zip hv).1,if_neg hk];simp
 |p::P,w::vs,i+1,m,nd,h1,h2,hk=>by
  show bindC kindOf ((p,w)::P.zip vs) m x=_;unfold bindC;exact rK (i:=i) (List.nodup_cons.mp nd).2 (by simpa using h1) (by simpa using h2) hk
def start(N:List Str)(vs:List V):St:=vs.map some++List.replicate (N.length-vs.length) none
def eF(CX:CXT)(P:Program)(w:World)(K:Frag)(mg:Str->Option Value)(base:Heap)(N:List Str)(qual:Str)(scope:Scope)(f:Addr)(cd:Value)(A:Around)(outer:List Env)(s:Shared)(H:Hp)(E:XK):Cx where
 prog:=P
 w:=w
 K:=K
 mg:=mg
 base:=base
 A:=A.deeper (envOfC qual scope s.heap.objs.size f cd)
 N:=N
 s₀:=s
 H₀:=H
 env:=envOfC qual scope s.heap.objs.size f cd
 outer:=outer
 stack:=envOfC qual scope s.heap.objs.size f cd::outer
 ex:=[]
 calm:=true
 fn:=fun _=>true
 pn:=[]
 xe:=fun e s'=>wpAny (model P w) (A.deeper (envOfC qual scope s.heap.objs.size f cd)) (leaving (envOfC qual scope s.heap.objs.size f cd) e) (fun _ s''=>CX outer H s E e s'') (fun e' s''=>CX outer H s E e' s'') s'
theorem sM{sc:Scope}{n:Nat}{x:Str}(h:sc.names.lookup x=some .cell):∃c,(cellsFrom n sc.names []).lookup x=some c:=by
 have q:=PySem.W.cellsFrom_some sc.names n [] (.inl h);exact Option.isSome_iff_exists.mp q
theorem zA{CX:CXT}{P:Program}{w:World}{K:Frag}{mg:Str->Option Value}{base:Heap}{N ps:List Str}{qual:Str}{scope:Scope}{f:Addr}{cd:Value}{A:Around}{outer:List Env}{s s1:Shared}{H:Hp}{E:XK}{us:List Value}{vs:List V}
  (S:FnScope N ps scope) (hd:A.handled=none) (e0:Env0 P w K mg base A outer s H) (hl:vs.length=ps.length) (r:Vals vs us)
  (x:InCallC s s.heap.objs.size (bindL (envOfC qual scope s.heap.objs.size f cd).kindOf (ps.zip us) fun _=>none) (cellsFrom (s.heap.objs.size+1) scope.names []) (bindC (envOfC qual scope s.heap.objs.size f cd).kindOf (ps.zip us) fun _=>none) s1) :
  Inv (eF CX P w K mg base N qual scope f cd A outer s H E) [] (start N vs) H s1:=by
 have hpl:ps.length<=N.length:=by have:=congrArg List.length S.pre;rw[List.length_take] at this;omega
 obtain⟨h1,tk,rfl,hk⟩:=x.done;have noA:∀b:Addr,b∉(eF CX P w K mg base N qual scope f cd A outer s H E).ex:=fun b z=>absurd (show b∈([]:List Addr) from z) (by simp)
 refine⟨⟨e0.mod,S.kind,rfl,rfl,Nat.le_refl _,fun y z c h1 h2=>?_,fun y hy=>?_,fun y c _ h=>?_,fun _=>hd,Around.frames_deeper e0.frames,.inr ⟨rfl,rfl⟩,fun b z=>absurd z (noA b),e0.bs,e0.bsz,fun b _ _=>noA b,fun b z=>absurd z (noA b),e0.funs,e0.frf⟩,
  rfl,e0.bare,Un.kept hk,⟨_,x.toInCall.ns,fun i y v h1 h2 h3=>?_⟩,fun y c h=>⟨_,x.cell y c h⟩,e0.hok.fresh (Nat.le_refl _),fun y c h=>?_,fun p hp=>absurd (show p∈([]:List (Addr×Obj)) from hp) (by simp),e0.hok.kept hk,?_⟩
 .exact name_of_addr x.apart (PySem.mem_of_lookup h1) (PySem.mem_of_lookup h2)
 .have hy:scope.names.lookup y=some .cell\/scope.names.lookup y=some .free:=hy
  rcases hy with hy|hy
  .exact sM hy
  .exact absurd rfl (S.nofree _ (PySem.mem_of_lookup hy))
 .exact Nat.le_of_lt (x.above y c (PySem.mem_of_lookup h))
 .have hi:i<vs.length:=by
   unfold start at h2
   by_cases hi:i<vs.length
   .exact hi
   .rw[List.getElem?_append_right (by simpa using hi)] at h2
    rw[List.getElem?_replicate] at h2
    split at h2 <;> cases h2
  have ha:vs[i]? = some v:=by
   unfold start at h2;rw[List.getElem?_append_left (by simpa using hi),List.getElem?_map] at h2
   cases e:vs[i]? with
   |none=>rw[e] at h2;cases h2
   |some a=>rw[e] at h2;cases h2;rfl
  obtain⟨u,hu,rv⟩:=r.get ha
  have hp:ps[i]? = some y:=by
   rw[←S.pre,List.getElem?_take_of_lt (by omega)];exact h1
  have ndP:ps.Nodup:=by rw[←S.pre];exact S.nd.sublist (List.take_sublist _ _)
  refine⟨u,rv,?_⟩
  rcases S.par y (List.mem_of_getElem? hp) with k|k
  .exact .inl ⟨k,rH ndP hp hu k⟩
  .obtain⟨c,e⟩:=sM (n:=s.heap.objs.size+1) k
   refine .inr ⟨.inl k,c,e,?_⟩;have q:=x.cell y c e;rw[rK ndP hp hu (by show scope.names.lookup y≠_;rw[k];decide)] at q;exact q
 .exact e0.hok.fresh (Nat.le_of_lt (x.above y c (PySem.mem_of_lookup h)))
 .unfold start
  show _=N.length;rw[List.length_append,List.length_map,List.length_replicate];omega
theorem FB{CX:CXT}{P:Program}{w:World}{K:Frag}{mg:Str->Option Value}{base:Heap}{k:Nat}{f:Addr}{name qual:Str}{params:Arguments}{body:List Stmt}{scope:Scope}{dV kV doc pm cdv ct oc:Value}{an od:Option Addr}
  {osl:Array (Option Value)}{N ps:List Str}{sp:Sp} (lk:K.lookup f=some ⟨oc,od,.func (PySem.W.fnOf name qual params body scope dV kV doc pm an cdv ct),osl⟩) (hcd:PySem.W.codeIn K cdv qual=true) (S:FnScope N ps scope)
  (len:∀vs H Q E,sp vs H Q E->vs.length=ps.length)
  (hbody:∀(A:Around) (outer:List Env) (s:Shared) (H:Hp) (vs:List V) (Q:VK) (E:XK),Room k (A.deeper (envOfC qual scope s.heap.objs.size f cdv))->sp vs H Q E ->
   ∃t,PSs (eF CX P w K mg base N qual scope f cdv A outer s H E) body t/\t { nx:=fun _ H'=>Q .non H',rt:=Q } (start N vs) H) :
  FnOk P w K mg base CX (k+1) f (PySem.W.fnOf name qual params body scope dV kV doc pm an cdv ct) ps sp:=by
 refine⟨len,fun A outer s H args us vs Q E hr e0 hb r hsp=>?_⟩;have hl:=len _ _ _ _ hsp;have KX:K.In s.heap:=e0.mod.kin.keeps fun b o e=>(e0.bs b o e).1;have lim:s.heap.NoLimit:=e0.mod.nolimit.keeps fun b o e=>(e0.bs b o e).1
 have hkind:∀y∈ps.zip us,scope.names.lookup y.1=some .local\/(scope.names.lookup y.1=some .cell/\((cellsFrom (s.heap.objs.size+1) scope.names []).lookup y.1).isSome=true):=fun⟨n,v⟩ hy=>by
  rcases S.par n (List.of_mem_zip hy).1 with q|q
  .exact .inl q
  .exact .inr ⟨q,PySem.W.cellsFrom_some _ _ _ (.inl q)⟩
 refine codeAny_call_function hr.depth (KX _ _ lk) rfl S.co S.gen rfl (PySem.W.codeRec_of KX hcd) (hb _ _ _ _ ?_);refine wpAny_newFunctionEnv_cells S.kind hkind fun env he s1 x=>?_;subst he;refine⟨lim.keeps x.toInCall.keep,codeAny_func ?_⟩;obtain⟨t,ht,hq⟩:=hbody A outer s H vs Q E (hr.deeper _) hsp;have I:Inv (eF CX P w K mg base N qual scope f cdv A outer s H E) [] (start N vs) H s1:=zA S hr.hd e0 hl r x;refine wpAny_mono (ht [] s1 (start N vs) H _ I hq) (fun fl s' hs=>?_) fun e s' hs=>hs
 have fin:∀{σ':St}{H':Hp}{v:V}{u:Value},Inv (eF CX P w K mg base N qual scope f cdv A outer s H E) [] σ' H' s'->RelV v u->Q v H'->CE outer P w H s Q u s':=
  fun {σ' H' v u} J rv q=>⟨v,H',J.os,J.bare,J.base,J.hok,rv,q⟩
 cases fl with
 |ret u=>
  obtain⟨v,σ',H',J,rv,q⟩:=hs;exact fin J rv q
 |next=>
  obtain⟨σ',H',J,q⟩:=hs;exact fin (v:=V.non) (u:=Value.none) J rfl q
 |brk=>
  obtain⟨_,_,_,q⟩:=hs;exact False.elim q
 |cont=>
  obtain⟨_,_,_,q⟩:=hs;exact False.elim q
section
variable {X:Cx}{x:Str}{p pos:Pos}{e:Expr}{es:List Expr}{t:TA}{id T:String}{r:List V->Hp->VK->Prop}
def tCB(r:List V->Hp->VK->Prop)(t:TA):TE:=fun σ H Q=>t σ H fun vs H1=>r vs H1 Q
theorem kG(hc:CallR X (.builtin id) r)(hg:Gl X x)(hm:X.mg x=none)(hv:bootBuiltins x=some (.builtin id))(ha:PA X (e::es) t)(hn:x≠"__name__":=by decide)(hdb:(x == ("__debug__" : Str))=false:=by decide)
  (he:starEach (e::es) X.env=(false,eval e X.env)::starEach es X.env:=by rfl) (hpl:(backTo pos (starEach es X.env)).any (·.1)=false:=by rfl):PE X (.Call (.Name x p) (e::es) [] pos) (tCB r t):=by
 intro pins s σ H Q I h;refine wpAny_Call_Name_kw (gN I hg hm hv ?_ hn hdb);exact PyProof.Rows.callWith_builtin1 (thn (ha pos pins s σ H _ I h) fun us s1 ⟨vs,H1,I1,r1,q1⟩=>hc pins s1 σ H1 vs us Q I1 r1 q1) he hpl
theorem l9(hc:CallR X (.type T) r)(hg:Gl X x)(hm:X.mg x=none)(hv:bootBuiltins x=some (.type T))(ha:PA X (e::es) t)(hn:x≠"__name__":=by decide)(hdb:(x == ("__debug__" : Str))=false:=by decide)
  (he:starEach (e::es) X.env=(false,eval e X.env)::starEach es X.env:=by rfl) (hpl:(backTo pos (starEach es X.env)).any (·.1)=false:=by rfl):PE X (.Call (.Name x p) (e::es) [] pos) (tCB r t):=by
 intro pins s σ H Q I h;refine wpAny_Call_Name_kw (gN I hg hm hv ?_ hn hdb);exact PyProof.Rows.callWith_type1 (thn (ha pos pins s σ H _ I h) fun us s1 ⟨vs,H1,I1,r1,q1⟩=>hc pins s1 σ H1 vs us Q I1 r1 q1) he hpl
end
end L2
namespace HT
open PySem PyProof.Rows
section
open PySem.SeqAt
open PySem.AutoSeq1 (wpAny_loadPart')
open PySem.MeetsSeq PySem.MeetsSeq2 PySem.MeetsSeq3
end
section
variable {prog:Program}{w:World}{A:Around}{E:Value->Shared->Prop}{s:Shared}
theorem CH{t b:Addr}{vs ws:List Value}{Q:Value->Shared->Prop}(ht:IsTup s.heap t vs.toArray)(hb:IsTup s.heap b ws.toArray)(hv:vs≠[])
  (h1:ws=[]->Q (.ref t) s) (h2:ws≠[]->Q (.ref s.heap.objs.size) { s with heap:=s.heap.push { cls:=.type "tuple",data:=.seq (vs++ws).toArray } })
  (hsz:vs.length+ws.length<=sizeLine):wpAny (model prog w) A (binaryOp .Add (.ref t) (.ref b)) Q E s:=by
 obtain⟨⟨cls,dd,data,sl⟩,ho,hc,n,hd⟩:=id ht;obtain⟨⟨cls2,dd2,data2,sl2⟩,ho2,hc2,n2,hd2⟩:=id hb;simp only at hc hd hc2 hd2;subst hc hd hc2 hd2
 have e:vs.toArray++ws.toArray=(vs++ws).toArray:=by simp
 by_cases hw:ws=[]
 .exact concat_meets ⟨_,ho,rfl⟩ ⟨_,ho2,rfl⟩ noFill_tuple_add seq_tuple_add PySem.F.slot_tuple_add PySem.F.entry_tuple_add (PySem.F.args_tuple_add_2 _ _)
   (tuple_addW1 t b vs.toArray ws.toArray n n2 dd dd2 sl sl2 (by simpa using hv) (by simp[hw])) ⟨ho,ho2,h1 hw⟩
 .refine concat_meets ⟨_,ho,rfl⟩ ⟨_,ho2,rfl⟩ noFill_tuple_add seq_tuple_add PySem.F.slot_tuple_add PySem.F.entry_tuple_add (PySem.F.args_tuple_add_2 _ _)
   (tuple_addW2 t b vs.toArray ws.toArray n n2 dd dd2 sl sl2 (by simpa using hv) (by simpa using hw) (by rw[List.size_toArray,List.size_toArray];exact hsz)) ⟨ho,ho2,?_⟩
  rw[e];exact h2 hw
def sIx(n d:Nat):Option Int->Nat
 |none=>d
 |some v=>if v<0 then (v+(n:Int)).toNat else min v.toNat n
theorem Dd(n d:Nat)(hd:d<=n)(o:Option Int):sIx n d o<=n:=by
 cases o with
 |none=>exact hd
 |some v=>
  show (if v<0 then (v+(n:Int)).toNat else min v.toNat n)<=n
  by_cases hv:v<0
  .rw[if_pos hv];omega
  .rw[if_neg hv];exact Nat.min_le_right _ _
theorem uj(v:Int)(n d:Nat):(if v<0 then max (v+(n:Int)) 0 else min v (n:Int))=((sIx n d (some v):Nat):Int):=by
 show (if v<0 then max (v+(n:Int)) 0 else min v (n:Int))=(((if v<0 then (v+(n:Int)).toNat else min v.toNat n):Nat):Int)
 by_cases hv:v<0
 .simp only[if_pos hv];omega
 .simp only[if_neg hv];omega
theorem yW(lo hi:Option Int)(n:Nat):Builtin.Slice.sliceAdjust lo hi 1 (n:Int)=(((sIx n 0 lo:Nat):Int),((sIx n n hi:Nat):Int)):=by
 have h1:¬((1:Int)<0):=by omega
 unfold Builtin.Slice.sliceAdjust;simp only[h1,if_false];refine Prod.ext ?_ ?_
 .cases lo with
  |none=>rfl
  |some v=>exact uj v n 0
 .cases hi with
  |none=>rfl
  |some v=>exact uj v n n
theorem yv(i j:Nat):Builtin.Slice.slicePlaces (i:Int) (j:Int) 1=j-i:=by
 unfold Builtin.Slice.slicePlaces
 have h1:(1:Int)>0:=by omega
 simp only[h1,if_true,Int.ediv_one]
 split <;> omega
theorem qo{v:Value}{o:Option Int}{Q:Option Int->Shared->Prop}(p:IsPart v o)(h:Q o s):wpAny (model prog w) A (Builtin.Slice.slicePartIndex v) Q E s:=by
 cases p with
 |none=>exact slicePart_none h
 |int i t=>exact slicePart_int h
theorem pI{sl:Addr}{vl vu:Value}{lo hi:Option Int}{n:Nat}{Q:Int×Int×Nat->Shared->Prop}(hs:s.heap.IsSliceOf sl vl vu .none)(pl:IsPart vl lo)(pu:IsPart vu hi)
  (h:Q (((sIx n 0 lo:Nat):Int),1,sIx n n hi-sIx n 0 lo) s):wpAny (model prog w) A (Builtin.Slice.sliceApplied (.ref sl) (pure (n:Int))) Q E s:=by
 obtain⟨os,hos,hcs,hds⟩:=id hs;unfold Builtin.Slice.sliceApplied Builtin.Slice.sliceFields;refine wpAny_bind (wpAny_bind (wpAny_field hos hds (x:=vl) rfl (wpAny_bind (wpAny_field hos hds (x:=vu) rfl (wpAny_bind (wpAny_field hos hds (x:=.none) rfl (wpAny_pure ?_)))))));refine wpAny_bind (slicePart_none ?_);show wpAny _ _ (if ((1:Int) == 0)=true then _ else _) _ _ s;rw[if_neg (by decide)];refine wpAny_bind (qo pl (wpAny_bind (qo pu (wpAny_bind (wpAny_pure ?_)))));show wpAny _ _ (match Builtin.Slice.sliceAdjust lo hi 1 (n:Int) with|(lo,hi)=>pure (lo,(1:Int),Builtin.Slice.slicePlaces lo hi 1)) _ _ s;rw[yW lo hi n];show wpAny _ _ (pure (((sIx n 0 lo:Nat):Int),(1:Int),Builtin.Slice.slicePlaces ((sIx n 0 lo:Nat):Int) ((sIx n n hi:Nat):Int) 1)) _ _ s;rw[yv];exact wpAny_pure h
theorem Aj(xs:Array Value)(i k:Nat):((List.range k).filterMap fun(m:Nat)=>xs[((i:Int)+(m:Int)*1).toNat]?).toArray=((xs.toList.drop i).take k).toArray:=by
 have e:(fun(m:Nat)=>xs[((i:Int)+(m:Int)*1).toNat]?)=fun m=>xs[i+m]?:=by
  funext m
  have:((i:Int)+(m:Int)*1).toNat=i+m:=by omega
  rw[this]
 rw[e];have:=pick_run xs i k;rw[List.filterMap_map] at this;have e2:((fun x=>xs[x]?) ∘ fun x=>i+x)=fun m=>xs[i+m]?:=rfl;rw[e2] at this;rw[this]
theorem xb{t sl:Addr}{items:Array Value}{vl vu:Value}{lo hi:Option Int}{Q:Value->Shared->Prop}(ht:IsTup s.heap t items)(hs:s.heap.IsSliceOf sl vl vu .none)(pl:IsPart vl lo)(pu:IsPart vu hi)
  (hw:¬(sIx items.size 0 lo=0/\sIx items.size items.size hi=items.size))
  (h:Q (.ref s.heap.objs.size) { s with heap:=s.heap.push { cls:=.type "tuple",data:=.seq ((items.toList.drop (sIx items.size 0 lo)).take (sIx items.size items.size hi-sIx items.size 0 lo)).toArray } })
  (hsz:items.size<=sizeLine):wpAny (model prog w) A (getItem (.ref t) (.ref sl)) Q E s:=by
 have htake:sizeOk (.seq ((items.toList.drop (sIx items.size 0 lo)).take (sIx items.size items.size hi-sIx items.size 0 lo)).toArray):=by
  show ((items.toList.drop (sIx items.size 0 lo)).take (sIx items.size items.size hi-sIx items.size 0 lo)).toArray.size<=sizeLine;rw[List.size_toArray,List.length_take,List.length_drop,Array.length_toList];omega
 have hj:sIx items.size items.size hi<=items.size:=Dd _ _ (Nat.le_refl _) hi;obtain⟨os,hos,hcs,hds⟩:=id hs;have hTs:s.TypeIs (.ref sl) "slice":=⟨os,hos,hcs⟩;unfold getItem
 try with_reducible refine wpAny_holding ?_
 first|refine wpAny_bind (wpAny_pure ?_)|skip
 refine wpAny_bind (wpAny_sequenceKey ht.typeIs (by decide) ?_)
 refine wpAny_bind (wpAny_callSpecial?_slot (name:=Str.ofString "__getitem__") ht.typeIs PyProof.Rows.slot_tuple_getitem
  (wpAny_call_entry PyProof.Rows.slot_tuple_getitem ht.typeIs entry_tuple_getitem ?_ (args_tuple_getitem _ _)))
 show wpAny _ _ (Builtin.Tuple.tupleItemsOf (.ref t) >>= _) _ _ s;refine wpAny_bind (tupleItemsOf_ ht ?_);refine wpAny_bind (wpAny_typeOf hTs ?_);rw[if_pos (by decide)];refine wpAny_bind (pI hs pl pu ?_)
 have hno:¬((((sIx items.size 0 lo:Nat):Int) == 0&&(1:Int) == 1&&(sIx items.size items.size hi-sIx items.size 0 lo) == items.size)=true):=by
  intro q;rw[Bool.and_eq_true,Bool.and_eq_true] at q;have q1:((sIx items.size 0 lo:Nat):Int)=0:=eq_of_beq q.1.1;have q2:sIx items.size items.size hi-sIx items.size 0 lo=items.size:=eq_of_beq q.2;exact hw ⟨by omega,by omega⟩
 show wpAny _ _ (if (((sIx items.size 0 lo:Nat):Int) == 0&&(1:Int) == 1&&(sIx items.size items.size hi-sIx items.size 0 lo) == items.size)=true then _ else _) _ _ s;rw[if_neg hno,Aj]
 first
  |exact wpAny_bind (m:=Builtin.Tuple.tupleExact _) (wpAny_newObj_type (wpAny_pure ⟨_,rfl,wpAny_pure h⟩) htake)
  |exact wpAny_bind (m:=Builtin.Tuple.tupleExact _) (wpAny_newObj_type (wpAny_bind (wpAny_pure (wpAny_pure ⟨_,rfl,wpAny_pure h⟩))) htake)
  |exact wpAny_bind (wpAny_bind (m:=Builtin.Tuple.tupleExact _) (wpAny_newObj_type (wpAny_pure (wpAny_pure ⟨_,rfl,wpAny_pure h⟩)) htake))
  |exact wpAny_bind (wpAny_bind (m:=Builtin.Tuple.tupleExact _) (wpAny_newObj_type (wpAny_pure ⟨_,rfl,wpAny_pure h⟩) htake))
end
end HT
namespace L2
open PySem PySem.Spec PyProof.Rows
abbrev TO:=St->Hp->(Option Int->Hp->Prop)->Prop
def PO(X:Cx)(e:Option Expr)(t:TO):Prop:=
 ∀(pins:List (Addr×Obj)) (s:Shared) (σ:St) (H:Hp) (Q:Option Int->Hp->Prop),Inv X pins σ H s->t σ H Q ->
  wpAny (model X.prog X.w) X.A (evalPart e X.env) (fun u s'=>∃o H',Inv X pins σ H' s'/\IsPart u o/\Q o H') X.xe s
def Bl:TO:=fun _ H Q=>Q none H
def EG(t:TE):TO:=fun σ H Q=>t σ H fun x H1=>∃i,x=.int i/\Q (some i) H1
section
variable {X:Cx}{e:Expr}{te:TE}{lo hi:Option Expr}{tl th:TO}{pos p2:Pos}
theorem BN:PO X none Bl:=by
 intro pins s σ H Q I h;rw[evalPart_none];exact wpAny_pure ⟨none,H,I,.none,h⟩
theorem BM(h:PE X e te):PO X (some e) (EG te):=by
 intro pins s σ H Q I hw;rw[evalPart_some];refine thn (h pins s σ H _ I hw) fun u s1 ⟨x,H1,I1,r1,q1⟩=>?_;obtain⟨i,rfl,q⟩:=q1;obtain⟨t,rfl⟩:=r1;exact⟨some i,H1,I1,.int i t,q⟩
def SlR(X:Cx)(r:V->Option Int->Option Int->Hp->VK->Prop):Prop:=
 ∀(pins:List (Addr×Obj)) (s:Shared) (σ:St) (H:Hp) (x:V) (v vl vu:Value) (lo hi:Option Int) (sl:Addr) (Q:VK),Inv X pins σ H s->RelV x v->s.heap.IsSliceOf sl vl vu .none->IsPart vl lo->IsPart vu hi->r x lo hi H Q ->
  ∃T id,typeLookup (.type T) "__getitem__"=pure (some (.builtin id))/\s.TypeIs v T/\wpAny (model X.prog X.w) X.A (getItem v (.ref sl)) (EP X pins σ Q) X.xe s
theorem SlR.or{r r':V->Option Int->Option Int->Hp->VK->Prop}(h:SlR X r)(h':SlR X r'):SlR X (fun x lo hi H Q=>r x lo hi H Q\/r' x lo hi H Q):=by
 intro pins s σ H x v vl vu lo hi sl Q I rx hs pl pu q
 rcases q with q|q
 .exact h pins s σ H x v vl vu lo hi sl Q I rx hs pl pu q
 .exact h' pins s σ H x v vl vu lo hi sl Q I rx hs pl pu q
def tSl(r:V->Option Int->Option Int->Hp->VK->Prop)(te:TE)(tl th:TO):TE:=fun σ H Q=>te σ H fun x H1=>tl σ H1 fun l H2=>th σ H2 fun u H3=>r x l u H3 Q
theorem Am{r:V->Option Int->Option Int->Hp->VK->Prop}(hr:SlR X r)(he:PE X e te)(hl:PO X lo tl)(hu:PO X hi th):PE X (.Subscript e (.Slice lo hi none p2) pos) (tSl r te tl th):=by
 intro pins s σ H Q I h;refine Subscript_ (thn (he pins s σ H _ I h) fun v s1 ⟨x,H1,I1,r1,q1⟩=>?_);refine wpAny_Slice (thn (hl pins s1 σ H1 _ I1 q1) fun vl s2 ⟨l,H2,I2,pl,q2⟩=>thn (hu pins s2 σ H2 _ I2 q2) fun vu s3 ⟨u,H3,I3,pu,q3⟩=>?_);rw[evalPart_none];refine wpAny_pure ?_;have I4:Inv X pins σ H3 { s3 with heap:=s3.heap.push { cls:=.type "slice",data:=.fields #[vl,vu,.none] } }:=I3.kept (t':=s3.toks) fun b ob q=>Heap.get?_push_of_some _ q;obtain⟨T,id,hT,ht,hg⟩:=hr pins { s3 with heap:=s3.heap.push { cls:=.type "slice",data:=.fields #[vl,vu,.none] } } σ H3 x v vl vu l u s3.heap.objs.size Q I4 r1 (Heap.IsSliceOf.new ..) pl pu q3;show wpAny (model X.prog X.w) X.A (subscriptTail e (.Slice lo hi none p2) v (.ref s3.heap.objs.size)) (EP X pins σ Q) X.xe { s3 with heap:=s3.heap.push { cls:=.type "slice",data:=.fields #[vl,vu,.none] } };exact tail_any (ops:=[.ref s3.heap.objs.size,v]) ht hT hg (by with_unfolding_all rfl)
def fN(xs:List V)(lo hi:Option Int):List V:=(xs.drop (HT.sIx xs.length 0 lo)).take (HT.sIx xs.length xs.length hi-HT.sIx xs.length 0 lo)
theorem qi(xs:List V)(lo hi:Option Int):(fN xs lo hi).length<=xs.length:=by
 unfold fN;rw[List.length_take,List.length_drop];omega
def Gp(K:Frag):V->Option Int->Option Int->Hp->VK->Prop:=fun x lo hi H Q=>∃a xs,x=.ref a/\SqT K H a xs /\
 ¬(HT.sIx xs.length 0 lo=0/\HT.sIx xs.length xs.length hi=xs.length)/\∀p,H p=none->Q (.ref p) (upd H p (.tup (fN xs lo hi)))
theorem C9:SlR X (Gp X.K):=by
 intro pins s σ H x v vl vu lo hi sl Q I rx hs pl pu h;obtain⟨a,xs,rfl,hx,hw,q⟩:=h;cases rx;obtain⟨its,r,ht,hz⟩:=I.tuple hx
 have hlen:its.toArray.size=xs.length:=by rw[List.size_toArray];exact r.length.symm
 refine⟨"tuple",_,PyProof.Rows.slot_tuple_getitem.lookup,ht.typeIs,?_⟩;refine HT.xb ht hs pl pu (by rw[hlen];exact hw) ?_ (by rw[hlen];exact hz);rw[hlen];refine⟨.ref s.heap.objs.size,_,I.laid (t':=s.toks) (o:=.tup (fN xs lo hi)) (fun b ob q=>Heap.get?_push_of_some _ q) (Nat.le_refl _) ?_,rfl,q _ (I.hok.fresh (Nat.le_refl _))⟩;exact⟨Nat.le_trans (qi xs lo hi) hz,_,(r.drop (HT.sIx xs.length 0 lo)).take (HT.sIx xs.length xs.length hi-HT.sIx xs.length 0 lo),IsTup.new _ _⟩
def EU(K:Frag):R2:=fun x y H Q=>∃a b xs ys,x=.ref a/\y=.ref b/\SqT K H a xs/\SqT K H b ys/\xs≠[]/\xs.length+ys.length<=sizeLine /\
 (ys=[]->Q (.ref a) H)/\(ys≠[]->∀p,H p=none->Q (.ref p) (upd H p (.tup (xs++ys))))
theorem Vals.nil_iff{xs:List V}{us:List Value}(r:Vals xs us):us=[]↔xs=[]:=by
 cases r with
 |nil=>simp
 |cons _ _=>simp
theorem BY:OpR X (binaryOp .Add) (EU X.K):=by
 intro pins s σ H x y v u Q I rx ry h;obtain⟨a,b,xs,ys,rfl,rfl,ha,hb,hx,hz,q1,q2⟩:=h;cases rx;cases ry;obtain⟨its,r1,p1,_⟩:=I.tuple ha;obtain⟨its2,r2,p2,_⟩:=I.tuple hb;refine HT.CH p1 p2 (fun z=>hx (r1.nil_iff.mp z)) (fun z=>⟨.ref a,H,I,rfl,q1 (r2.nil_iff.mp z)⟩) (fun z=>?_) (by rw[←r1.length,←r2.length];exact hz);refine⟨.ref s.heap.objs.size,_,I.laid (t':=s.toks) (o:=.tup (xs++ys)) (fun b ob q=>Heap.get?_push_of_some _ q) (Nat.le_refl _) ?_,rfl,q2 (fun w=>z (r2.nil_iff.mpr w)) _ (I.hok.fresh (Nat.le_refl _))⟩;exact⟨by rw[List.length_append];exact hz,_,r1.append r2,IsTup.new _ _⟩
end
def ixN(n:Nat)(i:Int):Option Nat:=if 0<=i then (if i<n then some i.toNat else none) else if -(n:Int)<=i then some (i+n).toNat else none
def atI{α:Type}(xs:List α)(i:Int):Option α:=(ixN xs.length i).bind fun j=>xs[j]?
theorem tR{n:Nat}{i:Int}{j:Nat}(h:ixN n i=some j):seqIndex? i n=some j/\j<n/\-(n:Int)<=i/\i<n:=by
 unfold ixN at h
 by_cases h0:0<=i
 .rw[if_pos h0] at h
  by_cases h1:i<n
  .rw[if_pos h1] at h
   have e:i.toNat=j:=Option.some.inj h;exact⟨by rw[seqIndex_of h0 h1,e],by omega,by omega,h1⟩
  .rw[if_neg h1] at h;cases h
 .rw[if_neg h0] at h
  by_cases h1 : -(n:Int)<=i
  .rw[if_pos h1] at h
   have e:(i+n).toNat=j:=Option.some.inj h;exact⟨by rw[seqIndex_neg (by omega) h1,e],by omega,h1,by omega⟩
  .rw[if_neg h1] at h;cases h
theorem nA{α:Type}{xs:List α}{i:Int}{v:α}(h:atI xs i=some v):∃j,seqIndex? i xs.length=some j/\xs[j]? = some v/\j<xs.length/\-(xs.length:Int)<=i/\i<xs.length:=by
 unfold atI at h
 cases e:ixN xs.length i with
 |none=>rw[e] at h;cases h
 |some j=>
  rw[e] at h;obtain⟨h1,h2,h3,h4⟩:=tR e;exact⟨j,h1,h,h2,h3,h4⟩
def nG(b:Expr):Prop:=∀o i,subscripted b false o i=operate [o,i] (getItem o i)
def IxR(X:Cx)(r:R2):Prop:=
 ∀(value slice:Expr) (pins:List (Addr×Obj)) (s:Shared) (σ:St) (H:Hp) (x y:V) (v u:Value) (Q:VK),Inv X pins σ H s->RelV x v->RelV y u->r x y H Q ->
  subscripted slice false v u=operate [v,u] (getItem v u)->wpAny (model X.prog X.w) X.A (subscriptTail value slice v u) (EP X pins σ Q) X.xe s
def MtR(X:Cx)(id:String)(r:V->List V->Hp->VK->Prop):Prop:=
 ∀(pins:List (Addr×Obj)) (s:Shared) (σ:St) (H:Hp) (x:V) (xs:List V) (v:Value) (us:List Value) (Q:VK),Inv X pins σ H s->RelV x v->Vals xs us->r x xs H Q ->
  wpAny (model X.prog X.w) X.A (call (.builtin id) (v::us)) (EP X pins σ Q) X.xe s
section
variable {X:Cx}{a b:Expr}{ta tb:TE}{pos:Pos}
theorem IxR.or{r r':R2}(h:IxR X r)(h':IxR X r'):IxR X (fun x y H Q=>r x y H Q\/r' x y H Q):=by
 intro value slice pins s σ H x y v u Q I rx ry q hs
 rcases q with q|q
 .exact h value slice pins s σ H x y v u Q I rx ry q hs
 .exact h' value slice pins s σ H x y v u Q I rx ry q hs
theorem vC{r:R2}(hr:IxR X r)(ha:PE X a ta)(hb:PE X b tb)(hs:nG b):PE X (.Subscript a b pos) (tOp r ta tb):=by
 intro pins s σ H Q I h;exact Subscript_ (pA ha hb I h fun v u s2 x y H2 I2 rx ry q=>hr a b pins s2 σ H2 x y v u Q I2 rx ry q (hs _ _))
def wx(K:Frag):R2:=fun x y H Q=>∃p xs i v,x=.ref p/\y=.int i/\SqL K H p xs/\atI xs i=some v/\Q v H
def wq(K:Frag):R2:=fun x y H Q=>∃p xs i v,x=.ref p/\y=.int i/\SqT K H p xs/\atI xs i=some v/\Q v H
def wu:R2:=fun x y H Q=>∃z i c,x=.str z/\y=.int i/\z.length<=sizeLine/\atI z.cps.toList i=some c/\Q (.str ⟨#[c]⟩) H
theorem ix_list:IxR X (wx X.K):=by
 intro value slice pins s σ H x y v u Q I rx ry h hs;obtain⟨p,xs,i,z,rfl,rfl,hq,he,q⟩:=h;cases rx;obtain⟨t,rfl⟩:=ry;obtain⟨its,r,pl,hz⟩:=I.list hq;obtain⟨j,h1,h2,h3,h4,h5⟩:=nA he;obtain⟨w,ew,rw'⟩:=r.get h2;have hl:=r.length;have hn:=gK;have fin:EP X pins σ Q w s:=⟨z,H,I,rw',q⟩
 by_cases h0:0<=i
 .have hj:i.toNat=j:=by
   rw[seqIndex_of h0 h5] at h1;exact Option.some.inj h1
  exact item_listR pl.isList h0 (by omega) (by rw[hj];simpa using ew) fin hs
 .have hj:(i+(its.toArray.size:Int)).toNat=j:=by
   rw[seqIndex_neg (by omega) h4] at h1;rw[List.size_toArray,←hl];exact Option.some.inj h1
  exact subscriptTail_builtinR (x:=w) pl.isList.typeIs slot_list_getitem.lookup
   (wpAny_getItem_list_neg (Q:=fun r s'=>r=w/\EP X pins σ Q r s') pl.isList (by omega) (by rw[List.size_toArray] <;> omega) (by omega) (by rw[hj];simpa using ew) ⟨rfl,fin⟩) hs
theorem ix_tup:IxR X (wq X.K):=by
 intro value slice pins s σ H x y v u Q I rx ry h hs;obtain⟨p,xs,i,z,rfl,rfl,hq,he,q⟩:=h;cases rx;obtain⟨t,rfl⟩:=ry;obtain⟨its,r,pl,hz⟩:=I.tuple hq;obtain⟨j,h1,h2,h3,h4,h5⟩:=nA he;obtain⟨w,ew,rw'⟩:=r.get h2;have hl:=r.length;have hn:=gK;have fin:EP X pins σ Q w s:=⟨z,H,I,rw',q⟩
 exact subscriptTail_builtinR (x:=w) pl.typeIs slot_tuple_getitem.lookup
  (getItem_tuple (j:=j) (Q:=fun r s'=>r=w/\EP X pins σ Q r s') pl (by omega) (by omega) (by rw[List.size_toArray,←hl];exact h1) (by simpa using ew) ⟨rfl,fin⟩) hs
theorem D6:IxR X wu:=by
 intro value slice pins s σ H x y v u Q I rx ry h hs;obtain⟨z,i,c,rfl,rfl,hz,he,q⟩:=h;obtain⟨t,rfl⟩:=rx;obtain⟨t',rfl⟩:=ry;obtain⟨j,h1,h2,h3,h4,h5⟩:=nA he
 have hl:z.cps.toList.length=z.length:=by simp[Str.length]
 rw[hl] at h1 h4 h5;have hn:=gK
 exact tail_any (typeIs_str s z t) slot_str_getitem.lookup (getItem_str (c:=c) (by
  have e1:decide (i < -(2^63:Int))=false:=decide_eq_false (by omega);have e2:decide (i>=2^63)=false:=decide_eq_false (by omega)
  rw[e1,e2,Bool.or_false]) (by rw[h1];simpa using h2) ⟨.str ⟨#[c]⟩,H,I.tok _,⟨_,rfl⟩,q⟩) hs
def rIx(K:Frag):R2:=fun x y H Q=>wx K x y H Q\/wq K x y H Q\/wu x y H Q
theorem D7:IxR X (rIx X.K):=ix_list.or (ix_tup.or D6)
theorem yA(its:List Value)(n j:Nat)(u:Value):Obj.mapSeq (·.setIfInBounds j u) { cls:=.type "list",data:=.seq its.toArray n } = { cls:=.type "list",data:=.seq (its.set j u).toArray n }:=by simp[Obj.mapSeq]
theorem Inv.lst{pins:List (Addr×Obj)}{σ:St}{H:Hp}{s:Shared}{p:Addr}{xs:List V}(I:Inv X pins σ H s)(h:H p=some (.lst xs)) :
  ∃(its:List Value) (n:Nat),Vals xs its/\s.heap.get? p=some { cls:=.type "list",data:=.seq its.toArray n }/\xs.length<=sizeLine:=by
 obtain⟨z,its,n,r,e⟩:=I.hok p _ h;exact⟨its,n,r,e,z⟩
theorem Inv.lstUpd{pins:List (Addr×Obj)}{σ:St}{H:Hp}{s:Shared}{p:Addr}{xs ys:List V}{its its':List Value}{n n':Nat}{f:Obj->Obj}(I:Inv X pins σ H s)(h:H p=some (.lst xs))
  (ho:s.heap.get? p=some { cls:=.type "list",data:=.seq its.toArray n }) (hf:f { cls:=.type "list",data:=.seq its.toArray n } = { cls:=.type "list",data:=.seq its'.toArray n' }) (r:Vals ys its') (hz:ys.length<=sizeLine) (t:Nat) :
  Inv X pins σ (upd H p (.lst ys)) { s with heap:=s.heap.update p f,toks:=t }:=by
 have e:(s.heap.update p f).get? p=some { cls:=.type "list",data:=.seq its'.toArray n' }:=by
  rw[Heap.get?_update_self f ho (by rw[hf] <;> rfl),hf]
 refine I.write (x:=p) (e:=p) (by rw[h];trivial) (.inl rfl) (fun b u hb q=>(Heap.get?_update_other _ _ (Ne.symm hb)).trans q) ⟨_,e⟩ ?_;exact⟨hz,its',n',r,e⟩
def ET:V->V->V->Hp->(Hp->Prop)->Prop:=fun o i v H Q=>∃p xs k j,o=.ref p/\i=.int k/\H p=some (.lst xs)/\ixN xs.length k=some j/\Q (upd H p (.lst (xs.set j v)))
theorem set_list:wV X ET:=by
 intro pins s σ H o i v ov iv u Q I ro ri rv h;obtain⟨p,xs,k,j,rfl,rfl,hp,hj,q⟩:=h;cases ro;obtain⟨t,rfl⟩:=ri;obtain⟨its,n,r,ho,hz⟩:=I.lst hp;obtain⟨h1,h2,h3,h4⟩:=tR hj;have hl:=r.length;have hn:=gK
 have I':Inv X pins σ (upd H p (.lst (xs.set j v))) { s with heap:=s.heap.update p (Obj.mapSeq (·.setIfInBounds j u)) }:=
  I.lstUpd hp ho (yA its n j u) (r.set rv j) (by rw[List.length_set];exact hz) s.toks
 by_cases h0:0<=k
 .have hk:k.toNat=j:=by
   rw[seqIndex_of h0 h4] at h1;exact Option.some.inj h1
  exact PySem.W.ki_setAt ho h0 (by omega) (by rw[List.size_toArray,←hl];exact h4) (by rw[hk];exact⟨_,I',q⟩)
 .have hk:(k+(its.toArray.size:Int)).toNat=j:=by
   rw[seqIndex_neg (by omega) h3] at h1;rw[List.size_toArray,←hl];exact Option.some.inj h1
  exact PySem.W.ki_setBack ho (by omega) (by rw[List.size_toArray,←hl];exact h3) (by omega) (by rw[hk];exact⟨_,I',q⟩)
theorem xT(lo hi:Option Int)(n:Nat):(sliceBounds lo hi none n).1=((HT.sIx n 0 lo:Nat):Int)/\(sliceBounds lo hi none n).2.1=((HT.sIx n n hi:Nat):Int)/\(sliceBounds lo hi none n).2.2=1:=by
 refine⟨?_,?_,rfl⟩
 .cases lo with
  |none=>simp[sliceBounds,HT.sIx]
  |some i=>
   simp only[sliceBounds,HT.sIx,Option.getD_none,show (1:Int)>0 by decide,if_true]
   by_cases h:i<0
   .simp only[h,if_true] <;> omega
   .simp only[h,if_false] <;> omega
 .cases hi with
  |none=>simp[sliceBounds,HT.sIx]
  |some i=>
   simp only[sliceBounds,HT.sIx,Option.getD_none,show (1:Int)>0 by decide,if_true]
   by_cases h:i<0
   .simp only[h,if_true] <;> omega
   .simp only[h,if_false] <;> omega
theorem xF(its:List Value)(lo hi:Option Int):slicePick its.toArray lo hi none=((its.drop (HT.sIx its.length 0 lo)).take (HT.sIx its.length its.length hi-HT.sIx its.length 0 lo)).toArray:=by
 obtain⟨h1,h2,h3⟩:=xT lo hi its.toArray.size;unfold slicePick;rw[h1,h2,h3]
 simp only[sliceRange_one,pick_run,List.size_toArray] <;> rfl
def Gq(K:Frag):V->Option Int->Option Int->Hp->VK->Prop:=fun x lo hi H Q=>∃a xs,x=.ref a/\SqL K H a xs/\∀p,H p=none->Q (.ref p) (upd H p (.lst (fN xs lo hi)))
theorem sl_list:SlR X (Gq X.K):=by
 intro pins s σ H x v vl vu lo hi sl Q I rx hs pl pu h;obtain⟨a,xs,rfl,hx,q⟩:=h;cases rx;obtain⟨its,r,ht,hz⟩:=I.list hx;have hlen:=r.length;refine⟨"list",_,slot_list_getitem.lookup,ht.isList.typeIs,?_⟩;refine wpAny_getItem_list_slice ht.isList hs pl pu .none (by simp) ?_ (by rw[List.size_toArray] <;> omega);rw[xF,←hlen];refine⟨.ref s.heap.objs.size,_,I.laid (t':=s.toks) (o:=.lst (fN xs lo hi)) (fun b ob q=>Heap.get?_push_of_some _ q) (Nat.le_refl _) ?_,rfl,q _ (I.hok.fresh (Nat.le_refl _))⟩;exact⟨Nat.le_trans (qi xs lo hi) hz,_,0,(r.drop (HT.sIx xs.length 0 lo)).take (HT.sIx xs.length xs.length hi-HT.sIx xs.length 0 lo),Heap.get?_push_size _ rfl⟩
def eQ:V->Bool
 |.non=>true
 |.bl _=>true
 |.int _=>true
 |.str _=>true
 |_=>false
def eqV:V->V->Bool
 |.non,.non=>true
 |.bl a,.bl b=>a == b
 |.bl a,.int b=>(if a then 1 else 0) == b
 |.int a,.bl b=>a == (if b then 1 else 0)
 |.int a,.int b=>a == b
 |.str a,.str b=>a == b
 |_,_=>false
theorem Eo{A:Around}{s:Shared}{y x:V}{u v:Value}(ry:RelV y u)(rx:RelV x v)(fy:eQ y=true)(fx:eQ x=true):SeqAt.EqAt A s u v (eqV y x):=by
 cases y with
 |non=>
  cases ry
  cases x with
  |non=>cases rx;exact SeqAt.EqAt.same _
  |bl b=>cases rx;exact SeqAt.EqAt.none_bool b
  |int b=>obtain⟨t,rfl⟩:=rx;exact SeqAt.EqAt.none_int b t
  |str b=>obtain⟨t,rfl⟩:=rx;exact SeqAt.EqAt.none_str b t
  |_=>exact absurd (show false=true from fx) Bool.false_ne_true
 |bl a=>
  cases ry
  cases x with
  |non=>cases rx;exact SeqAt.EqAt.bool_none a
  |bl b=>cases rx;exact SeqAt.EqAt.bool_bool a b
  |int b=>obtain⟨t,rfl⟩:=rx;exact SeqAt.EqAt.bool_int a b t
  |str b=>obtain⟨t,rfl⟩:=rx;exact SeqAt.EqAt.bool_str a b t
  |_=>exact absurd (show false=true from fx) Bool.false_ne_true
 |int a=>
  obtain⟨t',rfl⟩:=ry
  cases x with
  |non=>cases rx;exact SeqAt.EqAt.int_none a t'
  |bl b=>cases rx;exact SeqAt.EqAt.int_bool a t' b
  |int b=>obtain⟨t,rfl⟩:=rx;exact SeqAt.EqAt.int_int a t' b t
  |str b=>obtain⟨t,rfl⟩:=rx;exact SeqAt.EqAt.int_str a t' b t
  |_=>exact absurd (show false=true from fx) Bool.false_ne_true
 |str a=>
  obtain⟨t',rfl⟩:=ry
  cases x with
  |non=>cases rx;exact SeqAt.EqAt.str_none a t'
  |bl b=>cases rx;exact SeqAt.EqAt.str_bool a t' b
  |int b=>obtain⟨t,rfl⟩:=rx;exact SeqAt.EqAt.str_int a t' b t
  |str b=>obtain⟨t,rfl⟩:=rx;exact SeqAt.EqAt.str_str a t' b t
  |_=>exact absurd (show false=true from fx) Bool.false_ne_true
 |_=>exact absurd (show false=true from fy) Bool.false_ne_true
def eqU(x:V)(u:Value):Bool:=match u with
 |.none=>eqV .non x
 |.bool b=>eqV (.bl b) x
 |.int i _=>eqV (.int i) x
 |.str z _=>eqV (.str z) x
 |_=>false
theorem u4{x y:V}{u:Value}(r:RelV y u)(f:eQ y=true):eqU x u=eqV y x:=by
 cases y with
 |non=>cases r;rfl
 |bl b=>cases r;rfl
 |int i=>obtain⟨t,rfl⟩:=r;rfl
 |str z=>obtain⟨t,rfl⟩:=r;rfl
 |_=>exact absurd (show false=true from f) Bool.false_ne_true
theorem jq{x:V}:∀{xs:List V}{us:List Value},Vals xs us->xs.all eQ=true->us.any (eqU x)=xs.any fun y=>eqV y x
 |_,_,.nil,_=>rfl
 |y::xs,u::us,.cons r t,f=>by
  rw[List.all_cons,Bool.and_eq_true] at f;rw[List.any_cons,List.any_cons,u4 r f.1,jq t f.2]
theorem jb{A:Around}{s:Shared}{x:V}{v:Value}(rx:RelV x v)(fx:eQ x=true):∀{xs:List V}{us:List Value},Vals xs us->xs.all eQ=true->∀u∈us,SeqAt.EqAt A s u v (eqU x u)
 |_,_,.nil,_=>fun u hu=>by cases hu
 |y::xs,u::us,.cons r t,f=>fun u' hu=>by
  rw[List.all_cons,Bool.and_eq_true] at f
  rcases List.mem_cons.mp hu with rfl|hu
  .rw[u4 r f.1];exact Eo r rx f.1 fx
  .exact jb rx fx t f.2 u' hu
def inV(x:V)(xs:List V):Bool:=xs.any fun y=>eqV y x
def rIn(K:Frag)(neg:Bool):R2:=fun x y H Q=>∃p xs,y=.ref p/\(SqL K H p xs\/SqT K H p xs)/\eQ x=true/\xs.all eQ=true/\Q (.bl (if neg then !inV x xs else inV x xs)) H
theorem qX:OpR X (compareOp .In) (rIn X.K false):=by
 intro pins s σ H x y v u Q I rx ry h;obtain⟨p,xs,rfl,hq,fx,fs,q⟩:=h;cases ry
 rcases hq with hq|hq
 .obtain⟨its,r,pl,hz⟩:=I.list hq
  refine SeqAt.in_listAt (eqU x) pl.isList (fun w hw=>jb rx fx r fs w (by simpa using hw)) ⟨.bl _,H,I,rfl,?_⟩;rw[show its.toArray.any (eqU x)=its.any (eqU x) by simp,jq r fs];exact q
 .obtain⟨its,r,pl,hz⟩:=I.tuple hq
  refine SeqAt.in_tupleAt (eqU x) pl (fun w hw=>jb rx fx r fs w (by simpa using hw)) ⟨.bl _,H,I,rfl,?_⟩;rw[show its.toArray.any (eqU x)=its.any (eqU x) by simp,jq r fs];exact q
theorem pR:OpR X (compareOp .NotIn) (rIn X.K true):=by
 intro pins s σ H x y v u Q I rx ry h;obtain⟨p,xs,rfl,hq,fx,fs,q⟩:=h;cases ry
 rcases hq with hq|hq
 .obtain⟨its,r,pl,hz⟩:=I.list hq
  refine SeqAt.notIn_listAt (eqU x) pl.isList (fun w hw=>jb rx fx r fs w (by simpa using hw)) ⟨.bl _,H,I,rfl,?_⟩;rw[show its.toArray.any (eqU x)=its.any (eqU x) by simp,jq r fs];exact q
 .obtain⟨its,r,pl,hz⟩:=I.tuple hq
  refine SeqAt.notIn_tupleAt (eqU x) pl (fun w hw=>jb rx fx r fs w (by simpa using hw)) ⟨.bl _,H,I,rfl,?_⟩;rw[show its.toArray.any (eqU x)=its.any (eqU x) by simp,jq r fs];exact q
theorem call_len_seq:CallR X (.builtin "len") (fun xs H Q=>∃p ys,xs=[.ref p]/\(SqL X.K H p ys\/SqT X.K H p ys)/\Q (.int ys.length) H):=by
 intro pins s σ H xs us Q I r h;obtain⟨p,ys,rfl,hq,q⟩:=h;obtain⟨u,rfl,rx⟩:=vals1 r;cases rx;have hn:=gK
 rcases hq with hq|hq
 .obtain⟨its,r',pl,hz⟩:=I.list hq
  have hlen:=r'.length;exact Calls.call_len_list pl.isList (by simp only[List.size_toArray] <;> omega) ⟨.int ys.length,H,I.tok _,⟨s.toks+1,by rw[List.size_toArray,hlen]⟩,q⟩
 .obtain⟨its,r',pl,hz⟩:=I.tuple hq
  have hlen:=r'.length;exact len_tuple pl (by simp only[List.size_toArray] <;> omega) ⟨.int ys.length,H,I.tok _,⟨s.toks+1,by rw[List.size_toArray,hlen]⟩,q⟩
theorem call_len_str:CallR X (.builtin "len") (fun xs H Q=>∃z,xs=[.str z]/\z.length<=sizeLine/\Q (.int z.length) H):=by
 intro pins s σ H xs us Q I r h;obtain⟨z,rfl,hz,q⟩:=h;obtain⟨u,rfl,t,rfl⟩:=vals1 r;have hn:=gK;exact len_str (by omega) ⟨.int z.length,H,I.tok _,⟨_,rfl⟩,q⟩
theorem CallR.or{f:Value}{r r':List V->Hp->VK->Prop}(h:CallR X f r)(h':CallR X f r'):CallR X f (fun xs H Q=>r xs H Q\/r' xs H Q):=by
 intro pins s σ H xs us Q I rs q
 rcases q with q|q
 .exact h pins s σ H xs us Q I rs q
 .exact h' pins s σ H xs us Q I rs q
theorem pV:CallR X (.type "list") (fun xs H Q=>∃p ys,xs=[.ref p]/\(SqL X.K H p ys\/SqT X.K H p ys)/\∀l,H l=none->Q (.ref l) (upd H l (.lst ys))):=by
 intro pins s σ H xs us Q I r h;obtain⟨p,ys,rfl,hq,q⟩:=h;obtain⟨u,rfl,rx⟩:=vals1 r;cases rx
 have fin:∀(its:List Value),Vals ys its->ys.length<=sizeLine->∀(h':Heap) (c':Nat),(∀b o',s.heap.get? b=some o'->h'.get? b=some o') ->
   h'.get? s.heap.objs.size=some { cls:=.type "list",dict:=none,data:=.seq its.toArray c',slots:=#[] }->EP X pins σ Q (.ref s.heap.objs.size) { s with heap:=h' }:=fun its r' hz h' c' kp e=>
  ⟨.ref s.heap.objs.size,_,I.laid (t':=s.toks) kp (Nat.le_refl _) (show ObjOk X.prog X.w _ h' _ (.lst ys) from⟨hz,its,c',r',e⟩),rfl,q _ (I.hok.fresh (Nat.le_refl _))⟩
 rcases hq with hq|hq
 .obtain⟨its,r',pl,hz⟩:=I.list hq
  have hlen:=r'.length;obtain⟨o,ho,hc,n,hd⟩:=pl.isList;exact call_list_seq p (.inl rfl) ho hc hd (fun h' c' kp e=>fin its r' hz h' c' kp e) (by simp only[List.size_toArray] <;> omega)
 .obtain⟨its,r',pl,hz⟩:=I.tuple hq
  have hlen:=r'.length;obtain⟨o,ho,hc,n,hd⟩:=pl;exact call_list_seq p (.inr rfl) ho hc hd (fun h' c' kp e=>fin its r' hz h' c' kp e) (by simp only[List.size_toArray] <;> omega)
theorem xQ:CallR X (.type "tuple") (fun xs H Q=>∃p ys,xs=[.ref p]/\((SqL X.K H p ys/\∀l,H l=none->Q (.ref l) (upd H l (.tup ys)))\/(SqT X.K H p ys/\Q (.ref p) H))):=by
 intro pins s σ H xs us Q I r h;obtain⟨p,ys,rfl,h⟩:=h;obtain⟨u,rfl,rx⟩:=vals1 r;cases rx
 rcases h with⟨hq,q⟩|⟨hq,q⟩
 .obtain⟨its,r',pl,hz⟩:=I.list hq
  have hlen:=r'.length;refine call_tuple_list pl.isList (fun h' kp=>?_) (by simp only[List.size_toArray] <;> omega);have I1:Inv X pins σ H { s with heap:=h' }:=I.kept (t':=s.toks) kp
  have I2:Inv X pins σ (upd H h'.objs.size (.tup ys)) { s with heap:=h'.push { cls:=.type "tuple",data:=.seq its.toArray } }:=
   I1.laid (t':=s.toks) (fun b o e=>Heap.get?_push_of_some _ e) (Nat.le_refl _) (show ObjOk X.prog X.w _ _ _ (.tup ys) from⟨hz,its,r',IsTup.new _ _⟩)
  exact⟨.ref h'.objs.size,_,I2,rfl,q _ (I1.hok.fresh (Nat.le_refl _))⟩
 .obtain⟨its,r',pl,hz⟩:=I.tuple hq
  exact call_tuple_same pl ⟨.ref p,H,I,rfl,q⟩
def tyV(K:Frag)(T:String)(x:V)(H:Hp):Prop:=match x with
 |.str _=>T="str"
 |.int _=>T="int"
 |.ref p=>(T="list"/\∃xs,SqL K H p xs)\/(T="tuple"/\∃o,K.lookup p=some o/\o.cls=.type "tuple"/\o.dict=none) \/
   (T="dict"/\((∃kvs,H p=some (.dK kvs))\/∃kvs,H p=some (.dT kvs)))\/(T="set"/\∃S n,H p=some (.set S n))
 |_=>False
theorem uq{pins:List (Addr×Obj)}{σ:St}{H:Hp}{s:Shared}{T:String}{x:V}{v:Value}(I:Inv X pins σ H s)(r:RelV x v)(ty:tyV X.K T x H) :
  s.TypeIs v T/\∀a,v=.ref a->∃ob,s.heap.get? a=some ob/\ob.dict=none:=by
 cases x with
 |str z=>
  obtain⟨t,rfl⟩:=r;cases (show T="str" from ty);exact⟨typeIs_str s z t,fun _ e=>nomatch e⟩
 |int i=>
  obtain⟨t,rfl⟩:=r;cases (show T="int" from ty);exact⟨typeIs_int s i t,fun _ e=>nomatch e⟩
 |ref p=>
  cases r
  rcases ty with⟨rfl,xs,hq⟩|⟨rfl,o,hk,hc,hd⟩|⟨rfl,hk⟩|⟨rfl,S,n,hk⟩
  .obtain⟨its,_,pl,_⟩:=I.list hq
   refine⟨pl.isList.typeIs,fun a e=>?_⟩;cases e;obtain⟨o,n,e,c,hd,_⟩:=pl;exact⟨o,e,hd⟩
  .refine⟨⟨o,I.kIn p o hk,hc⟩,fun a e=>?_⟩
   cases e;exact⟨o,I.kIn _ o hk,hd⟩
  .have z:∃o,s.heap.get? p=some o/\o.ExactDict:=by
    rcases hk with⟨kvs,hk⟩|⟨kvs,hk⟩
    .obtain⟨_,_,_,_,o,_,_,e,ex,_⟩:=I.hok p _ hk
     exact⟨o,e,ex⟩
    .obtain⟨_,_,_,_,o,_,_,e,ex,_⟩:=I.hok p _ hk
     exact⟨o,e,ex⟩
   obtain⟨o,e,ex⟩:=z;refine⟨⟨o,e,ex.1⟩,fun a e2=>?_⟩;cases e2;exact⟨o,e,ex.2.1⟩
  .obtain⟨o,_,_,_,e,ex,_⟩:=I.hok p _ hk
   refine⟨⟨o,e,ex.1⟩,fun a e2=>?_⟩;cases e2;exact⟨o,e,ex.2.1⟩
 |_=>exact False.elim ty
def Gk(K:Frag)(T:String)(r:V->List V->Hp->VK->Prop)(to:TE):TE:=fun σ H Q=>to σ H fun x H1=>tyV K T x H1/\r x [] H1 Q
def tBM(K:Frag)(T:String)(r:V->List V->Hp->VK->Prop)(to:TE)(t:TA):TE:=fun σ H Q=>to σ H fun x H1=>tyV K T x H1/\t σ H1 fun xs H2=>r x xs H2 Q
variable {o e:Expr}{es:List Expr}{to:TE}{t:TA}{name:Str}{apos cpos:Pos}{T id:String}{r:V->List V->Hp->VK->Prop}
theorem Dx(pa:PlainAttrs T)(slot:Slot T name id)(hty:typeOf (.builtin id)=pure (.type "method_descriptor"))(hm:MtR X id r)(ho:PE X o to)
  (hbase:attributeBase o name X.env (eval o X.env)=eval o X.env:=by rfl) (hline:(apos.endLine == cpos.line)=true:=by rfl):PE X (.Call (.Attribute o name apos) [] [] cpos) (Gk X.K T r to):=by
 intro pins s σ H Q I h;refine wpAny_Call_method0_late hbase hline (thn (ho pins s σ H _ I h) fun v s1 ⟨x,H1,I1,r1,ty,q1⟩=>?_);obtain⟨h1,h2⟩:=uq I1 r1 ty;exact⟨T,id,pa,slot,hty,h1,h2,Calls.callWith_builtin rfl (PySem.evalArgs_none (hm pins s1 σ H1 x [] v [] Q I1 r1 .nil q1))⟩
theorem iF(pa:PlainAttrs T)(slot:Slot T name id)(hty:typeOf (.builtin id)=pure (.type "method_descriptor"))(hm:MtR X id r)(ho:PE X o to)(ha:PA X (e::es) t)
  (hbase:attributeBase o name X.env (eval o X.env)=eval o X.env:=by rfl)
  (hfew:((backTo cpos (starEach (e::es) X.env)).all (fun x=>!x.1)&&(backToKw cpos (keywordEach [] X.env)).all (fun x=>x.1.isSome)
   && decide ((e::es).length+([]:List Keyword).length+(if ([]:List Keyword).isEmpty then 0 else 1)<30))=true:=by rfl)
  (hline:(apos.endLine == cpos.line)=true:=by rfl) (hs:starEach (e::es) X.env=(false,eval e X.env)::starEach es X.env:=by rfl) (hplain:(backTo cpos (starEach es X.env)).any (·.1)=false:=by rfl) :
  PE X (.Call (.Attribute o name apos) (e::es) [] cpos) (tBM X.K T r to t):=by
 intro pins s σ H Q I h;refine wpAny_Call_method_late hbase hfew hline rfl (thn (ho pins s σ H _ I h) fun v s1 ⟨x,H1,I1,r1,ty,q1⟩=>?_);obtain⟨h1,h2⟩:=uq I1 r1 ty;refine⟨T,id,pa,slot,hty,h1,h2,?_⟩;have hA:=ha cpos pins s1 σ H1 _ I1 q1;rw[hs] at hA ⊢;refine Calls.callWith_builtin (by show (false||(backTo cpos (starEach es X.env)).any (·.1))=false;rw[hplain] <;> rfl) (Calls.evalArgs_plain ?_);exact thn hA fun us s2 ⟨vs,H2,I2,r2,q2⟩=>hm pins s2 σ H2 x vs v us Q I2 r1 r2 q2
end
def MtM(X:Cx)(id:String)(r:V->List V->Hp->VK->Prop):Prop:=
 ∀(pins:List (Addr×Obj)) (s:Shared) (σ:St) (H:Hp) (x:V) (xs:List V) (v:Value) (us:List Value) (Q:VK),Inv X pins σ H s->RelV x v->Vals xs us->r x xs H Q ->
  wpAny (model X.prog X.w) X.A (call (.builtin id) (v::us)) (EP X pins σ Q) X.xe s
theorem Vals.one:∀{x:V}{us:List Value},Vals [x] us->∃u,us=[u]/\RelV x u
 |_,_,.cons r .nil=>⟨_,rfl,r⟩
theorem Vals.zero:∀{us:List Value},Vals [] us->us=[]
 |_,.nil=>rfl
theorem Vals.dropLast{xs:List V}{us:List Value}(h:Vals xs us):Vals xs.dropLast us.dropLast:=by
 induction h with
 |nil=>exact .nil
 |cons r t ih=>
  cases t with
  |nil=>exact .nil
  |cons q t'=>exact .cons r ih
theorem Vals.rep{xs:List V}{us:List Value}(h:Vals xs us):∀k:Nat,Vals (List.replicate k xs).flatten (List.replicate k us).flatten
 |0=>.nil
 |k+1=>by
  rw[List.replicate_succ,List.replicate_succ,List.flatten_cons,List.flatten_cons];exact Vals.append h (Vals.rep h k)
theorem yR{α:Type}(l:List α):l.eraseIdx (l.length-1)=l.dropLast:=by
 induction l with
 |nil=>rfl
 |cons a r ih=>
  cases r with
  |nil=>rfl
  |cons b r=>
   have e:(a::b::r).length-1=((b::r).length-1)+1:=by
    have h1:(a::b::r).length=r.length+2:=rfl;have h2:(b::r).length=r.length+1:=rfl;omega
   rw[e,List.eraseIdx_cons_succ,ih]
   all_goals rfl
theorem foldl_rep(its:List Value):∀(k:Nat) (acc:List Value),
  List.foldl (fun x1 x2=>x1++x2) acc.toArray (List.replicate k its.toArray)=(acc++(List.replicate k its).flatten).toArray
 |0,acc=>by simp
 |k+1,acc=>by
  have e:acc.toArray++its.toArray=(acc++its).toArray:=by simp
  have e2:(acc++its)++(List.replicate k its).flatten=acc++(List.replicate (k+1) its).flatten:=by
   rw[List.replicate_succ,List.flatten_cons,List.append_assoc]
  rw[←e2,←foldl_rep its k (acc++its),←e,List.replicate_succ,List.foldl_cons]
section
variable {X:Cx}{pins:List (Addr×Obj)}{σ:St}{H:Hp}{s:Shared}{l b:Addr}{xs ys zs:List V}
theorem Inv.lset{its its':List Value}{n:Nat}{f:Array Value->Array Value}{t':Nat}(I:Inv X pins σ H s)(hH:H l=some (.lst xs))
  (e:s.heap.get? l=some { cls:=.type "list",data:=.seq its.toArray n }) (hf:f its.toArray=its'.toArray) (hv:Vals ys its') (hz:ys.length<=sizeLine) :
  Inv X pins σ (upd H l (.lst ys)) { s with heap:=s.heap.update l (Obj.mapSeq f),toks:=t' }:=by
 have q:=PySem.IsL.update e f;rw[hf] at q;refine I.write (x:=l) (e:=l) (by rw[hH];exact trivial) (.inl rfl) (fun b' u hb hu=>(Heap.get?_update_other s.heap (Obj.mapSeq f) (Ne.symm hb)).trans hu) ⟨_,q⟩ ?_;exact⟨hz,its',_,hv,q⟩
theorem Inv.lnew{its:List Value}{t':Nat}(I:Inv X pins σ H s)(hv:Vals ys its)(hz:ys.length<=sizeLine) :
  Inv X pins σ (upd H s.heap.objs.size (.lst ys)) { s with heap:=s.heap.push { cls:=.type "list",data:=.seq its.toArray },toks:=t' }:=I.laid (fun _ _ q=>Heap.get?_push_of_some _ q) (Nat.le_refl _) ⟨hz,its,0,hv,Heap.get?_push_size _ rfl⟩
theorem Inv.fresh(I:Inv X pins σ H s):H s.heap.objs.size=none:=I.hok.fresh (Nat.le_refl _)
theorem Inv.lstM(I:Inv X pins σ H s)(hH:H l=some (.lst xs)):xs.length<=sizeLine/\∃(its:List Value) (n:Nat),Vals xs its/\xs.length=its.length/\s.heap.get? l=some { cls:=.type "list",data:=.seq its.toArray n }:=by
 obtain⟨z,its,n,r,e⟩:=I.hok l _ hH;exact⟨z,its,n,r,r.length,e⟩
theorem Aw{n:Nat}(h:n<=sizeLine):Builtin.List.listTooLong n=false:=by
 unfold Builtin.List.listTooLong;exact decide_eq_false (by omega)
end
section
variable {X:Cx}
def Bx:V->List V->Hp->VK->Prop:=fun x vs H Q=>∃l xs y,x=.ref l/\vs=[y]/\H l=some (.lst xs)/\xs.length<sizeLine/\Q .non (upd H l (.lst (xs++[y])))
theorem qY:MtM X "list.append" Bx:=by
 intro pins s σ H x vs v us Q I rx rv h;obtain⟨l,xs,y,rfl,rfl,hH,hz,q⟩:=h;cases rx;obtain⟨u,rfl,ru⟩:=rv.one;obtain⟨z,its,n,r,hl,e⟩:=I.lstM hH;refine call_meets F.slot_list_append ⟨_,e,rfl⟩ F.entry_list_append (F.args_list_append_2 _ _) (PySem.list_append l its.toArray n u (by rw[List.size_toArray];omega)) ⟨e,?_⟩;refine⟨.non,_,I.lset (its':=its++[u]) hH e (by simp) (r.append (.cons ru .nil)) ?_,rfl,q⟩;rw[List.length_append,List.length_singleton];omega
def Gr:V->List V->Hp->VK->Prop:=fun x vs H Q=>∃l xs y,x=.ref l/\vs=[]/\H l=some (.lst xs)/\xs[xs.length-1]? = some y/\Q y (upd H l (.lst xs.dropLast))
theorem DQ:MtM X "list.pop" Gr:=by
 intro pins s σ H x vs v us Q I rx rv h;obtain⟨l,xs,y,rfl,rfl,hH,hy,q⟩:=h;cases rx;have hus:=rv.zero;subst hus;obtain⟨z,its,n,r,hl,e⟩:=I.lstM hH;obtain⟨u,hu,ru⟩:=r.get hy
 have hy':its.toArray[its.toArray.size-1]? = some u:=by
  show its.toArray[its.length-1]? = some u;rw[←Array.getElem?_toList,←hl];exact hu
 refine call_meets F.slot_list_pop ⟨_,e,rfl⟩ F.entry_list_pop (F.args_list_pop_1 _) (MeetsSeq.list_pop_last l its.toArray n u hy' (by rw[List.size_toArray];omega)) ⟨e,?_⟩;refine⟨y,_,I.lset (its':=its.dropLast) hH e ?_ r.dropLast ?_,ru,q⟩
 .show its.toArray.eraseIdxIfInBounds (its.toArray.size-1)=its.dropLast.toArray
  rw[List.size_toArray,List.eraseIdxIfInBounds_toArray,yR]
 .rw[List.length_dropLast]
  omega
theorem len_rep{α:Type}(xs:List α)(k:Nat):(List.replicate k xs).flatten.length=k*xs.length:=by
 induction k with
 |zero=>simp
 |succ k ih=>rw[List.replicate_succ,List.flatten_cons,List.length_append,ih,Nat.succ_mul,Nat.add_comm]
end
section
variable {prog:Program}{w:World}{A:Around}{E:Value->Shared->Prop}{s:Shared}
end
section
variable {X:Cx}
end
section
variable {κ:Type}[DecidableEq κ]
def bJ(kvs:List (κ×V))(k:κ):Option V:=(kvs.find? fun kv=>decide (kv.1=k)).map (·.2)
def putK(kvs:List (κ×V))(k:κ)(v:V):List (κ×V):=if (kvs.any fun kv=>decide (kv.1=k))=true then kvs.map (fun kv=>if kv.1=k then (kv.1,v) else kv) else kvs++[(k,v)]
def cP(kvs:List (κ×V))(k:κ):List (κ×V):=kvs.filter fun kv=>decide (kv.1≠k)
theorem ml{p:κ×V}{r:List (κ×V)}{k:κ}(e:p.1=k):bJ (p::r) k=some p.2:=by simp[bJ,List.find?_cons,e]
theorem mq{p:κ×V}{r:List (κ×V)}{k:κ}(e:¬p.1=k):bJ (p::r) k=bJ r k:=by simp[bJ,List.find?_cons,e]
theorem mr(k:κ):∀kvs:List (κ×V),(kvs.any fun kv=>decide (kv.1=k))=(bJ kvs k).isSome
 |[]=>rfl
 |p::r=>by
  rw[List.any_cons]
  by_cases e:p.1=k
  .simp only[ml e,decide_eq_true e,Bool.true_or,Option.isSome_some]
  .rw[mq e,decide_eq_false e,Bool.false_or];exact mr k r
theorem lW(kvs:List (κ×V))(k:κ)(v:V):(putK kvs k v).length<=kvs.length+1:=by
 unfold putK;split
 .rw[List.length_map];omega
 .rw[List.length_append,List.length_cons,List.length_nil];omega
theorem Af{kvs:List (κ×V)}{k:κ}(v:V)(h:bJ kvs k=none):putK kvs k v=kvs++[(k,v)]:=by
 unfold putK;rw[mr,h];exact if_neg (by decide)
theorem RelO.isSome_eq{o:Option V}{u:Option Value}(r:RelO o u):o.isSome=u.isSome:=by
 cases o with
 |none=>cases u with
  |none=>rfl
  |some _=>exact(show False from r).elim
 |some _=>cases u with
  |none=>exact(show False from r).elim
  |some _=>rfl
theorem RelO.getD{o:Option V}{u:Option Value}{d:V}{d':Value}(r:RelO o u)(rd:RelV d d'):RelV (o.getD d) (u.getD d'):=by
 cases o with
 |none=>cases u with
  |none=>exact rd
  |some _=>exact(show False from r).elim
 |some _=>cases u with
  |none=>exact(show False from r).elim
  |some _=>exact r
theorem KV.val{kvs:List (κ×V)}{vs:List (κ×Value)}(r:KV kvs vs)(k:κ):RelO (bJ kvs k) (valueAt vs k):=by
 unfold KV at r
 induction r with
 |nil=>exact True.intro
 |@cons p q ps qs h t ih=>
  obtain⟨h1,h2⟩:=h
  by_cases e:p.1=k
  .have e':q.1=k:=h1.symm.trans e
   have b:valueAt (q::qs) k=some q.2:=by simp[valueAt,List.find?_cons,e']
   rw[ml e,b];exact h2
  .have e':¬q.1=k:=fun z=>e (h1.trans z)
   have b:valueAt (q::qs) k=valueAt qs k:=by simp[valueAt,List.find?_cons,e']
   rw[mq e,b];exact ih
theorem KV.any{kvs:List (κ×V)}{vs:List (κ×Value)}(r:KV kvs vs)(k:κ):(kvs.any fun kv=>decide (kv.1=k))=vs.any fun kv=>decide (kv.1=k):=by
 unfold KV at r
 induction r with
 |nil=>rfl
 |cons h t ih=>rw[List.any_cons,List.any_cons,ih,h.1]
theorem KV.repl{kvs:List (κ×V)}{vs:List (κ×Value)}(r:KV kvs vs)(k:κ){y:V}{u:Value}(ry:RelV y u) :
  KV (kvs.map fun kv=>if kv.1=k then (kv.1,y) else kv) (vs.map fun kv=>if kv.1=k then (kv.1,u) else kv):=by
 unfold KV at r ⊢
 induction r with
 |nil=>exact .nil
 |@cons p q ps qs h t ih=>
  rw[List.map_cons,List.map_cons];refine .cons ?_ ih;obtain⟨h1,h2⟩:=h
  by_cases e:p.1=k
  .rw[if_pos e,if_pos (h1.symm.trans e)];exact⟨h1,ry⟩
  .rw[if_neg e,if_neg (fun z=>e (h1.trans z))];exact⟨h1,h2⟩
theorem KV.put{kvs:List (κ×V)}{vs:List (κ×Value)}(r:KV kvs vs)(k:κ){y:V}{u:Value}(ry:RelV y u):KV (putK kvs k y) (stored vs k u):=by
 unfold putK stored;rw[r.any k]
 by_cases e:(vs.any fun kv=>decide (kv.1=k))=true
 .rw[if_pos e,if_pos e];exact r.repl k ry
 .rw[if_neg e,if_neg e];exact Paired.snoc r ⟨rfl,ry⟩
theorem KV.drop{kvs:List (κ×V)}{vs:List (κ×Value)}(r:KV kvs vs)(k:κ):KV (cP kvs k) (without vs k):=by
 unfold KV at r ⊢;unfold cP without
 induction r with
 |nil=>exact .nil
 |@cons p q ps qs h t ih=>
  obtain⟨h1,h2⟩:=h;rw[List.filter_cons,List.filter_cons]
  by_cases e:p.1=k
  .have a:¬decide (p.1≠k)=true:=by simp[e]
   have b:¬decide (q.1≠k)=true:=by simp[h1.symm.trans e]
   rw[if_neg a,if_neg b];exact ih
  .have e':¬q.1=k:=fun z=>e (h1.trans z)
   have a:decide (p.1≠k)=true:=by simp[e]
   have b:decide (q.1≠k)=true:=by simp[e']
   rw[if_pos a,if_pos b];exact .cons ⟨h1,h2⟩ ih
theorem KV.keys{kvs:List (κ×V)}{vs:List (κ×Value)}(r:KV kvs vs):kvs.map (·.1)=vs.map (·.1):=by
 unfold KV at r
 induction r with
 |nil=>rfl
 |cons h t ih=>rw[List.map_cons,List.map_cons,ih,h.1]
theorem KV.length{kvs:List (κ×V)}{vs:List (κ×Value)}(r:KV kvs vs):kvs.length=vs.length:=Paired.length r
theorem A1(kvs:List (κ×V))(k:κ):(cP kvs k).length<=kvs.length:=List.length_filter_le _ _
end
theorem gb{P:Program}{w:World}{k:Key}{u:Value}(r:RelV (kV k) u):(bF P w).is k u=true:=by
 cases k with
 |inl i=>obtain⟨t,e⟩:=(show ∃t,u=Value.int i t from r);subst e;exact x4 P w i t
 |inr x=>obtain⟨t,e⟩:=(show ∃t,u=Value.str x t from r);subst e;exact x3 P w x t
theorem rm{P:Program}{w:World}:∀{ks:List Key}{us:List Value},Vals (ks.map kV) us->ItemsAre (bF P w) ks us
 |[],_,r=>by rw[List.map_nil] at r;cases r;exact .nil
 |k::ks,_,r=>by
  rw[List.map_cons] at r
  cases r with
  |cons h t=>exact .cons (gb h) (rm t)
abbrev KT(H:Hp):List (List Key×V)->List (List Key×Addr×Value)->Prop:=Paired fun p q=>p.1=q.1/\H q.2.1=some (.tup (p.1.map kV))/\RelV p.2 q.2.2
theorem KT.val{H:Hp}{kvs:List (List Key×V)}{xs:List (List Key×Addr×Value)}(r:KT H kvs xs)(k:List Key):RelO (bJ kvs k) ((atKey xs k).map (·.2)):=by
 induction r with
 |nil=>exact True.intro
 |@cons p q ps qs h t ih=>
  obtain⟨h1,_,h2⟩:=h
  by_cases e:p.1=k
  .have e':q.1=k:=h1.symm.trans e
   have b:atKey (q::qs) k=some q.2:=by simp[atKey,List.find?_cons,e']
   rw[ml e,b];exact h2
  .have e':¬q.1=k:=fun z=>e (h1.trans z)
   have b:atKey (q::qs) k=atKey qs k:=by simp[atKey,List.find?_cons,e']
   rw[mq e,b];exact ih
theorem KT.repl{H:Hp}{kvs:List (List Key×V)}{xs:List (List Key×Addr×Value)}(r:KT H kvs xs)(k:List Key){y:V}{u:Value}(ry:RelV y u) :
  KT H (kvs.map fun kv=>if kv.1=k then (kv.1,y) else kv) (xs.map (putAt k u)):=by
 induction r with
 |nil=>exact .nil
 |@cons p q ps qs h t ih=>
  rw[List.map_cons,List.map_cons];refine .cons ?_ ih;obtain⟨h1,h2,h3⟩:=h;unfold putAt
  by_cases e:p.1=k
  .rw[if_pos e,if_pos (h1.symm.trans e)];exact⟨h1,h2,ry⟩
  .rw[if_neg e,if_neg (fun z=>e (h1.trans z))];exact⟨h1,h2,h3⟩
theorem KT.put{H:Hp}{kvs:List (List Key×V)}{xs:List (List Key×Addr×Value)}(r:KT H kvs xs)(k:List Key){b:Addr}{y:V}{u:Value}(hb:H b=some (.tup (k.map kV)))(ry:RelV y u) :
  KT H (putK kvs k y) (storedH xs k b u):=by
 have e:(kvs.any fun kv=>decide (kv.1=k))=(atKey xs k).isSome:=by
  rw[mr,(r.val k).isSome_eq,Option.isSome_map]
 unfold putK storedH;rw[e]
 by_cases q:(atKey xs k).isSome=true
 .rw[if_pos q,if_pos q];exact r.repl k ry
 .rw[if_neg q,if_neg q];exact Paired.snoc r ⟨rfl,hb,ry⟩
theorem KT.keeps{H H':Hp}{kvs:List (List Key×V)}{xs:List (List Key×Addr×Value)}(r:KT H kvs xs)(ht:∀b ys,H b=some (.tup ys)->H' b=some (.tup ys)):KT H' kvs xs:=Paired.mapP r fun _ _ z=>⟨z.1,ht _ _ z.2.1,z.2.2⟩
section
variable {P:Program}{w:World}{H:Hp}{h:Heap}{a:Addr}
theorem vz{u:HO}(ok:HOk P w H h)(e:Rd H a u):ObjOk P w H h a u:=e.ok ok
theorem dz{kvs:List (Key×V)}(ok:HOk P w H h)(e:Rd H a (.dK kvs)):kvs.length<=sizeLine/\(a == sysModules)=false/\∃vs,KV kvs vs/\h.DictOf (bF P w) a vs:=show ObjOk P w H h a (.dK kvs) from vz ok e
theorem oP{kvs:List (Key×V)}(ok:HOk P w H h)(e:H a=some (.dK kvs)):kvs.length<=sizeLine/\(a == sysModules)=false/\∃vs,KV kvs vs/\h.DictOf (bF P w) a vs:=dz ok (.inl e)
theorem iA{ks:List Key}(ok:HOk P w H h)(e:H a=some (.tup (ks.map kV))):(tupleKind (bF P w)).is h ks a:=by
 obtain⟨_,its,r,o,h1,h2,n,h3⟩:=(show ObjOk P w H h a (.tup (ks.map kV)) from ok a _ e);exact⟨o,its.toArray,n,h1,h2,h3,by simpa using rm r⟩
theorem g8{kvs:List (List Key×V)}(ok:HOk P w H h)(e:Rd H a (.dT kvs)):kvs.length<=sizeLine/\(a == sysModules)=false /\
  ∃xs,KT H kvs xs/\h.DictOfH (tupleKind (bF P w)) a xs:=by
 obtain⟨z,y,xs,r,o,es,ep,h1,h2,h3,h4,h5⟩:=(show ObjOk P w H h a (.dT kvs) from vz ok e);refine⟨z,y,xs,r,o,es,ep,h1,h2,h3,h4,fun x hx=>?_,h5⟩
 have all:∀{l:List (List Key×V)}{m:List (List Key×Addr×Value)},KT H l m->∀x∈m,(tupleKind (bF P w)).is h x.1 x.2.1:=by
  intro l m q
  induction q with
  |nil=>intro x hx;exact nomatch hx
  |@cons p q ps qs hq t ih=>
   intro x hx
   rcases List.mem_cons.mp hx with e|hx
   .subst e
    exact iA ok (by rw[←hq.1];exact hq.2.1)
   .exact ih x hx
 exact all r x hx
theorem FG{kvs:List (List Key×V)}(ok:HOk P w H h)(e:H a=some (.dT kvs)):kvs.length<=sizeLine/\(a == sysModules)=false /\
  ∃xs,KT H kvs xs/\h.DictOfH (tupleKind (bF P w)) a xs:=g8 ok (.inl e)
end
def DGet(H:Hp)(a:Addr)(y:V)(r:Option V):Prop:=(∃kvs k,Rd H a (.dK kvs)/\y=kV k/\r=bJ kvs k)\/∃kvs k b,Rd H a (.dT kvs)/\y=.ref b/\H b=some (.tup (k.map kV))/\r=bJ kvs k
def DPut(H:Hp)(a:Addr)(y v:V)(H':Hp):Prop:=
 (∃kvs k,H a=some (.dK kvs)/\y=kV k/\kvs.length<sizeLine/\H'=upd H a (.dK (putK kvs k v))) \/
 ∃kvs k b,H a=some (.dT kvs)/\y=.ref b/\H b=some (.tup (k.map kV))/\kvs.length<sizeLine/\H'=upd H a (.dT (putK kvs k v))
theorem DPut.k{H:Hp}{a:Addr}{kvs:List (Key×V)}{k:Key}{v:V}(e:H a=some (.dK kvs))(hl:kvs.length<sizeLine):DPut H a (kV k) v (upd H a (.dK (putK kvs k v))):=.inl ⟨kvs,k,e,rfl,hl,rfl⟩
section
variable {X:Cx}{pins:List (Addr×Obj)}{σ:St}{H:Hp}{s:Shared}{a:Addr}{y v:V}{u r:Value}{o:Option V}{A:Around}{E:Value->Shared->Prop}
theorem Inv.big(I:Inv X pins σ H s):sysModules<s.heap.objs.size:=by
 have h:mainGlobals<s.heap.objs.size:=(I.mod.glob.keeps I.bk).lt;exact Nat.lt_trans (by decide) h
theorem rB{Q:Value->Shared->Prop}(hu:A.units+1<cLine)(I:Inv X pins σ H s)(g:DGet H a y (some v))(ry:RelV y u)(h:∀w' s',Inv X pins σ H s'->RelV v w'->Q w' s') :
  wpAny (model X.prog X.w) A (getItem (.ref a) u) Q E s:=by
 rcases g with⟨kvs,k,e,ey,l⟩|⟨kvs,k,b,e,ey,eb,l⟩
 .subst ey
  obtain⟨z,hd,vs,rel,dd⟩:=dz I.hok e;obtain⟨w',hw,rw'⟩:=RelO.some_of (v:=v) (o:=valueAt vs k) (by rw[l];exact rel.val k);exact wpAny_getItem_of (gb ry) dd.mapOf hw (h w' _ (I.tok _) rw')
 .subst ey
  cases (show u=Value.ref b from ry);obtain⟨z,hd,xs,rel,dd⟩:=g8 I.hok e;obtain⟨w',hw,rw'⟩:=RelO.some_of (v:=v) (o:=(atKey xs k).map (·.2)) (by rw[l];exact rel.val k);obtain⟨p,hp,hp2⟩:=Option.map_eq_some_iff.mp hw;refine wpAny_getItem_heap (tupleKind_room_in1 hu) (iA I.hok eb) dd hp ?_;rw[hp2];exact h w' _ (I.tok _) rw'
theorem wL{Q:Value->Shared->Prop}(hu:A.units+1<cLine)(I:Inv X pins σ H s)(g:DGet H a y o)(ry:RelV y u)(h:∀s',Inv X pins σ H s'->Q (.bool o.isSome) s') :
  wpAny (model X.prog X.w) A (compareOp .In u (.ref a)) Q E s:=by
 rcases g with⟨kvs,k,e,ey,l⟩|⟨kvs,k,b,e,ey,eb,l⟩
 .subst ey
  obtain⟨z,hd,vs,rel,dd⟩:=dz I.hok e;refine wpAny_in_of (gb ry) hd dd.mapOf ?_;rw[←(rel.val k).isSome_eq,←l];exact h _ (I.tok _)
 .subst ey
  cases (show u=Value.ref b from ry);obtain⟨z,hd,xs,rel,dd⟩:=g8 I.hok e;refine wpAny_in_heap (tupleKind_room_in1 hu) (iA I.hok eb) hd dd ?_;have q:=(rel.val k).isSome_eq;rw[Option.isSome_map] at q;rw[←q,←l];exact h _ (I.tok _)
theorem CF{Q:Value->Shared->Prop}(hu:A.units+1<cLine)(I:Inv X pins σ H s)(g:DGet H a y o)(ry:RelV y u)(h:∀s',Inv X pins σ H s'->Q (.bool (!o.isSome)) s') :
  wpAny (model X.prog X.w) A (compareOp .NotIn u (.ref a)) Q E s:=by
 rcases g with⟨kvs,k,e,ey,l⟩|⟨kvs,k,b,e,ey,eb,l⟩
 .subst ey
  obtain⟨z,hd,vs,rel,dd⟩:=dz I.hok e;refine wpAny_notIn_of (gb ry) hd dd.mapOf ?_;rw[←(rel.val k).isSome_eq,←l];exact h _ (I.tok _)
 .subst ey
  cases (show u=Value.ref b from ry);obtain⟨z,hd,xs,rel,dd⟩:=g8 I.hok e;refine wpAny_notIn_heap (tupleKind_room_in1 hu) (iA I.hok eb) hd dd ?_;have q:=(rel.val k).isSome_eq;rw[Option.isSome_map] at q;rw[←q,←l];exact h _ (I.tok _)
theorem kT{h':Heap}{t':Nat}{ob:HO}(I:Inv X pins σ H s)(mu:Mut (H a))(hs:Heap.SameBut a s.heap h')(he:∃q,h'.get? a=some q)(new:ObjOk X.prog X.w (upd H a ob) h' a ob) :
  Inv X pins σ (upd H a ob) { s with heap:=h',toks:=t' }:=I.write (x:=a) (e:=a) mu (.inl rfl) (fun b q hb z=>(hs.2 b hb).trans z) he new
theorem lm{P:Program}{w:World}{H':Hp}{h':Heap}{kvs:List (Key×V)}{vs:List (Key×Value)}(z:kvs.length<=sizeLine)(hd:(a == sysModules)=false)(rel:KV kvs vs)(dd:h'.DictOf (bF P w) a vs) :
  ObjOk P w H' h' a (.dK kvs):=⟨z,hd,vs,rel,dd⟩
theorem zP{H':Hp}{Q:Unit->Shared->Prop}(hu:A.units+1<cLine)(I:Inv X pins σ H s)(g:DPut H a y v H')(ry:RelV y u)(rv:RelV v r)(h:∀s',Inv X pins σ H' s'->Q () s') :
  wpAny (model X.prog X.w) A (setItem (.ref a) u r) Q E s:=by
 rcases g with⟨kvs,k,e,ey,l,eH⟩|⟨kvs,k,b,e,ey,eb,l,eH⟩
 .subst ey eH
  obtain⟨z,hd,vs,rel,dd⟩:=oP I.hok e
  have hz:vs.length<=sizeLine:=by rw[←rel.length];exact z
  have hl:(putK kvs k v).length<=sizeLine:=by have:=lW kvs k v;omega
  refine wpAny_setItem_pairs (hsz:=hz) (gb ry) dd fun h' dd' hs=>h _ ?_
  have he:∃q,h'.get? a=some q:=let ⟨q,_,_,hq,_⟩:=dd';⟨q,hq⟩
  exact kT I (by rw[e];exact True.intro) hs he (lm hl hd (rel.put k rv) dd')
 .subst ey eH
  cases (show u=Value.ref b from ry);obtain⟨z,hd,xs,rel,dd⟩:=FG I.hok e
  have hz:xs.length<=sizeLine:=by rw[←Paired.length rel];exact z
  have hl:(putK kvs k v).length<=sizeLine:=by have:=lW kvs k v;omega
  refine wpAny_setItem_heap (hsz:=hz) (tupleKind_room_in1 hu) (iA I.hok eb) dd fun h' dd' hs=>h _ ?_;obtain⟨q,es,ep,hq,h2,h3,h4,_,h5⟩:=dd';refine kT I (by rw[e];exact True.intro) hs ⟨q,hq⟩ ⟨hl,hd,_,(rel.put k eb rv).keeps fun c ys ec=>?_,q,es,ep,hq,h2,h3,h4,h5⟩;rw[aQ (Fj ec e (fun z=>nomatch z))];exact ec
end
section
variable {X:Cx}{pins:List (Addr×Obj)}{σ:St}{H:Hp}{s:Shared}{a:Addr}{kvs:List (Key×V)}{k:Key}{u:Value}{A:Around}{E:Value->Shared->Prop}
theorem FL{v:V}{more:List Value}{Q:Value->Shared->Prop}(I:Inv X pins σ H s)(e:H a=some (.dK kvs))(ry:RelV (kV k) u)(l:bJ kvs k=some v)(hm:more=[]\/∃x,more=[x])
  (h:∀w' s',Inv X pins σ (upd H a (.dK (cP kvs k))) s'->RelV v w'->Q w' s'):wpAny (model X.prog X.w) A (call (.builtin "dict.pop") (.ref a::u::more)) Q E s:=by
 obtain⟨z,hd,vs,rel,dd⟩:=oP I.hok e;obtain⟨w',hw,rw'⟩:=RelO.some_of (v:=v) (o:=valueAt vs k) (by rw[←l];exact rel.val k)
 have hp:(keyPart u).isSome=true:=by
  cases k with
  |inl i=>obtain⟨t,q⟩:=(show ∃t,u=Value.int i t from ry);subst q;rfl
  |inr x=>obtain⟨t,q⟩:=(show ∃t,u=Value.str x t from ry);subst q;rfl
 have ha:argsOk "dict.pop" ⟨.ref a::u::more,[]⟩:=by
  rcases hm with q|⟨x,q⟩
  .subst q;exact PySem.F.args_dict_pop_2 _ _
  .subst q;exact PySem.F.args_dict_pop_3 _ _ _
 refine call_meetsIn PySem.F.slot_dict_pop dd.typeIs PySem.F.entry_dict_pop ha (meets_dict_pop_there (bF X.prog X.w) a (gb ry) more hm hp)
  ⟨vs,w',dd,by rw[←rel.length];exact z,hw,fun h' dd' hs=>h w' _ ?_ rw'⟩
 have he:∃q,h'.get? a=some q:=let ⟨q,_,_,hq,_⟩:=dd';⟨q,hq⟩
 exact kT I (by rw[e];exact True.intro) hs he (lm (Nat.le_trans (A1 kvs k) z) hd (rel.drop k) dd')
theorem FQ{Q:Value->Shared->Prop}(I:Inv X pins σ H s)(e:Rd H a (.dK kvs))(h:∀t s',Inv X pins σ H s'->Q (.int kvs.length t) s'):wpAny (model X.prog X.w) A (call (.builtin "len") [.ref a]) Q E s:=by
 obtain⟨z,hd,vs,rel,dd⟩:=dz I.hok e;refine call_len_dict hd dd (by rw[←rel.length];rw[sizeLine_eq] at z;omega) ?_;rw[←rel.length];exact h _ _ (I.tok _)
end
def pF(i:Expr):Prop:=∀ov iv,subscripted i false ov iv=operate [ov,iv] (getItem ov iv)
theorem Bn{prog:Program}{w:World}{A:Around}{E:Value->Shared->Prop}{s:Shared}{env:Env}{value slice:Expr}{pos:Pos}{T id:String}{Q:Value->Shared->Prop}
  (hl:typeLookup (.type T) "__getitem__"=pure (some (.builtin id))) (hs:pF slice)
  (h:wpAny (model prog w) A (eval value env) (fun o s₁=>wpAny (model prog w) A (eval slice env) (fun i s₂=>s₂.TypeIs o T/\wpAny (model prog w) A (getItem o i) Q E s₂) E s₁) E s) :
  wpAny (model prog w) A (eval (.Subscript value slice pos) env) Q E s:=by
 refine Subscript_ (wpAny_mono h (fun o s₁ h₁=>wpAny_mono h₁ (fun i s₂ h₂=>?_) fun _ _ x=>x) fun _ _ x=>x);obtain⟨hT,h₂⟩:=h₂;unfold subscriptTail;refine wpAny_bind ?_;rw[getitemInPython_of_ne hT.not_modules];refine wpAny_bind (wpAny_specialOf hT hl ?_)
 have fin:wpAny (model prog w) A (subscripted slice false o i) (fun r s₃=>wpAny (model prog w) A (letTemporaryGo value o r >>= fun _=>pure r) Q E s₃) E s₂:=by
  rw[hs o i];exact wpAny_operating (wpAny_mono h₂ (fun r s₃ h₃=>wpAny_bind (wpAny_letTemporaryGo (wpAny_pure h₃))) fun _ _ x=>x)
 first
  |exact wpAny_pure (wpAny_bind fin)
  |exact wpAny_bind (wpAny_pure (wpAny_bind fin))
  |exact wpAny_bind fin
theorem lX{X:Cx}{pins:List (Addr×Obj)}{σ:St}{H:Hp}{s:Shared}{a:Addr}{y:V}{o:Option V}(I:Inv X pins σ H s)(g:DGet H a y o):s.TypeIs (.ref a) "dict":=by
 rcases g with⟨kvs,k,e,_,_⟩|⟨kvs,k,b,e,_,_,_⟩
 .obtain⟨_,_,vs,_,dd⟩:=dz I.hok e
  exact dd.typeIs
 .obtain⟨_,_,xs,_,dd⟩:=g8 I.hok e
  exact dd.typeIs
def EM(td ty:TE):TE:=fun σ H Q=>td σ H fun x H1=>ty σ H1 fun y H2=>∃a v,x=.ref a/\DGet H2 a y (some v)/\Q v H2
def Gj(ty td:TE):TE:=fun σ H Q=>ty σ H fun y H1=>td σ H1 fun x H2=>∃a o,x=.ref a/\DGet H2 a y o/\Q (.bl o.isSome) H2
def EO(td ty tv:TE):TS:=fun D σ H=>tv σ H fun v H1=>td σ H1 fun x H2=>ty σ H2 fun y H3=>∃a H4,x=.ref a/\DPut H3 a y v H4/\D.nx σ H4
section
variable {X:Cx}{o i e value:Expr}{pos pos' tpos:Pos}{td ty tv:TE}
theorem BR(hu:X.A.units+1<cLine)(ho:PE X o td)(hi:PE X i ty)(hs:pF i):PE X (.Subscript o i pos) (EM td ty):=by
 intro pins s σ H Q I h;refine Bn PySem.F.slot_dict_getitem.lookup hs (thn (ho pins s σ H _ I h) fun u s1 ⟨x,H1,I1,rx,q1⟩=>thn (hi pins s1 σ H1 _ I1 q1) fun iv s2 ⟨y,H2,I2,ry,a,v,ex,g,q2⟩=>?_);subst ex;obtain rfl:u=Value.ref a:=rx;exact⟨lX I2 g,rB hu I2 g ry fun w' s3 I3 rw'=>⟨v,H2,I3,rw',q2⟩⟩
theorem Dz(hu:X.A.units+1<cLine)(hi:PE X i ty)(ho:PE X o td):PC X .In i o (Gj ty td):=by
 intro pins s σ H Q I h;refine thn (hi pins s σ H _ I h) fun iv s1 ⟨y,H1,I1,ry,q1⟩=>thn (ho pins s1 σ H1 _ I1 q1) fun u s2 ⟨x,H2,I2,rx,a,ov,ex,g,q2⟩=>?_;subst ex;obtain rfl:u=Value.ref a:=rx;exact wL hu I2 g ry fun s3 I3=>⟨.bl ov.isSome,H2,I3,rfl,q2⟩
theorem tF(hu:X.A.units+1<cLine)(ho:PE X o td)(hi:PE X i ty)(hv:PE X value tv)(hs:swapsWith value (some (.Subscript o i pos')) pos.line X.env=pure false) :
  PS X (.Assign [.Subscript o i pos'] value pos) (EO td ty tv):=by
 intro pins s σ H D I h;refine wpAny_Assign_Subscript (thn (hv pins s σ H _ I h) fun r s1 ⟨v,H1,I1,rv,q1⟩=>thn (ho pins s1 σ H1 _ I1 q1) fun u s2 ⟨x,H2,I2,rx,q2⟩=>thn (hi pins s2 σ H2 _ I2 q2) fun iv s3 ⟨y,H3,I3,ry,a,H4,ex,g,q3⟩=>?_) hs;subst ex;obtain rfl:u=Value.ref a:=rx;exact zP hu I3 g ry rv fun s4 I4=>⟨σ,H4,I4,q3⟩
end
theorem sG{P:Program}{w:World}{H:Hp}(h:Heap)(hb:sysModules<h.objs.size):ObjOk P w H (h.push { cls:=.type "dict",data:=.dict #[] }) h.objs.size (.dK []):=⟨Nat.zero_le _,beq_eq_false_iff_ne.mpr (Ne.symm (Nat.ne_of_lt hb)),[],.nil,Heap.DictOf.new h⟩
def C4:TE:=fun _ H Q=>∀p,H p=none->Q (.ref p) (upd H p (.dK []))
section
variable {X:Cx}{pos:Pos}
theorem Ao:PE X (.Dict [] [] pos) C4:=fun pins s σ H Q I h=>
 wpAny_Dict_empty ⟨.ref s.heap.objs.size,_,I.laid (a:=s.heap.objs.size) (o:=.dK []) (t':=s.toks) (fun _ _ q=>Heap.get?_push_of_some _ q) (Nat.le_refl _) (sG s.heap I.big),rfl,h _ (I.hok.fresh (Nat.le_refl _))⟩
end
def kX:List (TE×TE)->St->Hp->(List (V×V)->Hp->Prop)->Prop
 |[],_,H,Q=>Q [] H
 |(tk,tv)::r,σ,H,Q=>tk σ H fun x H1=>tv σ H1 fun y H2=>kX r σ H2 fun ps H3=>Q ((x,y)::ps) H3
abbrev VV:List (V×V)->List (Value×Value)->Prop:=Paired fun p q=>RelV p.1 q.1/\RelV p.2 q.2
def PPs(X:Cx)(pos:Pos)(keys:List (Option Expr))(values:List Expr)(trs:List (TE×TE)):Prop:=
 ∀(pins:List (Addr×Obj)) (s:Shared) (σ:St) (H:Hp) (Q:List (V×V)->Hp->Prop),Inv X pins σ H s->kX trs σ H Q ->
  wpAny (model X.prog X.w) X.A (evalPairs (pairTrees keys values X.env pos)) (fun vs s'=>∃ps H',Inv X pins σ H' s'/\VV ps vs/\Q ps H') X.xe s
theorem BK{X:Cx}{pos:Pos}:PPs X pos [] [] []:=fun pins s σ H Q I h=>pairTrees_nil_walk ⟨[],H,I,.nil,h⟩
theorem rY{X:Cx}{pos:Pos}{k v:Expr}{ks:List (Option Expr)}{vs:List Expr}{tk tv:TE}{trs:List (TE×TE)}(hk:PE X k tk)(hv:PE X v tv)(hr:PPs X pos ks vs trs) :
  PPs X pos (some k::ks) (v::vs) ((tk,tv)::trs):=fun pins s σ H Q I h=>
 pairTrees_cons_walk (thn (hk pins s σ H _ I h) fun u s1 ⟨x,H1,I1,rx,q1⟩=>thn (hv pins s1 σ H1 _ I1 q1) fun w2 s2 ⟨y,H2,I2,ry,q2⟩=>
  thn (hr pins s2 σ H2 _ I2 q2) fun ws s3 ⟨ps,H3,I3,rel,q3⟩=>⟨(x,y)::ps,H3,I3,.cons ⟨rx,ry⟩ rel,q3⟩)
def gJ(kvs more:List (Key×V)):List (Key×V):=more.foldl (fun acc kv=>putK acc kv.1 kv.2) kvs
theorem KV.merge:∀{more:List (Key×V)}{rs:List (Key×Value)}{kvs:List (Key×V)}{vs:List (Key×Value)},KV more rs->KV kvs vs->KV (gJ kvs more) (merged vs rs):=by
 intro more rs kvs vs r;unfold KV at r
 induction r generalizing kvs vs with
 |nil=>intro q;exact q
 |@cons p q ps qs h t ih=>
  intro r0
  have e:KV (putK kvs p.1 p.2) (stored vs q.1 q.2):=by
   have:=r0.put p.1 h.2;rw[←h.1];exact this
  exact ih e
theorem pO:∀(more kvs:List (Key×V)),(gJ kvs more).length<=kvs.length+more.length
 |[],kvs=>by show kvs.length<=kvs.length+0;omega
 |p::r,kvs=>by
  have h1:=pO r (putK kvs p.1 p.2);have h2:=lW kvs p.1 p.2;show (gJ (putK kvs p.1 p.2) r).length<=_;rw[List.length_cons];omega
theorem qL{P:Program}{w:World}:∀{kvs:List (Key×V)}{ws:List (Value×Value)},VV (kvs.map fun kv=>(kV kv.1,kv.2)) ws->∃rs,Carries (bF P w) ws rs/\KV kvs rs
 |[],_,r=>by rw[List.map_nil] at r;cases r;exact⟨[],True.intro,.nil⟩
 |p::kvs,_,r=>by
  rw[List.map_cons] at r
  cases r with
  |@cons a b as bs h t=>
   obtain⟨rs,c,q⟩:=qL (P:=P) (w:=w) t;obtain⟨b1,b2⟩:=b;exact⟨(p.1,b2)::rs,⟨gb h.1,rfl,c⟩,.cons ⟨rfl,h.2⟩ q⟩
def EL(trs:List (TE×TE)):TE:=fun σ H Q=>∀p,H p=none->kX trs σ (upd H p (.dK [])) fun ps H2=>H2 p=some (.dK [])/\∃kvs:List (Key×V),ps=kvs.map (fun kv=>(kV kv.1,kv.2))/\kvs.length<=15/\Q (.ref p) (upd H2 p (.dK (gJ [] kvs)))
theorem BQ{X:Cx}{pos:Pos}{keys:List (Option Expr)}{values:List Expr}{trs:List (TE×TE)}(h:PPs X pos keys values trs)(hall:keys.all (·.isSome)=true)(hl:keys.length=values.length)(h0:keys≠[])
  (h15:keys.length<=15):PE X (.Dict keys values pos) (EL trs):=by
 intro pins s σ H Q I q;have hn:=I.hok.fresh (Nat.le_refl s.heap.objs.size);have I1:=I.laid (a:=s.heap.objs.size) (o:=.dK []) (h':=s.heap.push { cls:=.type "dict",data:=.dict #[] }) (t':=s.toks) (fun _ _ q=>Heap.get?_push_of_some _ q) (Nat.le_refl _) (sG s.heap I.big);refine wpAny_Dict_walk (knd:=bF X.prog X.w) hall hl h0 h15 (thn (h pins _ σ _ _ I1 (q _ hn)) fun ws s2 ⟨ps,H2,I2,rel,e,kvs,ep,lk,q2⟩=>?_);subst ep;obtain⟨rs,c,rk⟩:=qL (P:=X.prog) (w:=X.w) rel;obtain⟨z,hd,vs0,r0,dd⟩:=oP I2.hok e;cases r0;refine⟨rs,c,dd,fun h' dd' hs=>⟨.ref s.heap.objs.size,_,?_,rfl,q2⟩⟩
 have hz:(gJ [] kvs).length<=sizeLine:=by
  have h1:=pO kvs [];rw[List.length_nil] at h1;rw[sizeLine_eq];omega
 have he:∃q,h'.get? s.heap.objs.size=some q:=let ⟨q,_,_,hq,_⟩:=dd';⟨q,hq⟩
 exact kT I2 (by rw[e];exact True.intro) hs he (lm hz hd (rk.merge .nil) dd')
structure M1(X:Cx)(o:Expr)(m:Str)(apos:Pos)(e:Expr)(cpos:Pos):Prop where
 base:attributeBase o m X.env (eval o X.env)=eval o X.env
 few:((backTo cpos (starEach [e] X.env)).all (fun x=>!x.1)&&(backToKw cpos (keywordEach [] X.env)).all (fun x=>x.1.isSome)
  && decide (([e]:List Expr).length+([]:List Keyword).length+(if ([]:List Keyword).isEmpty then 0 else 1)<30))=true
 line:(apos.endLine == cpos.line)=true
 trees:backTo cpos (starEach [e] X.env)=[(false,eval e X.env)]
structure M2(X:Cx)(o:Expr)(m:Str)(apos:Pos)(e f:Expr)(cpos:Pos):Prop where
 base:attributeBase o m X.env (eval o X.env)=eval o X.env
 few:((backTo cpos (starEach [e,f] X.env)).all (fun x=>!x.1)&&(backToKw cpos (keywordEach [] X.env)).all (fun x=>x.1.isSome)
  && decide (([e,f]:List Expr).length+([]:List Keyword).length+(if ([]:List Keyword).isEmpty then 0 else 1)<30))=true
 line:(apos.endLine == cpos.line)=true
 trees:backTo cpos (starEach [e,f] X.env)=[(false,eval e X.env),(false,eval f X.env)]
def IsD(H:Hp)(a:Addr):Prop:=(∃kvs,Rd H a (.dK kvs))\/∃kvs,Rd H a (.dT kvs)
theorem Eb{X:Cx}{pins:List (Addr×Obj)}{σ:St}{H:Hp}{s:Shared}{a:Addr}(I:Inv X pins σ H s)(d:IsD H a) :
  s.TypeIs (.ref a) "dict"/\(∀b,Value.ref a=.ref b->∃ob,s.heap.get? b=some ob/\ob.dict=none)/\(a == sysModules)=false:=by
 rcases d with⟨kvs,e⟩|⟨kvs,e⟩
 .obtain⟨_,hd,vs,_,dd⟩:=dz I.hok e
  refine⟨dd.typeIs,fun b q=>?_,hd⟩;cases q;obtain⟨ob,_,_,h1,h2,_⟩:=dd;exact⟨ob,h1,h2.2.1⟩
 .obtain⟨_,hd,xs,_,dd⟩:=g8 I.hok e
  refine⟨dd.typeIs,fun b q=>?_,hd⟩;cases q;obtain⟨ob,_,_,h1,h2,_⟩:=dd;exact⟨ob,h1,h2.2.1⟩
section
variable {X:Cx}{pins:List (Addr×Obj)}{σ:St}{H:Hp}{s:Shared}{a:Addr}{y d:V}{u r:Value}{o:Option V}{A:Around}{E:Value->Shared->Prop}
theorem Ex{Q:Value->Shared->Prop}(hu:A.units+1<cLine)(I:Inv X pins σ H s)(g:DGet H a y o)(ry:RelV y u)(h:∀w' s',Inv X pins σ H s'->RelV (o.getD .non) w'->Q w' s') :
  wpAny (model X.prog X.w) A (call (.builtin "dict.get") [.ref a,u]) Q E s:=by
 rcases g with⟨kvs,k,e,ey,l⟩|⟨kvs,k,b,e,ey,eb,l⟩
 .subst ey
  obtain⟨z,hd,vs,rel,dd⟩:=dz I.hok e;refine call_meetsIn PySem.F.slot_dict_get dd.typeIs PySem.F.entry_dict_get (PySem.F.args_dict_get_2 _ _) (meets_dict_get (bF X.prog X.w) a (gb ry) hd) ⟨_,dd.mapOf,h _ _ (I.tok _) ?_⟩;rw[l];exact(rel.val k).getD rfl
 .subst ey
  cases (show u=Value.ref b from ry);obtain⟨z,hd,xs,rel,dd⟩:=g8 I.hok e;refine call_meetsIn PySem.F.slot_dict_get dd.typeIs PySem.F.entry_dict_get (PySem.F.args_dict_get_2 _ _) (meetsH_dict_get (tupleKind (bF X.prog X.w)) a b hd) ⟨tupleKind_room_in1 hu,k,xs,iA I.hok eb,dd,h _ _ (I.tok _) ?_⟩;rw[l];exact(rel.val k).getD rfl
end
def C5(td ty:TE):TE:=fun σ H Q=>td σ H fun x H1=>∃a,x=.ref a/\IsD H1 a/\ty σ H1 fun y H2=>∃o,DGet H2 a y o/\Q (o.getD .non) H2
section
variable {X:Cx}{o e f:Expr}{apos cpos:Pos}{td ty tx:TE}
theorem Ap(hu:X.A.units+1<cLine)(ho:PE X o td)(he:PE X e ty)(m:M1 X o "get" apos e cpos):PE X (.Call (.Attribute o "get" apos) [e] [] cpos) (C5 td ty):=by
 intro pins s σ H Q I h;refine wpAny_Call_method m.base m.few m.line PySem.F.plainAttrs_dict PySem.F.slot_dict_get PySem.F.type_dict_get (thn (ho pins s σ H _ I h) fun u s1 ⟨x,H1,I1,rx,a,ex,d,q1⟩=>?_);subst ex;obtain rfl:u=Value.ref a:=rx;obtain⟨t1,t2,_⟩:=Eb I1 d;refine⟨t1,t2,?_⟩;rw[m.trees];refine Calls.callWith_builtin rfl (Calls.evalArgs_plain (Calls.spliced_cons (thn (he pins s1 σ H1 _ I1 q1) fun iv s2 ⟨y,H2,I2,ry,ov,g,q2⟩=>Calls.spliced_nil ?_)));exact Ex hu I2 g ry fun w' s3 I3 rw'=>⟨_,H2,I3,rw',q2⟩
end
section
variable {X:Cx}{pins:List (Addr×Obj)}{σ:St}{H:Hp}{s:Shared}{a:Addr}{kvs:List (Key×V)}{A:Around}{E:Value->Shared->Prop}
theorem A7{Q:Value->Shared->Prop}(I:Inv X pins σ H s)(e:Rd H a (.dK kvs))(h:∀p s',H p=none->Inv X pins σ (upd H p (.dK kvs)) s'->Q (.ref p) s'):wpAny (model X.prog X.w) A (call (.type "dict") [.ref a]) Q E s:=by
 obtain⟨z,hd,vs,rel,dd⟩:=dz I.hok e;refine kt_call_dict hd dd (by rw[←rel.length];exact z) fun h' dd' hs=>?_;refine h _ _ (I.hok.fresh (Nat.le_refl _)) (I.laid (a:=s.heap.objs.size) (o:=.dK kvs) (t':=s.toks) (fun b q hq=>?_) (Nat.le_refl _) (lm z (beq_eq_false_iff_ne.mpr (Ne.symm (Nat.ne_of_lt I.big))) rel dd'));exact(hs.2 b (Nat.ne_of_lt (Heap.lt_size hq))).trans (Heap.get?_push_of_some _ hq)
end
section
variable {X:Cx}{pins:List (Addr×Obj)}{σ:St}{H:Hp}{s:Shared}{a:Addr}{y:V}{u:Value}{A:Around}{E:Value->Shared->Prop}
end
end L2
namespace Att
open PySem PySem.W PySem.Calls PyProof.Rows
theorem xp{P:Params}{h:Heap}:∀(ns:List Int) (vs:List Value),WellAll P h vs (ns.map WData.int)->IntsAre vs ns:=by
 intro ns
 induction ns with
 |nil=>
  intro vs w;rw[List.map_nil] at w;cases w;exact .nil
 |cons n ns ih=>
  intro vs w;rw[List.map_cons] at w
  cases w with
  |cons a b=>
   cases a;exact .cons _ _ (ih _ b)
theorem za{l:OpenLaw}{n:Nat}(hn:l.most=some n){P:Params}{h:Heap}{args:List WData}{vals:List Value}
  (hpre:l.row.toRowW.claim.pre args=true) (hwl:WellAll P h vals args) :
  ∃a vs ns,vals=[Value.ref a]/\args=[WData.list (ns.map WData.int)]/\h.get? a=some { cls:=.type "list",data:=.seq vs.toArray }/\IntsAre vs ns/\ns.length<=n:=by
 have hsh:WShape.hasAll [] args [.list .int]=true:=(pre_splitW hpre).1;have hc:l.pre.holds [] { args:=args } = true:=(pre_splitW hpre).2;obtain⟨d,r,rfl,h1,h2⟩:=hasAllW_cons hsh;obtain rfl:=hasAllW_nil h2;obtain⟨xs,rfl,h3⟩:=hasW_list h1;obtain⟨ns,rfl⟩:=items_int h3
 have hlen:ns.length<=n:=by
  unfold OpenLaw.pre at hc
  have h4:(WTm.not (.lt (.lit (.int (n:Int))) (.len (.arg 0)))).holds [] { args:=[.list (ns.map .int)] } = true:=by
   have h4:=(holds_andW hc).1;rw[hn] at h4;exact h4
  have h5:=condW_of h4 (w_not (w_lt w_lit (w_len_list (w_arg rfl))));rw[List.length_map] at h5;refine Nat.le_of_not_lt fun q=>?_
  have q':(n:Int)<((ns.length:Nat):Int):=by omega
  first
   |(rw[decide_eq_true q'] at h5;exact absurd h5 (by decide))
   |(simp at h5;omega)
 cases hwl with
 |cons w1 w2=>
  cases w2
  cases w1 with
  |list ho hall=>exact⟨_,_,ns,rfl,rfl,ho,xp ns _ hall,hlen⟩
theorem zd(l:OpenLaw)(args:List WData):l.row.toRowW.claim.post args (.bool true) args=true:=
 postW_of (r:=l.row.toRowW) (X:=(true == true))
  (show WShape.has [] (.bool true) .bool=true by first|rfl|decide|simp[WShape.has,WShape.arms,WShape.armsAll])
  (show (WTm.eq .res (.lit (.bool true))).value [] { args:=args,res:=some (.bool true),after:=args } = some (.bool (true == true)) from w_eq_bool (w_res rfl) w_lit) rfl
theorem yj{l:OpenLaw}{n:Nat}{q:Program}{loose:List Str}{XP:(Str->Option Value)->Heap->Prop}{YP:World->Heap->Prop}{d:DefRec}
  (hn:l.most=some n) (hdf:d.params.defaults=[])
  (call:∀(w:World) (s₀ s₁:Shared) (mg mb:Str->Option Value) (fa:Addr) (o:Obj) (pm cd doc:Value) (a:Addr) (vs:List Value) (ns:List Int),
   Ground q loose [] XP w s₀ mg mb s₁.heap->YP w s₁.heap ->
   s₁.heap.get? fa=some o->o.data=.func (docDef d.name d.params d.body d.scope pm cd doc)->s₁.heap.CodeRec cd d.name->mg d.name=some (.ref fa) ->
   s₁.heap.get? a=some { cls:=.type "list",data:=.seq vs.toArray }->IntsAre vs ns->ns.length<=n->s₁.gens = #[] ->
   codeAny (model l.prog w) callerA (.call (.ref fa) ⟨[.ref a],[]⟩) (fun r s'=>r=.ok (.ret (.bool true))/\OldK s₁.heap s'.heap/\s'.os=s₁.os/\AllBare s'.gens) s₁) :
  WalkO q loose XP YP l.row.toRowW d [] (fun f vs=>PySem.call f vs):=by
 intro w s₀ s₁ mg mb G Y fa o pm cd doc dV kV ho hd hcd hD hmg hg args vals as hpre hlay hrd hwl hlo;obtain rfl:dV=.none:=Dflts.none hD hdf;obtain rfl:kV=.none:=Dflts.noKw hD;obtain⟨a,vs,ns,rfl,rfl,hobj,hints,hlen⟩:=za hn hpre hwl;refine enter_call (codeAny_mono (call w s₀ s₁ mg mb fa o pm cd doc a vs ns G Y ho (fd_plain hd) hcd hmg hobj hints hlen hg) fun r s' hq=>?_);obtain⟨rfl,h2,h3,h4⟩:=hq;exact⟨.inl ⟨.bool true,.bool true,[],rfl,fun _=>rfl,.bool true,zd l _,fun _=>⟨List.Pairwise.nil,fun _ hm=>(nomatch hm)⟩⟩,h2,h3,h4⟩
section
variable {prog:Program}{w:World}{A:Around}{E:Value->Shared->Prop}{s:Shared}{K:Frag}
end
end Att
namespace L2
open PySem PySem.Spec PyProof.Rows
theorem qQ:∀{vs:List Value}{ns:List Int},IntsAre vs ns->Vals (ns.map V.int) vs
 |_,_,.nil=>.nil
 |_,_,.cons n t h=>.cons ⟨t,rfl⟩ (qQ h)
def pE(H:Hp):Prop:=∀b,H b=none\/∃o xs,H b=some (.frz o (.lst xs))
theorem AF{P:Program}{w:World}{K:Frag}{mg mb:Str->Option Value}{CX:CXT}{k:Nat}{fa a:Addr}{fd:FuncData}{x:Str}{sp:Sp}{s₁:Shared}{vs:List Value}{ns:List Int}
  (KX:K.In s₁.heap) (hns:s₁.heap.Ns mainGlobals mg) (hb:s₁.heap.Ns builtinsNs mb) (hbb:∀x:Str,x≠"__name__"->mb x=bootBuiltins x) (hlim:s₁.heap.NoLimit) (hg:s₁.gens = #[])
  (ha:s₁.heap.get? a=some { cls:=.type "list",data:=.seq vs.toArray }) (hi:IntsAre vs ns) (hl:ns.length<=sizeLine) (hr:Room k callerA)
  (F:∀base:Heap,K.In base->base.Ns mainGlobals mg->FnOk P w K mg base CX k fa fd [x] sp) (hbind:∀(s:Shared) (u:Value),BindsTo s fd ⟨[u],[]⟩ [(x,u)])
  (hsp:∀H:Hp,pE H->SqL K H a (ns.map V.int)->sp [.ref a] H (fun v _=>v=.bl true) fun _ _ _=>False)
  (hCX:∀H e s',CX [] H s₁ (fun _ _ _=>False) e s'->False) :
  codeAny (model P w) callerA (.call (.ref fa) ⟨[.ref a],[]⟩) (fun r s'=>r=.ok (.ret (.bool true))/\OldK s₁.heap s'.heap/\s'.os=s₁.os/\AllBare s'.gens) s₁:=by
 have rv:=qQ hi;have lenV:=hi.length
 have core:∀H:Hp,pE H->SqL K H a (ns.map V.int)->HOk P w H s₁.heap->(∀b,H b≠none->b=a)->(H a≠none->K.lookup a=none) ->
   codeAny (model P w) callerA (.call (.ref fa) ⟨[.ref a],[]⟩) (fun r s'=>r=.ok (.ret (.bool true))/\OldK s₁.heap s'.heap/\s'.os=s₁.os/\AllBare s'.gens) s₁:=by
  intro H hO hS hok hA hK;have base_of:∀{b:Addr}{o:Obj},s₁.heap.get? b=some o->H b=none->(fM s₁.heap H).get? b=some o:=fun e n=>AJ e n
  have noA:∀{b:Addr}{o:Obj}{es:Array DictEntry}{ep:Nat},s₁.heap.get? b=some o->o.data=.dict es ep->H b=none:=fun {b o es ep} e d=>by
   cases q:H b with
   |none=>rfl
   |some u=>
    have e':b=a:=hA b (by rw[q];simp);subst e';rw[ha] at e;cases e;have d':Data.seq vs.toArray _=Data.dict es ep:=d;cases d'
  have nsK:∀{b:Addr}{m:Str->Option Value},s₁.heap.Ns b m->(fM s₁.heap H).Ns b m:=fun {b m} ⟨o,es,ep,e,d,r⟩=>⟨o,es,ep,base_of e (noA e d),d,r⟩
  have hKb:K.In (fM s₁.heap H):=fun b o e=>base_of (KX b o e) (by
   cases q:H b with
   |none=>rfl
   |some u=>
    have e':b=a:=hA b (by rw[q];simp);subst e'
    rw[hK (by rw[q];simp)] at e;cases e)
  have hM:Mod K mg (fM s₁.heap H):=⟨hKb,nsK hns,⟨mb,nsK hb,hbb⟩,let ⟨mc,h1,h2⟩:=hlim;⟨mc,nsK h1,h2⟩⟩;have e0:Env0 P w K mg (fM s₁.heap H) callerA [] s₁ H:=⟨rfl,hM,fun b o e=>B0 e,Nat.le_of_eq (zC _ _),trivial,fun b hb=>absurd (show b∈([]:List Addr) from hb) (by simp),hok,.of_eq hg⟩;refine codeAny_mono ((F _ hKb (nsK hns)).run callerA [] s₁ H ⟨[.ref a],[]⟩ [.ref a] [.ref a] _ _ hr e0 (hbind s₁ (.ref a)) (.cons rfl .nil) (hsp H hO hS)) fun r s' h=>?_
  cases r with
  |error e=>exact(hCX H e s' h).elim
  |ok fl=>
   cases fl with
   |next=>exact False.elim h
   |brk=>exact False.elim h
   |cont=>exact False.elim h
   |ret u=>
    obtain⟨v,H',os,bare,un,hok',r',q⟩:=h;have q':v=.bl true:=q;subst q';obtain rfl:u=Value.bool true:=r';refine⟨rfl,OldK.of_keep fun b o e=>?_,os,bare⟩
    cases q:H b with
    |none=>exact un.keep b o e q (by intro z;exact absurd (show b∈([]:List Addr) from z) (by simp)) (by simp)
    |some u=>
     rcases hO b with z|⟨ob,xs,z⟩
     .rw[q] at z;cases z
     .have z2:=un.frzs b ob _ z
      obtain⟨e1,_⟩:=hok b _ z;obtain⟨e2,_⟩:=hok' b _ z2;rw[e] at e1;cases e1;exact e2
 cases hk:K.lookup a with
 |some o=>
  have e:=KX a o hk;rw[ha] at e;cases e;refine core (fun _=>none) (fun _=>.inl rfl) (.inr ⟨_,vs.toArray,_,hk,rfl,rfl,rfl,by rw[List.size_toArray,lenV];exact hl,by simpa using rv⟩) (fun b u z=>by have z':(none:Option HO)=some u:=z;cases z') (fun b z=>absurd rfl z) fun z=>absurd rfl z
 |none=>
  refine core (fun b=>if b=a then some (.frz { cls:=.type "list",data:=.seq vs.toArray } (.lst (ns.map V.int))) else none) (fun b=>?_) (.inl (.inr ⟨{ cls:=.type "list",data:=.seq vs.toArray },if_pos rfl⟩)) (fun b u z=>?_) (fun b z=>?_) fun _=>hk
  .by_cases hb:b=a
   .exact .inr ⟨_,_,if_pos hb⟩
   .exact .inl (if_neg hb)
  .by_cases hb:b=a
   .have z':=(if_pos hb).symm.trans z
    cases z';subst hb;exact⟨ha,by rw[List.length_map];exact hl,vs,_,rv,ha⟩
   .have z':=(if_neg hb).symm.trans z
    cases z'
  .by_cases hb:b=a
   .exact hb
   .exact absurd (if_neg hb) z
theorem Bk{l:PySem.W.OpenLaw}{n k:Nat}{q:Program}{loose:List Str}{XP:(Str->Option Value)->Heap->Prop}{YP:World->Heap->Prop}{d:DefRec}{K:Params->Frag}{CX:World->CXT}{sp:World->Sp}{x:Str}
  (hn:l.most=some n) (hn2:n<=sizeLine) (hdf:d.params.defaults=[]) (hr:Room k callerA)
  (hY:∀(w:World) (h:Heap),YP w h->(K w.params).In h)
  (F:∀(w:World) (mg:Str->Option Value) (fa:Addr) (h:Heap),(K w.params).In h->h.Ns mainGlobals mg->mg d.name=some (.ref fa) ->
   ∃fd:FuncData,(∀(s:Shared) (u:Value),BindsTo s fd ⟨[u],[]⟩ [(x,u)]) /\
    ∀base:Heap,(K w.params).In base->base.Ns mainGlobals mg->FnOk l.prog w (K w.params) mg base (CX w) k fa fd [x] (sp w))
  (hsp:∀(w:World) (H:Hp) (a:Addr) (ns:List Int),ns.length<=n->pE H->SqL (K w.params) H a (ns.map V.int)->sp w [.ref a] H (fun v _=>v=.bl true) fun _ _ _=>False)
  (hCX:∀(w:World) (H:Hp) (s:Shared) (e:Value) (s':Shared),CX w [] H s (fun _ _ _=>False) e s'->False) :
  PySem.W.WalkO q loose XP YP l.row.toRowW d [] (fun f vs=>PySem.call f vs):=by
 refine Att.yj hn hdf fun w s₀ s₁ mg mb fa o pm cd doc a vs ns G Y ho hd hcd hmg hobj hints hlen hg=>?_;have KX:=hY w _ Y;obtain⟨fd,hb,hF⟩:=F w mg fa _ KX G.T.g hmg;exact AF KX G.T.g G.T.b G.T.builtins G.T.nolimit hg hobj hints (Nat.le_trans hlen hn2) hr hF hb (fun H hO hS=>hsp w H a ns hlen hO hS) fun H e s'=>hCX w H s₁ e s'
def dt(s:Stmt):Arguments:=match s with
 |.FunctionDef _ a _ _ _ _ _ _ _ _=>a
 |_=>{ posonlyargs:=[],args:=[],vararg:=none,kwonlyargs:=[],kw_defaults:=[],kwarg:=none,defaults:=[] }
def cz(s:Stmt):List Stmt:=match s with
 |.FunctionDef _ _ b _ _ _ _ _ _ _=>b
 |_=>[]
def bp(s:Stmt):Scope:=match s with
 |.FunctionDef _ _ _ _ _ _ sc _ _ _=>sc
 |_=>{ kind:=.function,names:=[],isGenerator:=false,isCoroutine:=false }
abbrev CX0:CXT:=fun _ _ _ _ _ _=>False
abbrev E0:XK:=fun _ _ _=>False
theorem E5{X:Cx}:oq CX0 X E0:=fun _ _ _ _ _ _ _ h=>h.elim
structure Fun(K:Frag)(x qual:Str)(st:Stmt)(f:Addr)(fd:FuncData):Prop where
 ex:∃(oc:Value) (od:Option Addr) (kV doc pm:Value) (an:Option Addr) (cdv ct:Value) (osl:Array (Option Value)),
  fd=PySem.W.fnOf x qual (dt st) (cz st) (bp st) .none kV doc pm an cdv ct/\K.lookup f=some ⟨oc,od,.func fd,osl⟩/\PySem.W.codeIn K cdv qual=true
 kp:PySem.W.keepIn K (.ref f)=true
section
variable {P:Program}{w:World}{K:Frag}{mg:Str->Option Value}{base:Heap}
theorem Fun.ok{x qual:Str}{st:Stmt}{f:Addr}{fd:FuncData}{N ps:List Str}{k:Nat}{sp:Sp}(F:Fun K x qual st f fd)(S:FnScope N ps (bp st))(len:∀vs H Q E,sp vs H Q E->vs.length=ps.length)
  (hbody:∀(cdv:Value) (A:Around) (outer:List Env) (s:Shared) (H:Hp) (vs:List V) (Q:VK) (E:XK),Room k (A.deeper (envOfC qual (bp st) s.heap.objs.size f cdv))->sp vs H Q E ->
   ∃t,PSs (eF CX0 P w K mg base N qual (bp st) f cdv A outer s H E).nox (cz st) t/\t { nx:=fun _ H'=>Q .non H',rt:=Q } (start N vs) H):FnOk P w K mg base CX0 (k+1) f fd ps sp:=by
 obtain⟨oc,od,kV,doc,pm,an,cdv,ct,osl,rfl,lk,hcd⟩:=F.ex;refine FB lk hcd S len fun A outer s H vs Q E hr hsp=>?_;obtain⟨t,h,q⟩:=hbody cdv A outer s H vs Q E hr hsp;exact⟨t,h.nox,q⟩
theorem Fun.binds{x qual:Str}{st:Stmt}{f:Addr}{fd:FuncData}{ps:List Str}(F:Fun K x qual st f fd)
  (h:∀(kV doc pm:Value) (an:Option Addr) (cdv ct:Value) (us:List Value),us.length=ps.length->bindArgs (PySem.W.fnOf x qual (dt st) (cz st) (bp st) .none kV doc pm an cdv ct) ⟨us,[]⟩=pure (ps.zip us)):Binds K fd ps []:=by
 obtain⟨oc,od,kV,doc,pm,an,cdv,ct,osl,rfl,lk,hcd⟩:=F.ex;exact .all (h kV doc pm an cdv ct)
theorem uV{x qual:Str}{st:Stmt}{f:Addr}{oc:Value}{od an:Option Addr}{osl:Array (Option Value)}{kV doc pm cdv ct:Value}(l:K.lookup f=some ⟨oc,od,.func (PySem.W.fnOf x qual (dt st) (cz st) (bp st) .none kV doc pm an cdv ct),osl⟩)
  (c:PySem.W.codeIn K cdv qual=true) (k:PySem.W.keepIn K (.ref f)=true):Fun K x qual st f (PySem.W.fnOf x qual (dt st) (cz st) (bp st) .none kV doc pm an cdv ct):=⟨⟨oc,od,kV,doc,pm,an,cdv,ct,osl,rfl,l,c⟩,k⟩
end
section
variable {X:Cx}
theorem pv(i:Nat){x:Str}{pos:Pos}(hN:X.N[i]? = some x:=by rfl)(hv:Vis X.env.scope x:=by first|exact Or.inl rfl|exact Or.inr (Or.inl rfl)|exact Or.inr (Or.inr rfl))(hd:(x == ("__debug__" : Str))=false:=by decide)
  (hcd:(x == ("__classdict__" : Str))=false:=by decide):PE X (.Name x pos) (wc i):=Dt hN hv hd hcd
end
theorem fL{A B:Prop}(h:B):if false=true then A else B:=by
 rw[if_neg Bool.false_ne_true];exact h
theorem fK{A B:Prop}(h:A):if true=true then A else B:=by
 rw[if_pos rfl];exact h
end L2
set_option maxHeartbeats 4000000
namespace K1
open PySem
def has(signs x:Str):Bool:=x.cps.toList.all fun c=>decide (c∈signs.cps.toList)
def LET:Str:="abcdefghijklmnopqrstuvwxyz"
def TXT:Str:="abcdefghijklmnopqrstuvwxyz0123456789-"
def single:PyData->Bool
 |.int i=>decide ((if i<0 then -i else i)<=10^18)
 |.str x=>decide (x.length<=20)&&has TXT x
 |_=>false
def jk(best:Int):List Int->Int
 |[]=>best
 |n::r=>jk (if n>best then n else best) r
def iS(d:Int):List Int->Int
 |[]=>d
 |n::r=>jk n r
end K1
namespace L2
open PySem
def cu(env:Env):List (Str×NameKind)->List (Str×Addr)->List (Str×Addr)
 |[],acc=>acc
 |(n,k)::r,acc=>cu env r (if (k == .free)=true then (n,(env.cells.lookup n).getD 0)::acc else acc)
theorem mj{env:Env}:∀(l:List (Str×NameKind)) (acc:List (Str×Addr)),(∀x∈l,x.2=.free->∃c,env.cells.lookup x.1=some c) ->
  (forIn l acc (fun x r=>match x with
   | (name,kind)=>if (kind == NameKind.free)=true then (do
     let c ←cellOf env name
     pure (ForInStep.yield ((name,c)::r))) else pure (ForInStep.yield r)):Sem (List (Str×Addr)))=pure (cu env l acc)
 |[],acc,_=>rfl
 |(n,k)::r,acc,h=>by
  rw[List.forIn_cons];have hr:∀x∈r,x.2=.free->∃c,env.cells.lookup x.1=some c:=fun x hx=>h x (List.mem_cons_of_mem _ hx)
  cases hk:(k == NameKind.free) with
  |false=>
   have ih:=mj r acc hr
   have e:cu env ((n,k)::r) acc=cu env r acc:=by simp[cu,hk]
   rw[e];dsimp only;rw[if_neg (by rw[hk];exact Bool.false_ne_true)];exact ih
  |true=>
   obtain⟨c,hc⟩:=h (n,k) List.mem_cons_self (by simpa using hk);have ih:=mj r ((n,c)::acc) hr;have hc':env.cells.lookup n=some c:=hc
   have e:cu env ((n,k)::r) acc=cu env r ((n,c)::acc):=by simp[cu,hk,hc']
   have e2:cellOf env n=pure c:=by unfold cellOf;rw[hc']
   rw[e];dsimp only;rw[if_pos hk,e2];exact ih
theorem qI{scope:Scope}{env:Env}(h:∀x∈scope.names,x.2=.free->∃c,env.cells.lookup x.1=some c):closureFor scope env=pure (cu env scope.names []):=by
 have q:=mj (env:=env) scope.names [] h;unfold closureFor;exact congrArg (fun t=>t >>= fun z=>pure z) q
theorem qj{env:Env}:∀(l:List (Str×NameKind)) (acc:List (Str×Addr)) (x:Str) (c:Addr),(∀y d,acc.lookup y=some d->env.cells.lookup y=some d) ->
  (∀y∈l,y.2=.free->∃c,env.cells.lookup y.1=some c)->(cu env l acc).lookup x=some c->env.cells.lookup x=some c
 |[],acc,x,c,ha,_,e=>ha x c e
 |(n,k)::r,acc,x,c,ha,h,e=>by
  have hr:∀x∈r,x.2=.free->∃c,env.cells.lookup x.1=some c:=fun x hx=>h x (List.mem_cons_of_mem _ hx);refine qj r _ x c ?_ hr e;intro y d q
  cases hk:(k == NameKind.free) with
  |false=>rw[hk,if_neg Bool.false_ne_true] at q;exact ha y d q
  |true=>
   rw[hk,if_pos rfl] at q;obtain⟨c',hc⟩:=h (n,k) List.mem_cons_self (by simpa using hk);have hc':env.cells.lookup n=some c':=hc;rw[List.lookup_cons] at q
   by_cases z:y=n
   .subst z
    simp[hc'] at q;rw[hc',q]
   .have z':(y == n)=false:=beq_eq_false_iff_ne.mpr z
    rw[z'] at q;exact ha y d q
theorem qK{env:Env}:∀(l:List (Str×NameKind)) (acc:List (Str×Addr)) (x:Str),(acc.lookup x).isSome=true->((cu env l acc).lookup x).isSome=true
 |[],_,_,h=>h
 |(n,k)::r,acc,x,h=>by
  refine qK r _ x ?_
  cases hk:(k == NameKind.free) with
  |false=>rw[if_neg Bool.false_ne_true];exact h
  |true=>
   rw[if_pos rfl,List.lookup_cons]
   cases z:(x == n) with
   |true=>rfl
   |false=>exact h
theorem qJ{env:Env}:∀(l:List (Str×NameKind)) (acc:List (Str×Addr)) (x:Str),(x,NameKind.free)∈l->((cu env l acc).lookup x).isSome=true
 |[],_,_,h=>absurd h (by simp)
 |(n,k)::r,acc,x,h=>by
  rcases List.mem_cons.mp h with e|e
  .cases e
   refine qK r _ _ ?_;rw[if_pos (by decide),List.lookup_cons];simp
  .exact qJ r _ x e
open PySem PySem.Spec PyProof.Rows
structure CS(osc:Scope)(N:List Str)(x:Str)(scope:Scope)(N':List Str):Prop where
 kind:scope.kind=.function
 nocell:∀y∈scope.names,y.2≠.cell
 names:∀y∈scope.names,y.2=.local->scope.names.lookup y.1=some .local
 hx:scope.names.lookup x=some .local
 only:∀y∈scope.names,y.2=.local->y.1=x\/y.1=".0"
 free:∀y∈scope.names,y.2=.free->osc.names.lookup y.1=some .cell\/osc.names.lookup y.1=some .free
 nd:(x::N').Nodup
 n0:(".0" : Str)∉N'
 len:N'.length=N.length
 rel:∀p∈N'.zip N,p.1=p.2\/∀q∈scope.names,q.1≠p.1
theorem CS.at{osc:Scope}{N N':List Str}{x:Str}{scope:Scope}(S:CS osc N x scope N'){j:Nat}{y:Str}(h:N'[j]? = some y):N[j]? = some y\/∀q∈scope.names,q.1≠y:=by
 have hl:j<N'.length:=(List.getElem?_eq_some_iff.mp h).1
 have hl2:j<N.length:=by rw[←S.len];exact hl
 have m:(N'.zip N)[j]? = some (y,N[j]):=by
  rw[List.getElem?_zip_eq_some];exact⟨h,List.getElem?_eq_getElem hl2⟩
 rcases S.rel _ (List.mem_of_getElem? m) with z|z
 .left
  rw[List.getElem?_eq_getElem hl2];exact congrArg some z.symm
 .exact .inr z
theorem se{c:Str×NameKind->Bool}:∀{names:List (Str×NameKind)}{y:Str}{k':NameKind},
  (names.map fun p=>if (p.2 == NameKind.free&&c p)=true then (p.1,NameKind.cell) else (p.1,p.2)).lookup y=some k'->∃k,(y,k)∈names/\(k'=k\/(k=.free/\k'=.cell))
 |[],_,_,h=>by simp at h
 |(n,k)::r,y,k',h=>by
  rw[List.map_cons] at h
  by_cases hy:y=n
  .subst hy
   cases hc:(k == NameKind.free&&c (y,k)) with
   |false=>
    simp only[hc,Bool.false_eq_true,if_false,List.lookup_cons,beq_self_eq_true] at h;cases h;exact⟨k,List.mem_cons_self,.inl rfl⟩
   |true=>
    simp only[hc,if_true,List.lookup_cons,beq_self_eq_true] at h;cases h
    have e:k=.free:=by
     have:=(Bool.and_eq_true _ _).mp hc;simpa using this.1
    exact⟨k,List.mem_cons_self,.inr ⟨e,rfl⟩⟩
  .have hb:(y == n)=false:=beq_eq_false_iff_ne.mpr hy
   have h':(r.map fun p=>if (p.2 == NameKind.free&&c p)=true then (p.1,NameKind.cell) else (p.1,p.2)).lookup y=some k':=by
    cases hc:(k == NameKind.free&&c (n,k)) with
    |false=>simp only[hc,Bool.false_eq_true,if_false,List.lookup_cons,hb] at h;exact h
    |true=>simp only[hc,if_true,List.lookup_cons,hb] at h;exact h
   obtain⟨k2,m,e⟩:=se h';exact⟨k2,List.mem_cons_of_mem _ m,e⟩
theorem lV{scope:Scope}{env:Env}{y:Str}{k':NameKind}(h:(relabel scope env).names.lookup y=some k'):∃k,(y,k)∈scope.names/\(k'=k\/(k=.free/\k'=.cell)):=by
 refine se (c:=fun p=>env.scope.kind == .function&&env.kindOf p.1 == some .cell) ?_;rw[←h];unfold relabel
 congr 1
 refine List.map_congr_left fun p _=>?_;obtain⟨n,k⟩:=p;simp only[Bool.and_assoc]
abbrev b7(X:Cx)(x:Str)(scope:Scope)(C:Addr)(s0:Shared)(H0:Hp)(ex:List Addr)(N':List Str):Cx where
 prog:=X.prog
 w:=X.w
 K:=X.K
 mg:=X.mg
 base:=X.base
 A:=X.A
 N:=x::N'
 s₀:=s0
 H₀:=H0
 env:=compEnvC scope (cu X.env scope.names []) C X.env
 outer:=X.stack
 stack:=X.stack
 ex:=ex
 fn:=fun _=>false
 calm:=X.calm
 pn:=[]
 xe:=fun _ _=>False
section
variable {X:Cx}{pins:List (Addr×Obj)}{σ:St}{H:Hp}{s:Shared}{x:Str}{scope:Scope}{N':List Str}
theorem mI(I:Inv X pins σ H s)(S:CS X.env.scope X.N x scope N'):∀y∈scope.names,y.2=.free->∃c,X.env.cells.lookup y.1=some c:=fun y hy e=>
 I.ok.has y.1 (S.free y hy e)
theorem rD(I:Inv X pins σ H s)(S:CS X.env.scope X.N x scope N'){y:Str}{c:Addr}(e:(cu X.env scope.names []).lookup y=some c):X.env.cells.lookup y=some c:=qj scope.names [] y c (fun _ _ z=>by simp at z) (mI I S) e
theorem sL(I:Inv X pins σ H s)(S:CS X.env.scope X.N x scope N'){y:Str}(e:(y,NameKind.free)∈scope.names):∃c,(cu X.env scope.names []).lookup y=some c/\X.env.cells.lookup y=some c:=by
 obtain⟨c,hc⟩:=Option.isSome_iff_exists.mp (qJ (env:=X.env) scope.names [] y e);exact⟨c,hc,rD I S hc⟩
theorem qG{fp:List Addr}{h':Heap}{m:Str->Option Value}{tk:Nat}{oD oC:Obj}(I:Inv X pins σ H s)(S:CS X.env.scope X.N x scope N')(hf:∀b∈fp,dC X pins H b)(ho:∀b∈fp,∃o,s.heap.get? b=some o)
  (hns:h'.Ns (s.heap.push oD).objs.size m) (hsb:Heap.SameBut (s.heap.push oD).objs.size ((s.heap.push oD).push oC) h') :
  Inv (b7 X x scope (s.heap.push oD).objs.size { s with heap:=s.heap.push oD } H (s.heap.objs.size::fp) N') [] (none::σ) H { s with heap:=h',toks:=tk }:=by
 have I3:Inv X pins σ H { s with heap:=s.heap.push oD,toks:=s.toks }:=I.kept fun b o e=>Heap.get?_push_of_some _ e;have hC:(s.heap.push oD).objs.size=s.heap.objs.size+1:=Heap.size_push ..
 have up3:∀b o,(s.heap.push oD).get? b=some o->h'.get? b=some o:=fun b o e=>
  (hsb.2 b (Nat.ne_of_lt (Heap.lt_size e))).trans (Heap.get?_push_of_some _ e)
 have up:∀b o,s.heap.get? b=some o->h'.get? b=some o:=fun b o e=>up3 b o (Heap.get?_push_of_some _ e);have cl:=fun {y c} e=>rD (y:=y) (c:=c) I S e
 have clt:∀y c,X.env.cells.lookup y=some c->c<s.heap.objs.size:=fun y c e=>let ⟨v,q⟩:=I.cell y c e;q.lt
 have inner:∀{y:Str}{k':NameKind},(relabel scope X.env).names.lookup y=some k'->(k'=.cell\/k'=.free)->(y,NameKind.free)∈scope.names:=fun {y k'} e hk=>by
  obtain⟨k,mem,r⟩:=lV e
  rcases r with r|⟨r,_⟩
  .rcases hk with z|z
   .exact absurd (r.symm.trans z) (S.nocell _ mem)
   .rw[←r.symm.trans z];exact mem
  .rw[←r];exact mem
 have ok:(b7 X x scope (s.heap.push oD).objs.size { s with heap:=s.heap.push oD } H (s.heap.objs.size::fp) N').Ok:=by
  refine⟨I.ok.mod,S.kind,I.ok.glob,I.ok.blt,Nat.le_refl _,fun y z c e1 e2=>I.ok.inj y z c (cl e1) (cl e2),fun y hk=>?_,fun y c e=>(nomatch e),I.ok.hd,I.ok.frames,.inl rfl,fun b hb=>?_,fun b o e=>?_,
   Nat.le_trans (Nat.le_trans I.ok.bsz I.sz) (by show s.heap.objs.size<=(s.heap.push oD).objs.size;omega),fun b o e hb=>?_,fun b hb z=>?_,I3.stack,I.stkFree⟩
  .have mem:(y,NameKind.free)∈scope.names:=by
    rcases hk with z|z
    .exact inner z (.inl rfl)
    .exact inner z (.inr rfl)
   obtain⟨c,hc,_⟩:=sL I S mem;exact⟨c,hc⟩
  .rcases List.mem_cons.mp hb with e|e
   .subst e
    exact⟨by show s.heap.objs.size≠(s.heap.push oD).objs.size;omega,fun y c e=>Nat.ne_of_lt (clt y c (cl e))⟩
   .obtain⟨o,q⟩:=ho b e
    have q2:=Heap.lt_size q;exact⟨by show b≠(s.heap.push oD).objs.size;rw[hC];exact Nat.ne_of_lt (Nat.lt_succ_of_lt q2),fun y c e'=>(hf b e).2.2.2.2.1 y c (cl e')⟩
  .exact⟨Heap.get?_push_of_some _ (I.bs b o e).1,(I.bs b o e).2⟩
  .rcases List.mem_cons.mp hb with z|z
   .have q2:=Heap.lt_size (I.bs b o e).1
    rw[z] at q2;exact Nat.lt_irrefl _ q2
   .rcases(hf b z).2.2.2.1 with q|q
    .exact I.ok.noex b o e q
    .have q2:=Heap.lt_size (I.ok.bs b o e).1
     exact Nat.lt_irrefl _ (Nat.lt_of_lt_of_le q2 q)
  .have z':=I.stkSub b z
   rcases List.mem_cons.mp hb with e|e
   .subst e
    rcases List.mem_cons.mp z' with q|q
    .have q2:=I.lt
     rw[←q] at q2;exact Nat.lt_irrefl _ q2
    .exact I.nofs (Nat.le_refl _) q
   .rcases List.mem_cons.mp z' with q|q
    .exact(hf b e).2.1 q
    .exact(hf b e).2.2.1 q
 obtain⟨mo,hno,hlo⟩:=I.loc;refine⟨ok,rfl,I.bare,Un.kept up3,⟨m,hns,fun i y v e1 e2 e3=>?_⟩,fun y c e=>?_,I.hok.fresh (by show s.heap.objs.size<=(s.heap.push oD).objs.size;omega),fun y c e=>I.freeC y c (cl e),fun p hp=>absurd hp (by simp),I.hok.kept up,?_⟩
 .cases i with
  |zero=>simp at e2
  |succ j=>
   have e1n:N'[j]? = some y:=by simpa using e1
   have vis:∃k,(y,k)∈scope.names:=by
    rcases(show Vis (relabel scope X.env) y from e3) with z|z|z <;> exact let ⟨k,mem,_⟩:=lV z;⟨k,mem⟩
   have e1':X.N[j]? = some y:=by
    rcases S.at e1n with z|z
    .exact z
    .obtain⟨k,mem⟩:=vis
     exact absurd rfl (z _ mem)
   have e2':σ[j]? = some (some v):=by simpa using e2
   have yx:y≠x:=fun z=>by
    have nd:=S.nd;rw[List.nodup_cons] at nd;refine nd.1 ?_;rw[←z];exact List.mem_of_getElem? e1n
   have kin:((relabel scope X.env).names.lookup y=some .cell\/(relabel scope X.env).names.lookup y=some .free):=by
    rcases(show Vis (relabel scope X.env) y from e3) with z|z|z
    .obtain⟨k,mem,r⟩:=lV z
     rcases r with r|⟨_,r⟩
     .rcases S.only _ mem r.symm with z2|z2
      .exact absurd z2 yx
      .exact absurd (List.mem_of_getElem? e1n) (by rw[show y=(".0" : Str) from z2];exact S.n0)
     .cases r
    .exact .inl z
    .exact .inr z
   have mem:(y,NameKind.free)∈scope.names:=by
    rcases kin with z|z
    .exact inner z (.inl rfl)
    .exact inner z (.inr rfl)
   have vo:Vis X.env.scope y:=by
    rcases S.free _ mem rfl with z|z
    .exact .inr (.inl z)
    .exact .inr (.inr z)
   obtain⟨u,ru,lk⟩:=hlo j y v e1' e2' vo;refine⟨u,ru,.inr ⟨kin,?_⟩⟩;obtain⟨c,hc,hc'⟩:=sL I S mem;refine⟨c,hc,?_⟩
   rcases lk with⟨z,_⟩|⟨_,c2,z2,q⟩
   .exfalso
    have z':X.env.scope.names.lookup y=some .local:=z
    rcases S.free _ mem rfl with r|r <;> (rw[z'] at r;cases r)
   .rw[hc'] at z2
    cases z2;obtain⟨o,q1,q2⟩:=q;exact⟨o,up _ _ q1,q2⟩
 .obtain⟨v,o,q1,q2⟩:=I.cell y c (cl e)
  exact⟨v,o,up _ _ q1,q2⟩
 .have:=I.len
  simp[this,S.len]
theorem qF{fp:List Addr}{σ':St}{pins':List (Addr×Obj)}{H1:Hp}{s1:Shared}{h':Heap}{C:Addr}{oD:Obj}{ys:List V}(I:Inv X pins σ H s)(hf:∀b∈fp,dC X pins H b)
  (hCd:C=(s.heap.push oD).objs.size) (J:Inv (b7 X x scope C { s with heap:=s.heap.push oD } H (s.heap.objs.size::fp) N') pins' σ' H1 s1) (hsb:Heap.SameBut C s1.heap h') (hD0:H1 s.heap.objs.size=none)
  (new:∃its n,Vals ys its/\s1.heap.get? s.heap.objs.size=some { cls:=.type "list",data:=.seq its.toArray n }) (hz:ys.length<=sizeLine) :
  Inv X pins σ (upd H1 s.heap.objs.size (.lst ys)) { s1 with heap:=h' }:=by
 have hC:C=s.heap.objs.size+1:=by rw[hCd];exact Heap.size_push ..
 have nD:∀b o,s.heap.get? b=some o->b≠s.heap.objs.size:=fun b o e=>Nat.ne_of_lt (Heap.lt_size e)
 have nC:∀b o,s.heap.get? b=some o->b≠C:=fun b o e=>by rw[hC];exact Nat.ne_of_lt (Nat.lt_succ_of_lt (Heap.lt_size e))
 have up:∀b o,s.heap.get? b=some o->(s.heap.push oD).get? b=some o:=fun b o e=>Heap.get?_push_of_some _ e;have nx:∀b,b∉fp->b≠s.heap.objs.size->b∉s.heap.objs.size::fp:=fun b h1 h2 z=>(List.mem_cons.mp z).elim h2 h1
 have hDC:s.heap.objs.size≠C:=by rw[hC];exact Nat.ne_of_lt (Nat.lt_succ_self _)
 have tr:∀b u,H1 b=some u->b≠s.heap.objs.size:=fun b u e z=>by rw[z,hD0] at e;cases e
 have trC:∀b u,H1 b=some u->b≠C:=fun b u e z=>by
  have:=J.free;rw[z] at e;have q:H1 C=none:=J.free;rw[q] at e;cases e
 obtain⟨its,n,rv,eD⟩:=new;have B:Un (frs X.stack) (s.heap.objs.size::fp) H H1 (s.heap.push oD) s1.heap:=J.base;refine I.call' (s':={ s1 with heap:=h' }) (ch:=fp) J.os ⟨fun b o e q h1 h2=>?_,fun b o e q h1 h2=>?_,fun b o e q h2=>?_,fun b o e h2=>?_,fun b xs e=>?_,fun b o u e=>?_,fun b ps e=>?_⟩ (fun b u e=>?_) J.bare fun b hb=>?_
 .exact(hsb.2 b (nC b o e)).trans (B.keep b o (up b o e) q h1 (nx b h2 (nD b o e)))
 .obtain⟨sl,z⟩:=B.slot b o (up b o e) q h1 (nx b h2 (nD b o e))
  exact⟨sl,(hsb.2 b (nC b o e)).trans z⟩
 .rw[aQ (nD b o e)]
  exact B.free b o (up b o e) q (nx b h2 (nD b o e))
 .obtain⟨o',z⟩:=B.there b o (up b o e) (nx b h2 (nD b o e))
  exact⟨o',(hsb.2 b (nC b o e)).trans z⟩
 .have z:=B.tups b xs e
  rw[aQ (tr b _ z)];exact z
 .have z:=B.frzs b o u e
  rw[aQ (tr b _ z)];exact z
 .obtain⟨more,z⟩:=B.tbls b ps e
  exact⟨more,by rw[aQ (tr b _ z)];exact z⟩
 .by_cases hb:b=s.heap.objs.size
  .subst hb
   rw[bG] at e;cases e;exact⟨hz,its,n,rv,(hsb.2 _ hDC).trans eD⟩
  .rw[aQ hb] at e
   refine(J.hok b u e).stay (fun c v hc q=>(hsb.2 c ?_).trans q) (fun c q=>by rw[aQ (tr c _ q)];exact q) fun c xs q=>by rw[aQ (tr c _ q)];exact q
   rcases hc with z|z
   .rw[z];exact trC b u e
   .exact trC c _ z
 .obtain⟨_,f1,_,f3,f4,f5⟩:=hf b hb
  exact⟨f3,f1,f4,f5⟩
end
def PTs(X:Cx)(ifs:List Expr)(t:TT):Prop:=
 ∀(pins:List (Addr×Obj)) (s:Shared) (σ:St) (H:Hp) (Q:Bool->Hp->Prop) (E:Value->Shared->Prop),Inv X pins σ H s->t σ H Q ->
  wpAny (model X.prog X.w) X.A (forIn ifs true fun c r=>if r=true then do
   let ok ←isTrue c X.env (eval c X.env)
   pure (ForInStep.yield ok) else pure (ForInStep.yield r)) (TP X pins σ Q) E s
theorem BD{X:Cx}:PTs X [] (fun _ H Q=>Q true H):=fun _ _ _ H _ _ I h=>wpAny_tests_nil ⟨H,I,h⟩
theorem BC{X:Cx}{c:Expr}{t:TT}(hx:X.xe=fun _ _=>False)(h:PT X c t):PTs X [c] t:=fun pins s σ H Q _ I q=>
 wpAny_tests_one (wpAny_mono (h pins s σ H Q I q) (fun _ _ z=>z) fun e s' z=>by rw[hx] at z;exact z.elim)
def lI(σ:St)(J:It)(tt:TT)(te:TE)(W:Nat->Nat->List V->Hp->Prop)(D:List V->Hp->Prop):Prop:=∀i m ys H,W i m ys H ->
 (J.stop i H/\ys.length<=sizeLine/\D ys H)\/(J.go i H/\ys.length<sizeLine/\∃N:List V->Hp->Prop,(∀ys' H',N ys' H'->∃m',m' < m/\W (i+1) m' ys' H')/\∀v H',J.yld i H v H'->tt (some v::σ) H' fun b H2=>
  if b=true then te (some v::σ) H2 fun y H3=>N (ys++[y]) H3 else N ys H2)
section
variable {X:Cx}{pins:List (Addr×Obj)}{σ:St}{H:Hp}{s:Shared}{x:Str}{scope:Scope}{N':List Str}
theorem rC{fp:List Addr}{it C:Addr}{tn:Nat->Heap->Prop}{J:It}{oD:Obj}{elt iter:Expr}{ifs:List Expr}{px pos:Pos}{te:TE}{tt:TT}{W:Nat->Nat->List V->Hp->Prop}{Dn:List V->Hp->Prop}
  {R:Result->Shared->Prop}{σ':St}{s4:Shared}{m0:Nat} (hcalm:X.calm=true) (S:CS X.env.scope X.N x scope N') (hf:∀b∈fp,dC X pins H b) (ho:∀b∈fp,∃o,s.heap.get? b=some o) (hCd:C=(s.heap.push oD).objs.size)
  (T:Turn X.prog X.w X.K (.Name x px) J fp it tn) (I4:Inv (b7 X x scope C { s with heap:=s.heap.push oD } H (s.heap.objs.size::fp) N') [] (none::σ) H s4) (st4:tn 0 s4.heap) (hD4:s4.heap.get? s.heap.objs.size=some { cls:=.type "list",data:=.seq #[] 0 })
  (hDn:H s.heap.objs.size=none) (hte:PE (b7 X x scope C { s with heap:=s.heap.push oD } H (s.heap.objs.size::fp) N') elt te) (htt:PTs (b7 X x scope C { s with heap:=s.heap.push oD } H (s.heap.objs.size::fp) N') ifs tt)
  (w0:W 0 m0 [] H) (turn:lI σ J tt te W Dn)
  (hR:∀s1 H1 σ1 ys its n,Inv (b7 X x scope C { s with heap:=s.heap.push oD } H (s.heap.objs.size::fp) N') [] σ1 H1 s1->H1 s.heap.objs.size=none->Vals ys its->s1.heap.get? s.heap.objs.size=some { cls:=.type "list",data:=.seq its.toArray n }->ys.length<=sizeLine->Dn ys H1->R (.ok .next) s1) :
  codeAny (model X.prog X.w) X.A (.compLoop (.ListComp elt [⟨.Name x px,iter,ifs,0⟩] scope pos) 0 (.ref it) (.ref s.heap.objs.size) (compEnvC scope (cu X.env scope.names []) C X.env)) R s4:=by
 have hC:C=s.heap.objs.size+1:=by rw[hCd];exact Heap.size_push ..
 generalize hX:b7 X x scope C { s with heap:=s.heap.push oD } H (s.heap.objs.size::fp) N'=X' at *
 have xP:X'.prog=X.prog:=by rw[←hX]
 have xW:X'.w=X.w:=by rw[←hX]
 have xK:X'.K=X.K:=by rw[←hX]
 have xA:X'.A=X.A:=by rw[←hX]
 have xE:X'.env=compEnvC scope (cu X.env scope.names []) C X.env:=by rw[←hX]
 have xC:X'.calm=true:=by rw[←hX];exact hcalm
 have xex:X'.ex=s.heap.objs.size::fp:=by rw[←hX]
 have xpn:X'.pn=[]:=by rw[←hX]
 have xxe:X'.xe=fun _ _=>False:=by rw[←hX]
 have xN:X'.N=x::N':=by rw[←hX]
 have xL:X'.env.locals=C:=by rw[xE];rfl
 have xloc:X'.env.scope.names.lookup x=some .local:=by rw[xE];exact lookup_relabel_local S.hx
 have lt:∀b∈fp,b<s.heap.objs.size:=fun b hb=>let ⟨_,e⟩:=ho b hb;Heap.lt_size e
 have fpk:∀{pl:List (Addr×Obj)}{H':Hp},(∀p∈pl,p.1=s.heap.objs.size)->(∀b∈fp,H' b=none)->∀b∈fp,dC X' pl H' b:=fun {pl H'} hp hn b hb=>by
  have okk:=I4.ok
  have hm:b∈X'.ex:=by rw[xex];exact List.mem_cons_of_mem _ hb
  refine⟨hn b hb,(okk.exf b hm).1,okk.exfs b hm,.inl hm,(okk.exf b hm).2,fun p hpl z=>?_⟩;rw[xpn] at hpl;have q1:=hp p (by simpa using hpl);have q2:=lt b hb;rw[←z,q1] at q2;exact Nat.lt_irrefl _ q2
 have dok:∀{pl:List (Addr×Obj)}{H':Hp},(∀p∈pl,p.1∈fp)->H' s.heap.objs.size=none->dC X' pl H' s.heap.objs.size:=fun {pl H'} hp hn=>by
  have okk:=I4.ok
  have hm:s.heap.objs.size∈X'.ex:=by rw[xex];exact List.mem_cons_self
  refine⟨hn,(okk.exf _ hm).1,okk.exfs _ hm,.inl hm,(okk.exf _ hm).2,fun p hpl z=>?_⟩;rw[xpn] at hpl;have q2:=lt p.1 (hp p (by simpa using hpl));rw[z] at q2;exact Nat.lt_irrefl _ q2
 refine codeAny_compLoop_tests (I:=fun m s'=>∃i σx H' ys its n,Inv X' [] (σx::σ) H' s'/\tn i s'.heap/\(∀b∈fp,H' b=none)/\H' s.heap.objs.size=none/\Vals ys its/\s'.heap.get? s.heap.objs.size=some { cls:=.type "list",data:=.seq its.toArray n }/\W i m ys H') ?_ m0
  ⟨0,none,H,[],[],0,I4,st4,fun b hb=>(hf b hb).1,hDn,.nil,hD4,w0⟩
 rintro m s5 ⟨i,σx,H5,ys,its,n,I5,st5,fr5,d5,rv,e5,w5⟩
 have I5d:Inv X' ([]++fY [s.heap.objs.size] s5.heap) (σx::σ) H5 s5:=I5.pinned (fun b hb=>by
   have e:b=s.heap.objs.size:=by simpa using hb
   rw[e];exact dok (fun p hp=>absurd hp (by simp)) d5) fun b hb=>by
   have e:b=s.heap.objs.size:=by simpa using hb
   rw[e];exact⟨_,e5,fun v z=>by cases z⟩
 have pD:([]++fY [s.heap.objs.size] s5.heap:List (Addr×Obj))=[(s.heap.objs.size,{ cls:=.type "list",data:=.seq its.toArray n })]:=by
  simp[fY,e5]
 rw[pD] at I5d
 have p1:∀p∈[(s.heap.objs.size,({ cls:=.type "list",data:=.seq its.toArray n }:Obj))],p.1=s.heap.objs.size:=fun p hp=>by
  have e:p=(s.heap.objs.size,{ cls:=.type "list",data:=.seq its.toArray n }):=by simpa using hp
  rw[e]
 have hsz:its.length=ys.length:=rv.length.symm
 rcases turn i m ys H5 w5 with⟨stop,hz,dn⟩|⟨go,hz,N,hN,step⟩
 .have q:=T.done X' xP xW xK xC i _ s5 (σx::σ) H5 (notedBy (model X.prog X.w) X.A (compEnvC scope (cu X.env scope.names []) C X.env) fun e s'=>R (.error e) s') I5d (fpk p1 fr5) st5 stop
  rw[xA] at q;refine wpAny_mono q (fun r s6 z=>?_) fun _ _ z=>z;obtain⟨rfl,I6⟩:=z;refine hR s6 H5 (σx::σ) ys its n ?_ d5 rv (I6.pin _ (List.mem_append_right _ (List.mem_singleton.mpr rfl))).1 hz dn;exact I6.pins_of fun p hp=>absurd hp (by simp)
 .have q:=T.item X' xP xW xK xC i _ s5 (σx::σ) H5 (notedBy (model X.prog X.w) X.A (compEnvC scope (cu X.env scope.names []) C X.env) fun e s'=>R (.error e) s') I5d (fpk p1 fr5) st5 go
  rw[xA] at q;refine wpAny_mono q (fun r s6 z=>?_) fun _ _ z=>z;obtain⟨u,rfl,z⟩:=z;dsimp only;have z':wpAny (model X.prog X.w) X.A (pure ()) _ _ s6:=z;refine wpAny_bind (m:=pure ()) (f:=fun _=>assign (.Name x px) (compEnvC scope (cu X.env scope.names []) C X.env) u) (wpAny_mono z' (fun _ s7 z=>?_) fun _ _ z=>z);obtain⟨v,H7,I7,rv7,y7,st7,fr7⟩:=z;have I7p:=I7.pinned (fpk p1 fr7) (T.obj _ _ st7);rw[←xE]
  have nd:X'.N.Nodup:=by rw[xN];exact S.nd
  have hi0:X'.N[0]? = some x:=by rw[xN];rfl
  refine wpAny_assign_Name (mw (E:=notedBy (model X.prog X.w) X.A X'.env fun e s'=>R (.error e) s') (i:=0) I7p nd hi0 (.inl xloc) rv7 (fun s8 I8=>?_) (.inr xloc));have I8':Inv X' _ (some v::σ) H7 s8:=I8;have t8:=htt _ s8 (some v::σ) H7 _ (notedBy (model X.prog X.w) X.A X'.env fun e s'=>R (.error e) s') I8' (step v H7 y7);rw[xP,xW,xA] at t8;refine wpAny_mono t8 (fun ok s9 z=>?_) fun _ _ z=>z;obtain⟨H9,I9,q9⟩:=z
  have back:∀{s':Shared}{H':Hp}{σ2:St},Inv X' ([(s.heap.objs.size,({ cls:=.type "list",data:=.seq its.toArray n }:Obj))]++fY fp s7.heap) σ2 H' s' ->
    tn (i+1) s'.heap/\(∀b∈fp,H' b=none)/\H' s.heap.objs.size=none/\s'.heap.get? s.heap.objs.size=some { cls:=.type "list",data:=.seq its.toArray n }/\Inv X' [] σ2 H' s':=fun {s' H' σ2} I'=>by
   refine⟨T.keep _ _ _ st7 fun b hb o e=>(I'.pin (b,o) (List.mem_append_right _ (List.mem_append_right _ (j8 hb e)))).1,fun b hb=>?_,?_,?_,I'.pins_of fun p hp=>absurd hp (by simp)⟩
   .obtain⟨o,e,_⟩:=T.obj _ _ st7 b hb
    exact(I'.pin (b,o) (List.mem_append_right _ (List.mem_append_right _ (j8 hb e)))).2.1
   .exact(I'.pin (s.heap.objs.size,_) (List.mem_append_right _ (List.mem_append_left _ (List.mem_singleton.mpr rfl)))).2.1
   .exact(I'.pin (s.heap.objs.size,_) (List.mem_append_right _ (List.mem_append_left _ (List.mem_singleton.mpr rfl)))).1
  cases ok with
  |false=>
   simp only[Bool.false_eq_true,if_false] at q9 ⊢;obtain⟨m',hm,w9⟩:=hN _ _ q9;obtain⟨a1,a2,a3,a4,a5⟩:=back I9;exact⟨m',hm,i+1,some v,H9,ys,its,n,a5,a1,a2,a3,rv,a4,w9⟩
  |true=>
   simp only[if_true] at q9 ⊢;have t9:=hte _ s9 (some v::σ) H9 _ I9 q9;rw[xP,xW,xA,xxe] at t9;refine wpAny_mono t9 (fun u2 s10 z=>?_) fun _ _ z=>z.elim;obtain⟨y,H10,I10,r10,q10⟩:=z;obtain⟨m',hm,w10⟩:=hN _ _ q10;obtain⟨a1,a2,a3,a4,a5⟩:=back I10;refine wpAny_list_append_plain ⟨n,a4⟩ (fun h' pl sb=>?_) (by rw[List.size_toArray];omega);obtain⟨n',e'⟩:=pl;have D0:=dok (pl:=[]) (fun p hp=>absurd hp (by simp)) a3;refine⟨m',hm,i+1,some v,H10,ys++[y],its++[u2],n',a5.turned (t':=s10.toks) (fun b o hb e=>(sb.2 b hb).trans e) D0.1 D0.2.1 D0.2.2.2.1 D0.2.2.2.2.1 D0.2.2.2.2.2,?_,a2,a3,rv.append (.cons r10 .nil),by simpa using e',w10⟩;exact T.keep _ _ _ a1 fun b hb o e=>(sb.2 b (Nat.ne_of_lt (lt b hb))).trans e
end
section
variable {X:Cx}{x:Str}{scope:Scope}{N':List Str}{elt iter:Expr}{ifs:List Expr}{px pos:Pos}{wi:TI}{te:TE}{tt:TT}
def vp(wi:TI)(tt:TT)(te:TE):TE:=fun σ H Q=>wi σ H fun J H1=>∃W:Nat->Nat->List V->Hp->Prop,(∃m,W 0 m [] H1)/\lI σ J tt te W fun ys H=>∀p,H p=none->Q (.ref p) (upd H p (.lst ys))
theorem BS(hc:X.calm=true)(S:CS X.env.scope X.N x scope N')(hi:PI X (.Name x px) iter wi)(he:∀C s0 H0 ex,PE (b7 X x scope C s0 H0 ex N') elt te)
  (ht:∀C s0 H0 ex,PTs (b7 X x scope C s0 H0 ex N') ifs tt) (hs:∀v,foldedSetIterable iter X.env v=pure v:=by intro _;rfl):PE X (.ListComp elt [⟨.Name x px,iter,ifs,0⟩] scope pos) (vp wi tt te):=by
 intro pins s σ H Q I h;rw[eval_ListComp];refine wpAny_comprehension_free (use:=none) rfl hs (qI (mI I S)) S.kind S.names (thn (hi pins s σ H _ I h) fun v s1 h1=>thn h1 fun itv s2 h2=>?_);obtain⟨it,fp,tn,J,H2,rfl,I2,T,st2,f2,W,⟨m0,w0⟩,turn⟩:=h2
 have ho:∀b∈fp,∃o,s2.heap.get? b=some o:=fun b hb=>let ⟨o,e,_⟩:=T.obj _ _ st2 b hb;⟨o,e⟩
 refine wpAny_newObj_type (wpAny_newFunctionEnv S.nocell (by intro y hy;simp at hy) (fun h' hns hsb=>?_) S.kind);have I4:=qG (x:=x) (scope:=scope) (tk:=s2.toks+([]:List (Str×Value)).length) I2 S f2 ho hns hsb
 have up3:∀b o,(s2.heap.push { cls:=.type "list",dict:=none,data:=.seq ([]:List Value).toArray }).get? b=some o->h'.get? b=some o:=fun b o e=>
  (hsb.2 b (Nat.ne_of_lt (Heap.lt_size e))).trans (Heap.get?_push_of_some _ e)
 have st4:tn 0 h':=T.keep _ _ _ st2 fun b _ o e=>up3 b o (Heap.get?_push_of_some _ e)
 have loop:=rC (elt:=elt) (iter:=iter) (ifs:=ifs) (pos:=pos) (R:=compPost (model X.prog X.w) X.A X.xe none (EP X pins σ Q) (.ref s2.heap.objs.size) (s2.heap.push { cls:=.type "list",dict:=none,data:=.seq ([]:List Value).toArray }).objs.size) (σ':=σ)
  hc S f2 ho rfl T I4 st4 (up3 _ _ (Heap.get?_push_size _ rfl)) (I2.hok.fresh (Nat.le_refl _)) (he _ _ _ _) (ht _ _ _ _) w0 turn fun s5 H5 σ5 ys its n J5 d5 rv e5 hz dn=>by
   obtain⟨m,hn,_⟩:=J5.loc;exact⟨m,hn,fun h'' sb=>⟨.ref s2.heap.objs.size,_,qF I2 f2 rfl J5 sb d5 ⟨its,n,rv,e5⟩ hz,rfl,dn _ d5⟩⟩
 exact codeAny_compStart_list loop (T.self X.A 0 _ _ _ st4 loop)
def EQ(i:Nat)(wi:TI)(tt:TT)(te:TE):TS:=fun D σ H=>wi σ H fun J H1=>∃W:Nat->Nat->List V->Hp->Prop,(∃m,W 0 m [] H1)/\lI σ J tt te W fun ys H=>∀p,H p=none->D.nx (σ.set i (some (.ref p))) (upd H p (.lst ys))
theorem BH{i:Nat}{y:Str}{py spos:Pos}(hc:X.calm=true)(S:CS X.env.scope X.N x scope N')(hN:X.N.Nodup)(hi':X.N[i]? = some y)(hy:Loc X.env.scope y)(hf':X.fn y=true\/X.env.scope.names.lookup y=some .local)
  (hi:PI X (.Name x px) iter wi) (he:∀C s0 H0 ex,PE (b7 X x scope C s0 H0 ex N') elt te)
  (ht:∀C s0 H0 ex,PTs (b7 X x scope C s0 H0 ex N') ifs tt) (hsw:swapsWith (.ListComp elt [⟨.Name x px,iter,ifs,0⟩] scope pos) (some (.Name y py)) spos.line X.env=pure true) (hs:∀v,foldedSetIterable iter X.env v=pure v:=by intro _;rfl) :
  PS X (.Assign [.Name y py] (.ListComp elt [⟨.Name x px,iter,ifs,0⟩] scope pos) spos) (EQ i wi tt te):=by
 intro pins s σ H D I h;rw[exec_Assign_Name_used _ _ _ _ hsw];refine wpAny_bind (wpAny_standAt (wpAny_bind ?_));show wpAny _ _ (do let _ ←comprehension (.ListComp elt [⟨.Name x px,iter,ifs,0⟩] scope pos) scope X.env _ (newList []) false (eval iter X.env) (some (assign (.Name y py) X.env))) _ _ s;refine wpAny_bind (wpAny_mono (wpAny_comprehension_free (use:=some (assign (.Name y py) X.env)) (Q:=fun _ s'=>SP X pins D .next s') rfl hs (qI (mI I S)) S.kind S.names (thn (hi pins s σ H _ I h) fun v s1 h1=>thn h1 fun itv s2 h2=>?_)) (fun _ _ q=>wpAny_pure (wpAny_pure q)) fun _ _ q=>q);obtain⟨it,fp,tn,J,H2,rfl,I2,T,st2,f2,W,⟨m0,w0⟩,turn⟩:=h2
 have ho:∀b∈fp,∃o,s2.heap.get? b=some o:=fun b hb=>let ⟨o,e,_⟩:=T.obj _ _ st2 b hb;⟨o,e⟩
 refine wpAny_newObj_type (wpAny_newFunctionEnv S.nocell (by intro y hy;simp at hy) (fun h' hns hsb=>?_) S.kind);have I4:=qG (x:=x) (scope:=scope) (tk:=s2.toks+([]:List (Str×Value)).length) I2 S f2 ho hns hsb
 have up3:∀b o,(s2.heap.push { cls:=.type "list",dict:=none,data:=.seq ([]:List Value).toArray }).get? b=some o->h'.get? b=some o:=fun b o e=>
  (hsb.2 b (Nat.ne_of_lt (Heap.lt_size e))).trans (Heap.get?_push_of_some _ e)
 have st4:tn 0 h':=T.keep _ _ _ st2 fun b _ o e=>up3 b o (Heap.get?_push_of_some _ e)
 have hCs:s2.heap.objs.size<=(s2.heap.push { cls:=.type "list",dict:=none,data:=.seq ([]:List Value).toArray }).objs.size:=by rw[Heap.size_push];omega
 have hDC:(s2.heap.push { cls:=.type "list",dict:=none,data:=.seq ([]:List Value).toArray }).objs.size≠s2.heap.objs.size:=by rw[Heap.size_push];omega
 have loop:=rC (elt:=elt) (iter:=iter) (ifs:=ifs) (pos:=pos) (R:=compPost (model X.prog X.w) X.A X.xe (some (assign (.Name y py) X.env)) (fun _ s'=>SP X pins D .next s') (.ref s2.heap.objs.size) (s2.heap.push { cls:=.type "list",dict:=none,data:=.seq ([]:List Value).toArray }).objs.size) (σ':=σ)
  hc S f2 ho rfl T I4 st4 (up3 _ _ (Heap.get?_push_size _ rfl)) (I2.hok.fresh (Nat.le_refl _)) (he _ _ _ _) (ht _ _ _ _) w0 turn fun s5 H5 σ5 ys its n J5 d5 rv e5 hz dn=>by
   have J6:=qF I2 f2 rfl J5 (Heap.SameBut.refl _ _) d5 ⟨its,n,rv,e5⟩ hz;obtain⟨m,hn,_⟩:=J5.loc;refine wpAny_assign_Name (qS (u:=.ref s2.heap.objs.size) J6 hN hi' hy (show RelV (.ref s2.heap.objs.size) _ from rfl) (fun s7 I7 ⟨a,sb,ha⟩=>?_) hf')
   have hCa:(s2.heap.push { cls:=.type "list",dict:=none,data:=.seq ([]:List Value).toArray }).objs.size≠a:=by
    rcases ha with z|z
    .rw[z]
     exact Nat.ne_of_gt (Nat.lt_of_lt_of_le I2.lt hCs)
    .obtain⟨v,q⟩:=I2.cell _ _ z
     exact Nat.ne_of_gt (Nat.lt_of_lt_of_le q.lt hCs)
   have hn5:H5 (s2.heap.push { cls:=.type "list",dict:=none,data:=.seq ([]:List Value).toArray }).objs.size=none:=J5.free;have fk:=I2.fpOk (b:=(s2.heap.push { cls:=.type "list",dict:=none,data:=.seq ([]:List Value).toArray }).objs.size) (H':=upd H5 s2.heap.objs.size (.lst ys)) hCs (by rw[aQ hDC];exact hn5);refine⟨m,hn.sameBut sb hCa,fun h'' sb2=>⟨_,_,I7.turned (t':=s7.toks) (fun b o hb e=>(sb2.2 b hb).trans e) fk.1 fk.2.1 fk.2.2.2.1 fk.2.2.2.2.1 fk.2.2.2.2.2,dn _ d5⟩⟩
 exact codeAny_compStart_list loop (T.self X.A 0 _ _ _ st4 loop)
end
section
variable {σ:St}{tt:TT}{te:TE}
end
def Its(z:Str):It:=⟨fun i _=>i<z.cps.size,fun i H v H'=>H'=H/\∃c,z.cps[i]? = some c/\v=.str ⟨#[c]⟩,fun i _=>z.cps.size<=i⟩
theorem rP{P:Program}{w:World}{K:Frag}{tg:Expr}(z:Str)(t:Tok)(ty:String)(it:Addr)(hty:ty="str_ascii_iterator"\/ty="str_iterator") :
  Turn P w K tg (Its z) [it] it (fun i h=>h.IsStrIter it ty z t i) where
 mem:=by simp
 obj:=fun i h st b hb=>by
  have e:b=it:=by simpa using hb
  subst e;obtain⟨o,e,c,d⟩:=st;exact⟨o,e,fun v q=>by rw[d] at q;cases q⟩
 keep:=fun i h h' st k=>let ⟨o,e,r⟩:=st;⟨o,k it (by simp) o e,r⟩
 item:=by
  intro X hP hw hK hc i pins s σ H E I hf st hg;subst hP hw hK;have hi:i<z.cps.size:=hg;obtain⟨f0,f1,f2,f3,f4,f5⟩:=hf it (by simp)
  have fin:∀h',h'.IsStrIter it ty z t (i+1)->Heap.SameBut it s.heap h'->∃u,(some (Value.str ⟨#[z.cps[i]]⟩ s.toks):Option Value)=some u /\
    wpAny (model X.prog X.w) X.A (letOwnedTupleGo tg (.ref it) u) (fun _ s2=>∃x H',Inv X pins σ H' s2/\RelV x u/\(Its z).yld i H x H'/\s2.heap.IsStrIter it ty z t (i+1)/\∀b∈[it],H' b=none) E { s with heap:=h',toks:=s.toks+1 }:=fun h' st' sb=>by
   have I1:Inv X pins σ H { s with heap:=h',toks:=s.toks+1 }:=I.turned (fun b o hb e=>(sb.2 b hb).trans e) f0 f1 f3 f4 f5;obtain⟨o,e,c,d⟩:=id st';refine⟨_,rfl,jL (s:={ s with heap:=h',toks:=s.toks+1 }) (n:=ty) e c d ?_ ⟨.str ⟨#[z.cps[i]]⟩,H,I1,⟨_,rfl⟩,⟨rfl,z.cps[i],by simp[hi],rfl⟩,st',fun b hb=>(hf b hb).1⟩⟩
   rcases hty with e|e <;> (rw[e];decide)
  rcases hty with e|e
  .subst e
   exact wpAny_pyNext_ascii_item st (c:=z.cps[i]) (by simp[hi]) fin
  .subst e
   exact wpAny_pyNext_wide_item st (c:=z.cps[i]) (by simp[hi]) fin
 done:=by
  intro X hP hw hK hc i pins s σ H E I hf st hg;subst hP hw hK;have hi:z.cps.size<=i:=hg;obtain⟨f0,f1,f2,f3,f4,f5⟩:=hf it (by simp);have fin:∀h',Heap.ExtBut it s.heap h'->(none:Option Value)=none/\Inv X pins σ H { s with heap:=h' }:=fun h' eb=>⟨rfl,I.turned (t':=s.toks) (fun b o hb e=>eb b o hb e) f0 f1 f3 f4 f5⟩
  rcases hty with e|e
  .subst e
   exact wpAny_pyNext_ascii_end (I.ok.hd hc) st (by simp;omega) fin
  .subst e
   exact wpAny_pyNext_wide_end (I.ok.hd hc) st (by simp;omega) fin
 self:=fun _ _ _ _ _ st h=>by
  rcases hty with e|e
  .subst e
   exact wpAny_pyIter_striter_ascii st h
  .subst e
   exact wpAny_pyIter_striter_wide st h
section
variable {X:Cx}{tg:Expr}
end
theorem all_range(bs:List Bool)(n:Nat)(hn:n=bs.length):(List.range n).all (fun i=>bs.getD i false)=bs.all id:=by
 subst hn;rw[Bool.eq_iff_iff,List.all_eq_true,List.all_eq_true];constructor
 .intro h b hb
  obtain⟨i,hi,rfl⟩:=List.getElem_of_mem hb;have:=h i (List.mem_range.mpr hi);simpa[List.getD,hi] using this
 .intro h i hi
  have hi':=List.mem_range.mp hi;have:=h bs[i] (List.getElem_mem hi');simpa[List.getD,hi'] using this
theorem qt:∀(ns:List Int) (k:Nat),k<=ns.length->preSum (fun i=>ns.getD i 0) k=(ns.take k).sum
 |ns,0,_=>by simp[preSum]
 |ns,k+1,h=>by
  have hk:k<ns.length:=h;have ih:=qt ns k (Nat.le_of_lt hk)
  have e:(ns.take (k+1)).sum=(ns.take k).sum+ns.getD k 0:=by
   rw[List.take_add_one,List.sum_append];simp[List.getD,hk]
  rw[e,←ih];rfl
section
variable {X:Cx}
theorem Bb(hc:X.calm=true):CallR X (.builtin "all") (fun xs H Q=>∃(p:Addr) (bs:List Bool),xs=[.ref p]/\SqL X.K H p (bs.map V.bl)/\Q (.bl (bs.all id)) H):=by
 intro pins s σ H xs us Q I r h;obtain⟨p,bs,rfl,hq,q⟩:=h;obtain⟨u,rfl,ru⟩:=vals1 r;cases ru;obtain⟨its,rv,pl,hz⟩:=I.list hq
 have hlen:its.length=bs.length:=by have:=rv.length;simpa using this.symm
 have hlt:p<s.heap.objs.size:=by
  obtain⟨o,n,e,_⟩:=pl;exact Heap.lt_size e
 refine call_all_walk (wpAny_pyIter_list pl.isList ?_);refine⟨s.heap.objs.size,_,_,_,_,_,fun i=>bs.getD i false,rfl,Walks.list (A:=X.A.in1) (I.ok.hd hc) _ p (Nat.ne_of_lt hlt) its.toArray,⟨⟨_,Heap.get?_push_size _ rfl,rfl,rfl⟩,?_⟩,fun i v s' Q' E' hv hQ'=>?_,fun h' tk hk=>?_⟩
 .obtain⟨o,n,e,r⟩:=pl.isList
  exact⟨o,Heap.get?_push_of_some _ n,e,r⟩
 .have hi:i<its.length:=by
   have:=(Array.getElem?_eq_some_iff.mp hv).1;simpa using this
  have hi2:i<bs.length:=by omega
  obtain⟨u,hu,ru⟩:=rv.get (i:=i) (x:=.bl bs[i]) (by simp[hi2])
  have e:v=u:=by
   have hv':its[i]? = some v:=by simpa using hv
   rw[hu] at hv';exact(Option.some.inj hv').symm
  subst e;cases (show v=Value.bool bs[i] from ru);refine wpAny_truthy_bool ?_
  have e:bs[i]=bs.getD i false:=by simp[List.getD,hi2]
  rw[e];exact hQ'
 .have e:(List.range its.toArray.size).all (fun i=>bs.getD i false)=bs.all id:=all_range bs _ (by simpa using hlen)
  rw[e];exact⟨.bl _,H,I.kept (t':=tk) fun b o q=>hk b o (by simp;exact Nat.ne_of_lt (Heap.lt_size q)) (Heap.get?_push_of_some _ q),rfl,q⟩
theorem B9{ns:List Int}{its:List Value}(rv:Vals (ns.map V.int) its){i:Nat}{v:Value}(hv:its.toArray[i]? = some v):∃t,v=.int (ns.getD i 0) t:=by
 have hlen:its.length=ns.length:=by have:=rv.length;simpa using this.symm
 have hi:i<its.length:=by
  have:=(Array.getElem?_eq_some_iff.mp hv).1;simpa using this
 have hi2:i<ns.length:=by omega
 obtain⟨u,hu,ru⟩:=rv.get (i:=i) (x:=.int ns[i]) (by simp[hi2])
 have e:v=u:=by
  have hv':its[i]? = some v:=by simpa using hv
  rw[hu] at hv';exact(Option.some.inj hv').symm
 subst e;obtain⟨t,e⟩:=(show ∃t,v=Value.int ns[i] t from ru);refine⟨t,?_⟩;rw[e];simp[List.getD,hi2]
theorem A8(hc:X.calm=true):CallR X (.builtin "sum") (fun xs H Q=>∃(p:Addr) (ns:List Int),xs=[.ref p]/\SqL X.K H p (ns.map V.int)/\Q (.int ns.sum) H):=by
 intro pins s σ H xs us Q I r h;obtain⟨p,ns,rfl,hq,q⟩:=h;obtain⟨u,rfl,ru⟩:=vals1 r;cases ru;obtain⟨its,rv,pl,hz⟩:=I.list hq
 have hlen:its.length=ns.length:=by have:=rv.length;simpa using this.symm
 have hlt:p<s.heap.objs.size:=by
  obtain⟨o,n,e,_⟩:=pl;exact Heap.lt_size e
 refine call_sum_walkG (wpAny_pyIter_list pl.isList ?_);refine⟨s.heap.objs.size,_,_,_,_,_,fun i=>ns.getD i 0,rfl,Walks.list (A:=X.A.in1) (I.ok.hd hc) _ p (Nat.ne_of_lt hlt) its.toArray,⟨⟨_,Heap.get?_push_size _ rfl,rfl,rfl⟩,?_⟩,fun b hb=>?_,fun i v hv=>B9 rv hv,fun h' tk t' hk=>?_⟩
 .obtain⟨o,n,e,r⟩:=pl.isList
  exact⟨o,Heap.get?_push_of_some _ n,e,r⟩
 .rw[Heap.size_push]
  rcases(by simpa using hb:b=s.heap.objs.size\/b=p) with e|e
  .rw[e];exact Nat.lt_succ_self _
  .rw[e];exact Nat.lt_succ_of_lt hlt
 .have e:preSum (fun i=>ns.getD i 0) its.toArray.size=ns.sum:=by
   rw[qt ns _ (by simp;omega)];rw[List.take_of_length_le (by simp;omega)]
  rw[e];exact⟨.int _,H,I.kept (t':=tk) fun b o q=>hk b o (by simp;exact Nat.ne_of_lt (Heap.lt_size q)) (Heap.get?_push_of_some _ q),⟨t',rfl⟩,q⟩
end
open K1 (jk iS)
section
variable {prog:Program}{w:World}{A:Around}{R:Result->Shared->Prop}{it S:Addr}{fp wr:List Addr}{P:Nat->Value->Prop}{St:Nat->Heap->Prop}{ns:List Int}{kw:List (Str×Value)}
end
section
variable {X:Cx}
end
section
variable {X:Cx}{e ed:Expr}{te td:TE}{p pos kpos:Pos}
end
section
variable {X:Cx}
theorem zh:OpR X (compareOp .IsNot) (fun x y H Q=>∃b c,x=.bl b/\y=.bl c/\Q (.bl (b != c)) H):=by
 intro pins s σ H x y v u Q I rx ry h;obtain⟨b,c,rfl,rfl,q⟩:=h;cases rx;cases ry;exact isnot_bool ⟨.bl (b != c),H,I,rfl,q⟩
theorem op_catG:OpR X (binaryOp .Add) (fun x y H Q=>∃a b xs ys,x=.ref a/\y=.ref b/\SqT X.K H a xs/\SqT X.K H b ys/\xs.length+ys.length<=sizeLine /\
  (xs=[]->Q (.ref b) H)/\(xs≠[]->ys=[]->Q (.ref a) H)/\(xs≠[]->ys≠[]->∀p,H p=none->Q (.ref p) (upd H p (.tup (xs++ys))))):=by
 intro pins s σ H x y v u Q I rx ry h;obtain⟨a,b,xs,ys,rfl,rfl,ha,hb,hz,q0,q1,q2⟩:=h
 by_cases hx:xs=[]
 .cases rx
  cases ry;obtain⟨its,r1,p1,_⟩:=I.tuple ha;obtain⟨its2,r2,p2,_⟩:=I.tuple hb;have hv:its=[]:=r1.nil_iff.mpr hx;obtain⟨⟨cls,dd,data,sl⟩,ho,hc,n,hd⟩:=id p1;obtain⟨⟨cls2,dd2,data2,sl2⟩,ho2,hc2,n2,hd2⟩:=id p2;simp only at hc hd hc2 hd2;subst hc hd hc2 hd2
  exact concat_meets ⟨_,ho,rfl⟩ ⟨_,ho2,rfl⟩ noFill_tuple_add seq_tuple_add PySem.F.slot_tuple_add PySem.F.entry_tuple_add (PySem.F.args_tuple_add_2 _ _)
   (tuple_addW0 a b its.toArray its2.toArray n n2 dd dd2 sl sl2 (by simp[hv])) ⟨ho,ho2,⟨.ref b,H,I,rfl,q0 hx⟩⟩
 .exact BY pins s σ H _ _ v u Q I rx ry ⟨a,b,xs,ys,rfl,rfl,ha,hb,hx,hz,q1 hx,q2 hx⟩
theorem Da:SlR X (fun x lo hi H Q=>∃z:Str,x=.str z/\z.length<=sizeLine/\Q (.str (Txt.slice z lo hi)) H):=by
 intro pins s σ H x v vl vu lo hi sl Q I rx hs pl pu h;obtain⟨z,rfl,hz,q⟩:=h;obtain⟨t,rfl⟩:=rx
 have fin:∀l u:Option (Int×Tok),l.map (·.1)=lo->u.map (·.1)=hi->s.heap.IsSlice sl l u none->wpAny (model X.prog X.w) X.A (getItem (.str z t) (.ref sl)) (EP X pins σ Q) X.xe s:=fun l u el eu h=>by
  refine wpAny_getItem_str_slice h rfl ?_;refine post_val_or_made (fun _=>?_) fun t' k=>?_
  .have:=sliceIndices_le (l.map (·.1)) (u.map (·.1)) z.length
   have e:=List.length_filterMap_le (fun i=>z.cps[i]?) (slicePicked z l u none);show ((slicePicked z l u none).filterMap (z.cps[·]?)).toArray.size<=sizeLine;rw[List.size_toArray];unfold slicePicked at e ⊢;simp only[Option.map_none,Option.getD_none] at e ⊢;omega
  .refine⟨.str (Txt.slice z lo hi),H,I.tok _,⟨t',?_⟩,q⟩
   rw[←el,←eu];rfl
 refine⟨"str",_,PySem.F.slot_str_getitem.lookup,typeIs_str s z t,?_⟩
 cases pl with
 |none=>
  cases pu with
  |none=>exact fin none none rfl rfl hs
  |int j u=>exact fin none (some (j,u)) rfl rfl hs
 |int i u=>
  cases pu with
  |none=>exact fin (some (i,u)) none rfl rfl hs
  |int j u'=>exact fin (some (i,u)) (some (j,u')) rfl rfl hs
theorem op_mulS:OpR X (binaryOp .Mult) (fun x y H Q=>∃z k,x=.str z/\y=.int k/\0<=k/\k<=2000/\z.length<=1000/\Q (.str (Txt.mul z k)) H):=by
 intro pins s σ H x y v u Q I rx ry h;obtain⟨z,k,rfl,rfl,h1,h2,h3,q⟩:=h;obtain⟨t,rfl⟩:=rx;obtain⟨t',rfl⟩:=ry;have hm:z.length*k.toNat<=1000*2000:=Nat.mul_le_mul h3 (by omega);refine SB.mul ⟨?_,fun g1 g2=>?_,fun g1 g2=>?_⟩ fun t' k'=>⟨.str _,H,I.tok _,⟨t',rfl⟩,q⟩
 .simp;omega
 .have hk:1<=k:=by simp at g1;omega
  have e1:(1000:Int)<=(2^63-1) / k:=by
   rw[Int.le_ediv_iff_mul_le (by omega)];omega
  omega
 .unfold Builtin.Str.tooLong
  simp[sizeLine];omega
end
theorem yp{ys:List Str}:∀{us:List Value},Vals (ys.map V.str) us->StrsAre us ys:=by
 induction ys with
 |nil=>intro us r;rw[List.map_nil] at r;cases r;exact .nil
 |cons y ys ih=>
  intro us r;rw[List.map_cons] at r
  cases r with
  |cons r1 r2=>
   obtain⟨t,e⟩:=r1;subst e;exact .cons y t (ih r2)
section
variable {X:Cx}
end
structure Fn(P:Program)(w:World)(K:Frag)(mg:Str->Option Value)(base:Heap)(name:Str)(ps:List Str)(k:Nat)(sp:Sp):Prop where
 ex:∃f fd,FnOk P w K mg base CX0 k f fd ps sp/\Binds K fd ps []/\PySem.W.keepIn K (.ref f)=true/\mg name=some (.ref f)
section
variable {X:Cx}{name:Str}{ps:List Str}{k:Nat}{sp:Sp}{e:Expr}{es:List Expr}{t:TA}{p pos:Pos}
theorem oy(F:Fn X.prog X.w X.K X.mg X.base name ps k sp)(hr:Room k X.A)(hg:Gl X name)(ha:PA X (e::es) t)(hdb:(name == ("__debug__" : Str))=false:=by decide)
  (he:starEach (e::es) X.env=(false,eval e X.env)::starEach es X.env:=by rfl) (hpl:(backTo pos (starEach es X.env)).any (·.1)=false:=by rfl):PE X (.Call (.Name name p) (e::es) [] pos) (vq sp [] E0 t):=by
 obtain⟨f,fd,h1,h2,h3,h4⟩:=F.ex;exact BV h1 hr hg h4 h3 h2 .nil E5 ha hdb he hpl
end
theorem Aq{X:Cx}{x:Str}{scope osc:Scope}{N N':List Str}{elt iter:Expr}{ifs:List Expr}{px pos:Pos}{wi:TI}{te:TE}{tt:TT}(S:CS osc N x scope N')(hi:PI X (.Name x px) iter wi)
  (he:∀C s0 H0 ex,PE (b7 X x scope C s0 H0 ex N') elt te) (ht:∀C s0 H0 ex,PTs (b7 X x scope C s0 H0 ex N') ifs tt) (hc:X.calm=true:=by rfl) (hs:X.env.scope=osc:=by rfl) (hN:X.N=N:=by rfl)
  (hf:∀v,foldedSetIterable iter X.env v=pure v:=by intro _;rfl):PE X (.ListComp elt [⟨.Name x px,iter,ifs,0⟩] scope pos) (vp wi tt te):=by
 subst hs hN;exact BS hc S hi he ht hf
end L2
namespace D
open PySem PySem.Spec PyProof.Rows L2
inductive Gh(P:Hp->Prop):Hp->Prop where
 |done {H:Hp}:P H->Gh P H
 |frz {H:Hp}{a:Addr}{kvs:List (Key×V)}:H a=some (.dK kvs)->(∀o,Gh P (upd H a (.frz o (.dK kvs))))->Gh P H
theorem Gh.imp{P P':Hp->Prop}{H:Hp}(g:Gh P H)(i:∀H,P H->P' H):Gh P' H:=by
 induction g with
 |done h=>exact .done (i _ h)
 |frz e _ ih=>exact .frz e ih
section
variable {X:Cx}{pins:List (Addr×Obj)}{σ:L2.St}{H:Hp}{s:Shared}
theorem tS(I:Inv X pins σ H s){a:Addr}{kvs:List (Key×V)}(e:H a=some (.dK kvs)):∃o,Inv X pins σ (upd H a (.frz o (.dK kvs))) s:=by
 obtain⟨z,y,vs,kv,o,es,ep,eo,r⟩:=I.hok a _ e
 have U:∀{b:Addr}{u:HO},H b=some u->(∀ks,u≠.dK ks)->upd H a (.frz o (.dK kvs)) b=some u:=fun {b u} q n=>by
  rw[aQ (fun z=>by subst z;rw[e] at q;cases q;exact n _ rfl)];exact q
 have hok:HOk X.prog X.w (upd H a (.frz o (.dK kvs))) s.heap:=fun b u q=>by
  by_cases hb:b=a
  .subst hb
   rw[bG] at q;cases q;exact⟨eo,(I.hok b _ e).stay (fun _ _ _ q=>q) (fun c q=>U q (fun _ z=>nomatch z)) fun c xs q=>U q (fun _ z=>nomatch z)⟩
  .rw[aQ hb] at q
   exact(I.hok b u q).stay (fun _ _ _ q=>q) (fun c q=>U q (fun _ z=>nomatch z)) fun c xs q=>U q (fun _ z=>nomatch z)
 exact⟨o,I.un (h':=s.heap) (t':=s.toks) ⟨fun b ob q n _ _=>q,fun b ob q n _ _=>⟨_,q⟩,fun b ob q n _=>by rw[aQ (fun z=>by subst z;rw[e] at n;cases n)];exact n,fun b ob q _=>⟨_,q⟩,fun b xs q=>U q (fun _ z=>nomatch z),
  fun b ob u q=>U q (fun _ z=>nomatch z),fun b ps q=>⟨#[],by rw[U q (fun _ z=>nomatch z)];simp⟩⟩ hok⟩
theorem Gh.ok{P:Hp->Prop}(g:Gh P H)(I:Inv X pins σ H s):∃H',Inv X pins σ H' s/\P H':=by
 induction g with
 |done h=>exact⟨_,I,h⟩
 |frz e _ ih=>
  obtain⟨o,I'⟩:=tS I e;exact ih o I'
end
section
variable {X:Cx}
theorem EY{st:Stmt}{t:TS}(h:PS X st t):PS X st (fun D σ H=>Gh (t D σ) H):=fun pins s σ H D I q=>by
 obtain⟨H',I',q'⟩:=q.ok I;exact h pins s σ H' D I' q'
end
def gm(o:Obj):Nat:=match o.data with
 |.dict _ ep=>ep
 |_=>0
def Itd(a:Addr)(o:Obj)(kvs:List (Key×V)):It:=⟨fun i H=>H a=some (.frz o (.dK kvs))/\i<kvs.length,fun i H x H'=>H'=H/\∃k v,kvs[i]? = some (k,v)/\x=kV k,fun i H=>H a=some (.frz o (.dK kvs))/\i=kvs.length⟩
theorem gz{P:Program}{w:World}{H:Hp}{h:Heap}{a:Addr}{o:Obj}{kvs:List (Key×V)}(ok:HOk P w H h)(e:H a=some (.frz o (.dK kvs))):kvs.length<=sizeLine/\(a == sysModules)=false/\∃vs,KV kvs vs/\h.DictAt (bF P w) a vs (gm o):=by
 obtain⟨e1,z,y,vs,kv,o',es,ep,e2,ed,dd,r⟩:=ok a _ e;rw[e1] at e2;cases e2;refine⟨z,y,vs,kv,o,es,e1,ed,?_,r⟩;unfold gm;rw[dd]
theorem keyV{P:Program}{w:World}{k:Key}{v:Value}(e:(bF P w).is k v=true):RelV (kV k) v:=by
 rcases dG (show ej k v=true from e) with⟨i,t,rfl,rfl⟩|⟨x,t,rfl,rfl⟩
 .exact⟨t,rfl⟩
 .exact⟨t,rfl⟩
theorem Fq{kvs:List (Key×V)}{vs:List (Key×Value)}(r:KV kvs vs){i:Nat}{k:Key}{x:Value}(e:vs[i]? = some (k,x)):∃v,kvs[i]? = some (k,v):=by
 have h:=r.keys
 have h1:(vs.map (·.1))[i]? = some k:=by rw[List.getElem?_map,e];rfl
 rw[←h,List.getElem?_map] at h1
 cases q:kvs[i]? with
 |none=>rw[q] at h1;cases h1
 |some p=>
  rw[q] at h1;cases h1;exact⟨p.2,rfl⟩
theorem y3{P:Program}{w:World}{K:Frag}{tg:Expr}(a it:Addr)(o:Obj)(kvs:List (Key×V)):Turn P w K tg (Itd a o kvs) [it] it (fun i h=>h.IsKeyIter it a i kvs.length (gm o)) where
 mem:=by simp
 obj:=fun i h st b hb=>by
  have e:b=it:=by simpa using hb
  subst e;obtain⟨o,e,c,d⟩:=st;exact⟨o,e,fun v z=>by rw[d] at z;cases z⟩
 keep:=fun i h h' st k=>st.at fun o e=>k it (by simp) o e
 item:=by
  intro X hP hw hK hc i pins s σ H E I hf st hg;subst hP hw hK;obtain⟨hg1,hg2⟩:=hg;obtain⟨z,y,vs,kv,dd⟩:=gz I.hok hg1;obtain⟨f0,f1,f2,f3,f4,f5⟩:=hf it (by simp);have hl:=kv.length
  have ne:a≠it:=fun q=>by rw[q,f0] at hg1;cases hg1
  have W:=Walks.dictKeys (prog:=X.prog) (w:=X.w) (knd:=bF X.prog X.w) (I.ok.hd hc) it a ne vs (gm o);refine W.item i s _ _ (by omega) ⟨by rw[←hl];exact st,dd⟩ fun v h' tk hv st' kk=>?_;obtain⟨k,x,h1,h2⟩:=hv;have I1:Inv X pins σ H { s with heap:=h',toks:=tk }:=I.turned (fun b o hb e=>kk b o (by simpa using hb) e) f0 f1 f3 f4 f5
  have st1:h'.IsKeyIter it a (i+1) kvs.length (gm o):=by rw[hl];exact st'.1
  obtain⟨o1,e1,c1,d1⟩:=id st1;obtain⟨v0,h3⟩:=Fq kv h1;exact⟨v,rfl,jL (s:={ s with heap:=h',toks:=tk }) e1 c1 d1 (by decide) ⟨kV k,H,I1,keyV h2,⟨rfl,k,v0,h3,rfl⟩,st1,fun b hb=>(hf b hb).1⟩⟩
 done:=by
  intro X hP hw hK hc i pins s σ H E I hf st hg;subst hP hw hK;obtain⟨hg1,hg2⟩:=hg;obtain⟨z,y,vs,kv,dd⟩:=gz I.hok hg1;obtain⟨f0,f1,f2,f3,f4,f5⟩:=hf it (by simp);have hl:=kv.length
  have ne:a≠it:=fun q=>by rw[q,f0] at hg1;cases hg1
  have W:=Walks.dictKeys (prog:=X.prog) (w:=X.w) (knd:=bF X.prog X.w) (I.ok.hd hc) it a ne vs (gm o);refine W.done s _ _ ⟨by rw[←hl,←hg2];rw[←hg2] at st;exact st,dd⟩ fun h' tk kk=>⟨rfl,I.turned (fun b o hb e=>kk b o (by simpa using hb) e) f0 f1 f3 f4 f5⟩
 self:=fun _ _ _ _ _ st h=>wpAny_pyIter_keyiter st h
inductive W where
 |d (x:PyData)|tp (i:Nat)|loc (x:PyData)
abbrev Tp:=List (List PyData)
abbrev Rho:=List (Option W)
noncomputable def bnd{α β:Type}(o:Option (α×Tp))(k:α->Tp->Option β):Option β:=match o with
 |some (a,T)=>k a T
 |none=>none
theorem aL{α β:Type}{o:Option (α×Tp)}{k:α->Tp->Option β}{b:β}(h:bnd o k=some b):∃a T,o=some (a,T)/\k a T=some b:=by
 cases o with
 |none=>cases h
 |some p=>exact⟨p.1,p.2,rfl,h⟩
def c4:Key->PyData
 |.inl i=>.int i
 |.inr x=>.str x
def TupAt(K:Frag)(O:Addr->Prop)(H:Hp)(a:Addr)(vs:List V):Prop:=(¬O a/\Rd H a (.tup vs))\/SqT K (fun _=>none) a vs
def LstAt(K:Frag)(O:Addr->Prop)(H:Hp)(a:Addr)(vs:List V):Prop:=(¬O a/\Rd H a (.lst vs))\/SqL K (fun _=>none) a vs
theorem C7{K:Frag}{H:Hp}{a:Addr}{vs:List V}(h:SqT K (fun _=>none) a vs):SqT K H a vs:=by
 rcases h with(h|⟨o,h⟩)|h
 .cases h
 .cases h
 .exact .inr h
theorem C8{K:Frag}{H:Hp}{a:Addr}{vs:List V}(h:SqL K (fun _=>none) a vs):SqL K H a vs:=by
 rcases h with(h|⟨o,h⟩)|h
 .cases h
 .cases h
 .exact .inr h
theorem TupAt.sq{K:Frag}{O:Addr->Prop}{H:Hp}{a:Addr}{vs:List V}(h:TupAt K O H a vs):SqT K H a vs:=by
 rcases h with h|h
 .exact .inl h.2
 .exact C7 h
theorem LstAt.sq{K:Frag}{O:Addr->Prop}{H:Hp}{a:Addr}{vs:List V}(h:LstAt K O H a vs):SqL K H a vs:=by
 rcases h with h|h
 .exact .inl h.2
 .exact C8 h
mutual
inductive Rep(K:Frag)(O:Addr->Prop)(H:Hp):V->PyData->Prop where
 |non:Rep K O H .non .none
 |bl (b:Bool):Rep K O H (.bl b) (.bool b)
 |int (i:Int):Rep K O H (.int i) (.int i)
 |str (x:Str):Rep K O H (.str x) (.str x)
 |tup {a:Addr}{vs:List V}{ds:List PyData}:TupAt K O H a vs->Reps K O H vs ds->Rep K O H (.ref a) (.tuple ds)
 |lst {a:Addr}{vs:List V}{ds:List PyData}:LstAt K O H a vs->Reps K O H vs ds->Rep K O H (.ref a) (.list ds)
 |dct {a:Addr}{o:Obj}{kvs:List (Key×V)}{ds:List (PyData×PyData)}:¬O a->H a=some (.frz o (.dK kvs))->RepK K O H kvs ds->Rep K O H (.ref a) (.dict ds)
inductive Reps(K:Frag)(O:Addr->Prop)(H:Hp):List V->List PyData->Prop where
 |nil:Reps K O H [] []
 |cons {v:V}{d:PyData}{vs:List V}{ds:List PyData}:Rep K O H v d->Reps K O H vs ds->Reps K O H (v::vs) (d::ds)
inductive RepK(K:Frag)(O:Addr->Prop)(H:Hp):List (Key×V)->List (PyData×PyData)->Prop where
 |nil:RepK K O H [] []
 |cons {k:Key}{v:V}{d:PyData}{kvs:List (Key×V)}{ds:List (PyData×PyData)}:Rep K O H v d->RepK K O H kvs ds->RepK K O H ((k,v)::kvs) ((c4 k,d)::ds)
end
def Le(O:Addr->Prop)(H:Hp)(O':Addr->Prop)(H':Hp):Prop:=∀a o,¬O a->H a=some o->¬O' a/\H' a=some o
theorem Le.trans{O O1 O2:Addr->Prop}{H H1 H2:Hp}(h:Le O H O1 H1)(g:Le O1 H1 O2 H2):Le O H O2 H2:=fun a o n e=>let ⟨n1,e1⟩:=h a o n e;g a o n1 e1
theorem TupAt.mono{K:Frag}{O O':Addr->Prop}{H H':Hp}(h:Le O H O' H'){a:Addr}{vs:List V}(t:TupAt K O H a vs):TupAt K O' H' a vs:=by
 rcases t with⟨n,t|⟨o,t⟩⟩|t
 .exact .inl ⟨(h _ _ n t).1,.inl (h _ _ n t).2⟩
 .exact .inl ⟨(h _ _ n t).1,.inr ⟨o,(h _ _ n t).2⟩⟩
 .exact .inr t
theorem LstAt.mono{K:Frag}{O O':Addr->Prop}{H H':Hp}(h:Le O H O' H'){a:Addr}{vs:List V}(t:LstAt K O H a vs):LstAt K O' H' a vs:=by
 rcases t with⟨n,t|⟨o,t⟩⟩|t
 .exact .inl ⟨(h _ _ n t).1,.inl (h _ _ n t).2⟩
 .exact .inl ⟨(h _ _ n t).1,.inr ⟨o,(h _ _ n t).2⟩⟩
 .exact .inr t
mutual
theorem Rep.mono{K:Frag}{O O':Addr->Prop}{H H':Hp}(e:Le O H O' H'):∀{v:V}{d:PyData},Rep K O H v d->Rep K O' H' v d
 |_,_,.non=>.non
 |_,_,.bl b=>.bl b
 |_,_,.int i=>.int i
 |_,_,.str x=>.str x
 |_,_,.tup t r=>.tup (t.mono e) (Reps.mono e r)
 |_,_,.lst t r=>.lst (t.mono e) (Reps.mono e r)
 |_,_,.dct n h r=>.dct (e _ _ n h).1 (e _ _ n h).2 (RepK.mono e r)
theorem Reps.mono{K:Frag}{O O':Addr->Prop}{H H':Hp}(e:Le O H O' H'):∀{vs:List V}{ds:List PyData},Reps K O H vs ds->Reps K O' H' vs ds
 |_,_,.nil=>.nil
 |_,_,.cons r t=>.cons (Rep.mono e r) (Reps.mono e t)
theorem RepK.mono{K:Frag}{O O':Addr->Prop}{H H':Hp}(e:Le O H O' H'):∀{vs:List (Key×V)}{ds:List (PyData×PyData)},RepK K O H vs ds->RepK K O' H' vs ds
 |_,_,.nil=>.nil
 |_,_,.cons r t=>.cons (Rep.mono e r) (RepK.mono e t)
end
section
variable {K:Frag}{O:Addr->Prop}{H:Hp}
theorem Reps.length:∀{vs:List V}{ds:List PyData},Reps K O H vs ds->vs.length=ds.length
 |_,_,.nil=>rfl
 |_,_,.cons _ t=>congrArg (· + 1) (Reps.length t)
theorem Reps.get:∀{vs:List V}{ds:List PyData}{i:Nat}{v:V},Reps K O H vs ds->vs[i]? = some v->∃d,ds[i]? = some d/\Rep K O H v d
 |_,_,_,_,.nil,e=>by simp at e
 |_,_,0,_,.cons r _,e=>by simp at e;subst e;exact⟨_,rfl,r⟩
 |_,_,i+1,v,.cons _ t,e=>by
  obtain⟨d,h1,h2⟩:=Reps.get (i:=i) (v:=v) t (by simpa using e);exact⟨d,by simpa using h1,h2⟩
theorem Reps.getD:∀{vs:List V}{ds:List PyData}{i:Nat}{d:PyData},Reps K O H vs ds->ds[i]? = some d->∃v,vs[i]? = some v/\Rep K O H v d
 |_,_,_,_,.nil,e=>by simp at e
 |_,_,0,_,.cons r _,e=>by simp at e;subst e;exact⟨_,rfl,r⟩
 |_,_,i+1,v,.cons _ t,e=>by
  obtain⟨d,h1,h2⟩:=Reps.getD (i:=i) (d:=v) t (by simpa using e);exact⟨d,by simpa using h1,h2⟩
theorem Reps.set{v:V}{d:PyData}(r:Rep K O H v d):∀{vs:List V}{ds:List PyData} (i:Nat),Reps K O H vs ds->Reps K O H (vs.set i v) (ds.set i d)
 |_,_,_,.nil=>.nil
 |_,_,0,.cons _ t=>.cons r t
 |_,_,i+1,.cons q t=>.cons q (Reps.set r i t)
theorem Reps.append{ws:List V}{es:List PyData}:∀{vs:List V}{ds:List PyData},Reps K O H vs ds->Reps K O H ws es->Reps K O H (vs++ws) (ds++es)
 |_,_,.nil,r=>r
 |_,_,.cons q t,r=>.cons q (Reps.append t r)
theorem Reps.take:∀{vs:List V}{ds:List PyData} (n:Nat),Reps K O H vs ds->Reps K O H (vs.take n) (ds.take n)
 |_,_,0,_=>.nil
 |_,_,_+1,.nil=>.nil
 |_,_,n+1,.cons r t=>.cons r (Reps.take n t)
theorem Reps.drop:∀{vs:List V}{ds:List PyData} (n:Nat),Reps K O H vs ds->Reps K O H (vs.drop n) (ds.drop n)
 |_,_,0,r=>r
 |_,_,_+1,.nil=>.nil
 |_,_,n+1,.cons _ t=>Reps.drop n t
theorem Reps.rep{vs:List V}{ds:List PyData}(r:Reps K O H vs ds):∀n:Nat,Reps K O H (List.replicate n vs).flatten (List.replicate n ds).flatten
 |0=>.nil
 |n+1=>by
  rw[List.replicate_succ,List.replicate_succ,List.flatten_cons,List.flatten_cons];exact r.append (r.rep n)
end
def SameX(ts:List Addr)(H H':Hp):Prop:=∀b o,b∉ts->H b=some o->H' b=some o
theorem SameX.refl(ts:List Addr)(H:Hp):SameX ts H H:=fun _ _ _ h=>h
theorem SameX.trans{ts:List Addr}{H H1 H2:Hp}(a:SameX ts H H1)(b:SameX ts H1 H2):SameX ts H H2:=fun c o n h=>b c o n (a c o n h)
theorem SameX.new{ts:List Addr}{H:Hp}{p:Addr}(h:H p=none)(o:HO):SameX ts H (upd H p o):=fun b u _ q=>by rw[aQ (cV q h)];exact q
def Mut(o:Option HO):Prop:=(∃vs,o=some (.lst vs))\/(∃kvs,o=some (.dK kvs))\/∃C dx fs,o=some (.ins C dx fs)
theorem Mut.ex{o:Option HO}(h:Mut o):∃u,o=some u:=by rcases h with⟨vs,e⟩|⟨vs,e⟩|⟨C,dx,fs,e⟩ <;> exact⟨_,e⟩
theorem Mut.to{o o':Option HO}(h:Mut o)(k:∀u,o=some u->o'=some u):Mut o':=by
 rcases h with⟨vs,e⟩|⟨vs,e⟩|⟨C,dx,fs,e⟩
 .exact .inl ⟨vs,k _ e⟩
 .exact .inr (.inl ⟨vs,k _ e⟩)
 .exact .inr (.inr ⟨C,dx,fs,k _ e⟩)
def F9(C:Addr):PyData:=.dict [(.none,.int (C:Int))]
def isO:List PyData->Bool
 |.dict [(.none,_)]::_=>true
 |_=>false
def pairF(p:Str×PyData):PyData:=.tuple [.str p.1,p.2]
inductive RepF(K:Frag)(O:Addr->Prop)(H:Hp):List (Str×V)->List (Str×PyData)->Prop where
 |nil:RepF K O H [] []
 |cons {n:Str}{v:V}{d:PyData}{vs:List (Str×V)}{ds:List (Str×PyData)}:Rep K O H v d->RepF K O H vs ds->RepF K O H ((n,v)::vs) ((n,d)::ds)
theorem RepF.mono{K:Frag}{O O':Addr->Prop}{H H':Hp}(e:Le O H O' H'){vs:List (Str×V)}{ds:List (Str×PyData)}(r:RepF K O H vs ds):RepF K O' H' vs ds:=by
 induction r with
 |nil=>exact .nil
 |cons r _ ih=>exact .cons (Rep.mono e r) ih
def RowAt(K:Frag)(O:Addr->Prop)(H:Hp)(a:Addr)(xs:List PyData):Prop:=(isO xs=false/\∃vs,H a=some (.lst vs)/\Reps K O H vs xs)\/∃C dx fs fd,H a=some (.ins C dx fs)/\xs=F9 C::fd.map pairF/\RepF K O H fs fd
theorem RowAt.mono{K:Frag}{O O':Addr->Prop}{H H':Hp}{a:Addr}{xs:List PyData}(h:RowAt K O H a xs)(k:∀o,H a=some o->H' a=some o)(l:Le O H O' H'):RowAt K O' H' a xs:=by
 rcases h with⟨n,vs,h1,h2⟩|⟨C,dx,fs,fd,h1,h2,h3⟩
 .exact .inl ⟨n,vs,k _ h1,h2.mono l⟩
 .exact .inr ⟨C,dx,fs,fd,k _ h1,h2,h3.mono l⟩
theorem RowAt.lst{K:Frag}{O:Addr->Prop}{H:Hp}{a:Addr}{xs:List PyData}(h:RowAt K O H a xs)(n:isO xs=false):∃vs,H a=some (.lst vs)/\Reps K O H vs xs:=by
 rcases h with⟨_,h⟩|⟨C,dx,fs,fd,h1,h2,h3⟩
 .exact h
 .rw[h2] at n
  cases n
theorem Bt{K:Frag}{O:Addr->Prop}{H:Hp}{v:V}{y:PyData}(h:Rep K O H v (.dict [(.none,y)])):False:=by
 cases h with
 |dct _ _ r=>
  generalize hl:[(PyData.none,y)]=l at r
  cases r with
  |nil=>cases hl
  |@cons k _ _ _ _ _ _=>
   injection hl with h1 _
   injection h1 with h1 _
   rcases k with i|x
   .cases h1
   .cases h1
theorem Reps.notO{K:Frag}{O:Addr->Prop}{H:Hp}{vs:List V}{xs:List PyData}(r:Reps K O H vs xs):isO xs=false:=by
 cases r with
 |nil=>rfl
 |cons h _=>
  rename_i d _ _ _;unfold isO;split
  .rename_i e
   cases e;exact(Bt h).elim
  .rfl
structure HC(K:Frag)(O:Addr->Prop)(ts:List Addr)(H:Hp)(T:Tp):Prop where
 own:∀b∈ts,O b
 trk:∀b,O b->Mut (H b)
 nd:ts.Nodup
 len:ts.length=T.length
 tape:∀(i:Nat) (a:Addr) (xs:List PyData),ts[i]? = some a->T[i]? = some xs->RowAt K O H a xs
section
variable {K:Frag}{O:Addr->Prop}{ts:List Addr}{H H':Hp}{T:Tp}
theorem HC.le(c:HC K O ts H T)(s:SameX ts H H'):Le O H O H':=fun a o n e=>⟨n,s a o (fun z=>n (c.own a z)) e⟩
theorem HC.step(c:HC K O ts H T)(s:SameX ts H H')(t:∀b∈ts,H' b=H b):HC K O ts H' T where
 own:=c.own
 trk:=fun b hb=>by
  by_cases z:b∈ts
  .rw[t b z];exact c.trk b hb
  .exact(c.trk b hb).to fun u e=>s b _ z e
 nd:=c.nd
 len:=c.len
 tape:=fun i a xs e1 e2=>by
  exact(c.tape i a xs e1 e2).mono (fun o h1=>by rw[t a (List.mem_of_getElem? e1)];exact h1) (c.le s)
theorem HC.fresh(c:HC K O ts H T){p:Addr}(h:H p=none):¬O p:=fun z=>by
 obtain⟨u,e⟩:=(c.trk p z).ex;rw[h] at e;cases e
theorem HC.new(c:HC K O ts H T){p:Addr}(h:H p=none)(o:HO):HC K O ts (upd H p o) T:=c.step (.new h o) fun b hb=>aQ fun z=>c.fresh h (z ▸ c.own b hb)
theorem HC.leNew(c:HC K O ts H T){p:Addr}(h:H p=none)(o:HO):Le O H O (upd H p o):=c.le (.new h o)
theorem HC.newT(c:HC K O ts H T){p:Addr}(h:H p=none){vs:List V}{ds:List PyData}(r:Reps K O H vs ds):Rep K O (upd H p (.tup vs)) (.ref p) (.tuple ds):=.tup (.inl ⟨c.fresh h,.inl bG⟩) (r.mono (c.leNew h _))
theorem HC.newL(c:HC K O ts H T){p:Addr}(h:H p=none){vs:List V}{ds:List PyData}(r:Reps K O H vs ds):Rep K O (upd H p (.lst vs)) (.ref p) (.list ds):=.lst (.inl ⟨c.fresh h,.inl bG⟩) (r.mono (c.leNew h _))
end
inductive Vw(K:Frag)(O:Addr->Prop)(H:Hp):V->PyData->Prop where
 |rep {v:V}{x:PyData}:Rep K O H v x->Vw K O H v x
 |raw {a:Addr}{vs:List V}{xs:List PyData}:H a=some (.lst vs)->Reps K O H vs xs->Vw K O H (.ref a) (.list xs)
 |rawD {a:Addr}{kvs:List (Key×V)}{ds:List (PyData×PyData)}:H a=some (.dK kvs)->RepK K O H kvs ds->Vw K O H (.ref a) (.dict ds)
section
variable {K:Frag}{O:Addr->Prop}{H:Hp}{v:V}
theorem Vw.int{i:Int}(h:Vw K O H v (.int i)):v=.int i:=by cases h with|rep h=>cases h;rfl
theorem Vw.str{x:Str}(h:Vw K O H v (.str x)):v=.str x:=by cases h with|rep h=>cases h;rfl
theorem Vw.bl{b:Bool}(h:Vw K O H v (.bool b)):v=.bl b:=by cases h with|rep h=>cases h;rfl
theorem Vw.non(h:Vw K O H v .none):v=.non:=by cases h with|rep h=>cases h;rfl
theorem Vw.tup{ds:List PyData}(h:Vw K O H v (.tuple ds)):∃a vs,v=.ref a/\TupAt K O H a vs/\Reps K O H vs ds:=by cases h with|rep h=>cases h with|tup t r=>exact⟨_,_,rfl,t,r⟩
theorem Vw.tupR{ds:List PyData}(h:Vw K O H v (.tuple ds)):Rep K O H v (.tuple ds):=by cases h with|rep h=>exact h
theorem Vw.lst{ds:List PyData}(h:Vw K O H v (.list ds)):∃a vs,v=.ref a/\SqL K H a vs/\Reps K O H vs ds:=by
 cases h with
 |rep h=>cases h with|lst t r=>exact⟨_,_,rfl,t.sq,r⟩
 |raw h r=>exact⟨_,_,rfl,SqL.of h,r⟩
theorem Vw.dct{ds:List (PyData×PyData)}(h:Vw K O H v (.dict ds)):∃a kvs,v=.ref a/\Rd H a (.dK kvs)/\RepK K O H kvs ds:=by
 cases h with
 |rep h=>cases h with|dct n t r=>exact⟨_,_,rfl,.inr ⟨_,t⟩,r⟩
 |rawD t r=>exact⟨_,_,rfl,.inl t,r⟩
end
def OwnAt(K:Frag)(O:Addr->Prop)(H:Hp)(a:Addr):PyData->Prop
 |.list xs=>∃vs,H a=some (.lst vs)/\Reps K O H vs xs
 |.dict ds=>∃kvs,H a=some (.dK kvs)/\RepK K O H kvs ds
 |_=>False
theorem OwnAt.mono{K:Frag}{O O':Addr->Prop}{H H':Hp}{a:Addr}{x:PyData}(h:OwnAt K O H a x)(k:∀o,H a=some o->H' a=some o)(l:Le O H O' H'):OwnAt K O' H' a x:=by
 cases x with
 |list xs=>obtain⟨vs,h1,h2⟩:=h;exact⟨vs,k _ h1,h2.mono l⟩
 |dict ds=>obtain⟨vs,h1,h2⟩:=h;exact⟨vs,k _ h1,h2.mono l⟩
 |_=>cases h
theorem OwnAt.some{K:Frag}{O:Addr->Prop}{H:Hp}{a:Addr}{x:PyData}(h:OwnAt K O H a x):∃o,H a=some o:=by
 cases x with
 |list xs=>obtain⟨vs,h1,h2⟩:=h;exact⟨_,h1⟩
 |dict ds=>obtain⟨vs,h1,h2⟩:=h;exact⟨_,h1⟩
 |_=>cases h
def RepW(K:Frag)(O:Addr->Prop)(ts:List Addr)(H:Hp)(v:V):W->Prop
 |.d x=>Rep K O H v x
 |.tp i=>∃a,ts[i]? = some a/\v=.ref a
 |.loc x=>∃a,v=.ref a/\O a/\a∉ts/\OwnAt K O H a x
def hG(xs:List PyData):Option PyData:=if isO xs=true then none else some (.list xs)
noncomputable def view(T:Tp):W->Option PyData
 |.d x=>some x
 |.tp i=>(T[i]?).bind hG
 |.loc (.list xs)=>some (.list xs)
 |.loc (.dict ds)=>some (.dict ds)
 |.loc _=>none
noncomputable def views(T:Tp):List W->Option (List PyData)
 |[]=>some []
 |w::r=>match view T w with
  | some x=>(match views T r with
   |some xs=>some (x::xs)
   | none=>none)
  |none=>none
def gi(K:Frag)(O:Addr->Prop)(ts:List Addr)(H:Hp):List V->List W->Prop:=Paired fun v w=>RepW K O ts H v w
def Vws(K:Frag)(O:Addr->Prop)(H:Hp):List V->List PyData->Prop:=Paired fun v x=>Vw K O H v x
def RelE(K:Frag)(O:Addr->Prop)(ts:List Addr)(H:Hp)(σ:L2.St)(ρ:Rho):Prop:=∀(i:Nat) (w:W),ρ[i]? = some (some w)->∃v,σ[i]? = some (some v)/\RepW K O ts H v w
section
variable {K:Frag}{O:Addr->Prop}{ts:List Addr}{H H':Hp}{T:Tp}{v:V}{w:W}
theorem RepW.mono(r:RepW K O ts H v w)(c:HC K O ts H T)(s:SameX ts H H'):RepW K O ts H' v w:=by
 cases w with
 |d x=>exact Rep.mono (c.le s) r
 |tp i=>exact r
 |loc xs=>
  obtain⟨a,e,h1,h2,h3⟩:=r;exact⟨a,e,h1,h2,h3.mono (fun o q=>s _ _ h2 q) (c.le s)⟩
theorem RelE.mono{σ:L2.St}{ρ:Rho}(r:RelE K O ts H σ ρ)(c:HC K O ts H T)(s:SameX ts H H'):RelE K O ts H' σ ρ:=fun i w e=>
 let ⟨v,h1,h2⟩:=r i w e;⟨v,h1,h2.mono c s⟩
theorem HC.view(c:HC K O ts H T){x:PyData}(r:RepW K O ts H v w)(e:view T w=some x):Vw K O H v x:=by
 cases w with
 |d y=>cases e;exact .rep r
 |tp i=>
  obtain⟨a,h1,rfl⟩:=r;have e':(T[i]?).bind hG=some x:=e
  cases ht:T[i]? with
  |none=>rw[ht] at e';cases e'
  |some xs=>
   rw[ht] at e';have e2:(if isO xs=true then none else some (PyData.list xs))=some x:=e';split at e2
   .cases e2
   .rename_i hn
    cases e2;obtain⟨vs,h2,h3⟩:=(c.tape i a xs h1 ht).lst (by simpa using hn);exact .raw h2 h3
 |loc xs=>
  obtain⟨a,rfl,_,_,h3⟩:=r
  cases xs with
  |list xs=>cases e;obtain⟨vs,h1,h2⟩:=h3;exact .raw h1 h2
  |dict ds=>cases e;obtain⟨vs,h1,h2⟩:=h3;exact .rawD h1 h2
  |_=>cases h3
theorem HC.views(c:HC K O ts H T):∀{vs:List V}{ws:List W}{xs:List PyData},gi K O ts H vs ws->views T ws=some xs->Vws K O H vs xs
 |_,[],xs,.nil,e=>by cases e;exact .nil
 |_,w::r,xs,.cons h t,e=>by
  unfold D.views at e;split at e
  .rename_i x h1
   split at e
   .rename_i ys h2
    cases e;exact .cons (c.view h h1) (HC.views c t h2)
   .cases e
  .cases e
end
def noStar:Expr->Bool
 |.Starred _ _=>false
 |_=>true
theorem bu{e:Expr}{es:List Expr}{env:Env}(h:noStar e=true):starEach (e::es) env=(false,eval e env)::starEach es env:=by cases e <;> first|rfl|cases h
theorem kF{e:Expr}{env:Env}(h:noStar e=true):starEach [e] env=[(false,eval e env)]:=bu h
theorem Aa{e e':Expr}{env:Env}(h:noStar e=true)(h':noStar e'=true):starEach [e,e'] env=[(false,eval e env),(false,eval e' env)]:=by rw[bu h,kF h']
theorem cg{env:Env}{pos:Pos}:∀{es:List Expr},es.all noStar=true->(backTo pos (starEach es env)).any (·.1)=false
 |[],_=>rfl
 |e::r,h=>by
  rw[List.all_cons,Bool.and_eq_true] at h;rw[bu h.1];show (false||(backTo pos (starEach r env)).any (·.1))=false;rw[cg h.2];rfl
theorem h6{e:Expr}{env:Env}{cpos:Pos}(h:noStar e=true):((backTo cpos (starEach [e] env)).all (fun x=>!x.1)&&(backToKw cpos (keywordEach [] env)).all (fun x=>x.1.isSome)
   && decide (([e]:List Expr).length+([]:List Keyword).length+(if ([]:List Keyword).isEmpty then 0 else 1)<30))=true:=by
 rw[kF h];rfl
abbrev FE:=Rho->Tp->Option (W×Tp)
abbrev FT:=Rho->Tp->Option (Bool×Tp)
abbrev FA:=Rho->Tp->Option (List W×Tp)
inductive LiftP(K:Frag)(f:FE)(σ:L2.St)(H:Hp)(Q:VK):Prop where
 |mk (O:Addr->Prop) (ts:List Addr) (ρ:Rho) (T:Tp) (w:W) (T':Tp) (hc:HC K O ts H T) (re:RelE K O ts H σ ρ) (e:f ρ T=some (w,T')) (q:∀v H',SameX ts H H'->HC K O ts H' T'->RepW K O ts H' v w->Q v H'):LiftP K f σ H Q
def lift(K:Frag)(f:FE):TE:=fun σ H Q=>LiftP K f σ H Q
inductive LiftTP(K:Frag)(f:FT)(σ:L2.St)(H:Hp)(Q:Bool->Hp->Prop):Prop where
 |mk (O:Addr->Prop) (ts:List Addr) (ρ:Rho) (T:Tp) (b:Bool) (T':Tp) (hc:HC K O ts H T) (re:RelE K O ts H σ ρ) (e:f ρ T=some (b,T')) (q:∀H',SameX ts H H'->HC K O ts H' T'->Q b H'):LiftTP K f σ H Q
def liftT(K:Frag)(f:FT):TT:=fun σ H Q=>LiftTP K f σ H Q
inductive LiftAP(K:Frag)(f:FA)(σ:L2.St)(H:Hp)(Q:List V->Hp->Prop):Prop where
 |mk (O:Addr->Prop) (ts:List Addr) (ρ:Rho) (T:Tp) (ws:List W) (T':Tp) (hc:HC K O ts H T) (re:RelE K O ts H σ ρ) (e:f ρ T=some (ws,T')) (q:∀vs H',SameX ts H H'->HC K O ts H' T'->gi K O ts H' vs ws->Q vs H'):LiftAP K f σ H Q
def vJ(K:Frag)(f:FA):TA:=fun σ H Q=>LiftAP K f σ H Q
structure DE(X:Cx)(e:Expr)(f:FE):Prop where
 pe:PE X e (lift X.K f)
structure DT(X:Cx)(e:Expr)(f:FT):Prop where
 pe:PT X e (liftT X.K f)
structure DW(X:Cx)(e:Expr)(f:FT):Prop where
 pe:PW X e (liftT X.K f)
structure DA(X:Cx)(es:List Expr)(f:FA):Prop where
 pe:PA X es (vJ X.K f)
theorem br{X:Cx}{e:Expr}{t t':TE}(h:PE X e t)(i:∀σ H Q,t' σ H Q->t σ H Q):PE X e t':=fun pins s σ H Q I q=>h pins s σ H Q I (i σ H Q q)
theorem ju{X:Cx}{e:Expr}{t t':TT}(h:PT X e t)(i:∀σ H Q,t' σ H Q->t σ H Q):PT X e t':=fun pins s σ H Q I q=>h pins s σ H Q I (i σ H Q q)
theorem uA{X:Cx}{e:Expr}{t t':TT}(h:PW X e t)(i:∀σ H Q,t' σ H Q->t σ H Q):PW X e t':=fun wh pins s σ H Q I q=>h wh pins s σ H Q I (i σ H Q q)
theorem uJ{X:Cx}{e:List Expr}{t t':TA}(h:PA X e t)(i:∀σ H Q,t' σ H Q->t σ H Q):PA X e t':=fun po pins s σ H Q I q=>h po pins s σ H Q I (i σ H Q q)
def aa(i:Nat):FE:=fun ρ T=>match ρ[i]? with
 |some (some w)=>some (w,T)
 |_=>none
noncomputable def fC(x:PyData):FE:=fun _ T=>some (.d x,T)
section
variable {X:Cx}{pos:Pos}
theorem ag(i:Nat){x:Str}(hN:X.N[i]? = some x:=by rfl)(hv:Vis X.env.scope x:=by first|exact Or.inl rfl|exact Or.inr (Or.inl rfl)|exact Or.inr (Or.inr rfl))(hd:(x == ("__debug__" : Str))=false:=by decide)
  (hcd:(x == ("__classdict__" : Str))=false:=by decide):DE X (.Name x pos) (aa i):=by
 refine⟨?_⟩;refine br (pv i hN hv hd hcd) fun σ H Q=>?_;rintro⟨O,ts,ρ,T,w,T',hc,re,e,q⟩;unfold aa at e;split at e
 .rename_i w' he
  cases e;obtain⟨v,h1,h2⟩:=re i _ he;exact⟨v,h1,q v H (.refl _ _) hc h2⟩
 .cases e
theorem gM{x:PyData}{v:V}(h:∀O H,Rep X.K O H v x):∀σ H Q,lift X.K (fC x) σ H Q->tC v σ H Q:=by
 rintro σ H Q ⟨O,ts,ρ,T,w,T',hc,re,e,q⟩;cases e;exact q v H (.refl _ _) hc (h O H)
theorem aq{i j}:DE X (.Constant (.int i) j pos) (fC (.int i)):=⟨br Dw (gM fun _ _=>.int i)⟩
theorem bQ{i j}:DE X (.Constant (.bool i) j pos) (fC (.bool i)):=⟨br E4 (gM fun _ _=>.bl i)⟩
theorem aI{i j}:DE X (.Constant (.str i) j pos) (fC (.str i)):=⟨br nT (gM fun _ _=>.str i)⟩
theorem dw{j}:DE X (.Constant .none j pos) (fC .none):=⟨br uG (gM fun _ _=>.non)⟩
theorem fj{x:Str}{i:Int}(hg:Gl X x)(hm:∃t,X.mg x=some (.int i t))(hd:(x == ("__debug__" : Str))=false:=by decide):DE X (.Name x pos) (fC (.int i)):=by
 refine⟨?_⟩;obtain⟨t,hm⟩:=hm;exact br (kM (v:=.int i) hg hm ⟨t,rfl⟩ hd) (gM fun _ _=>.int i)
theorem mM{x:Str}{i:Str}(hg:Gl X x)(hm:∃t,X.mg x=some (.str i t))(hd:(x == ("__debug__" : Str))=false:=by decide):DE X (.Name x pos) (fC (.str i)):=by
 refine⟨?_⟩;obtain⟨t,hm⟩:=hm;exact br (kM (v:=.str i) hg hm ⟨t,rfl⟩ hd) (gM fun _ _=>.str i)
end
def op1(g:PyData->Option PyData)(T:Tp)(w:W):Option (W×Tp):=match view T w with
 |some x=>match g x with
  |some d=>some (.d d,T)
  |none=>none
 |none=>none
def op2(g:PyData->PyData->Option PyData)(T:Tp)(w1 w2:W):Option (W×Tp):=match view T w1,view T w2 with
 |some x,some y=>match g x y with
  |some d=>some (.d d,T)
  |none=>none
 |_,_=>none
theorem gH{g:PyData->Option PyData}{T T':Tp}{w1 w:W}(e:op1 g T w1=some (w,T')):∃x d,view T w1=some x/\g x=some d/\w=.d d/\T'=T:=by
 unfold op1 at e;split at e
 .rename_i x h1
  split at e
  .rename_i d h3
   cases e;exact⟨x,d,h1,h3,rfl,rfl⟩
  .cases e
 .cases e
theorem fZ{g:PyData->PyData->Option PyData}{T T':Tp}{w1 w2 w:W}(e:op2 g T w1 w2=some (w,T')):∃x y d,view T w1=some x/\view T w2=some y/\g x y=some d/\w=.d d/\T'=T:=by
 unfold op2 at e;split at e
 .rename_i x y h1 h2
  split at e
  .rename_i d h3
   cases e;exact⟨x,y,d,h1,h2,h3,rfl,rfl⟩
  .cases e
 .cases e
def af(g:PyData->PyData->Option PyData)(fa fb:FE):FE:=fun ρ T=>bnd (fa ρ T) fun w1 T1=>bnd (fb ρ T1) fun w2 T2=>op2 g T2 w1 w2
def fUn(g:PyData->Option PyData)(fa:FE):FE:=fun ρ T=>bnd (fa ρ T) fun w1 T1=>op1 g T1 w1
def gn(K:Frag)(r:R2)(g:PyData->PyData->Option PyData):Prop:=∀(O:Addr->Prop) (ts:List Addr) (H:Hp) (T:Tp) (v1 v2:V) (x y d:PyData) (Q:VK),HC K O ts H T->Vw K O H v1 x->Vw K O H v2 y->g x y=some d ->
 (∀v H',SameX ts H H'->HC K O ts H' T->Rep K O H' v d->Q v H')->r v1 v2 H Q
def GO(K:Frag)(r:V->Hp->VK->Prop)(g:PyData->Option PyData):Prop:=∀(O:Addr->Prop) (ts:List Addr) (H:Hp) (T:Tp) (v1:V) (x d:PyData) (Q:VK),HC K O ts H T->Vw K O H v1 x->g x=some d ->
 (∀v H',SameX ts H H'->HC K O ts H' T->Rep K O H' v d->Q v H')->r v1 H Q
def OpD(X:Cx)(f:Value->Value->Sem Value)(g:PyData->PyData->Option PyData):Prop:=∃r,OpR X f r/\gn X.K r g
def IxD(X:Cx)(g:PyData->PyData->Option PyData):Prop:=∃r,IxR X r/\gn X.K r g
theorem kU{K:Frag}{r:R2}{g:PyData->PyData->Option PyData}{fa fb:FE}(snd:gn K r g){σ:L2.St}{H:Hp}{Q:VK}(h:lift K (af g fa fb) σ H Q):tOp r (lift K fa) (lift K fb) σ H Q:=by
 obtain⟨O,ts,ρ,T,w,T',hc,re,e,q⟩:=h;obtain⟨w1,T1,e1,e⟩:=aL e;obtain⟨w2,T2,e2,e⟩:=aL e;obtain⟨x,y,d,h1,h2,h3,rfl,rfl⟩:=fZ e;refine⟨O,ts,ρ,T,w1,T1,hc,re,e1,fun v1 H1 s1 hc1 r1=>?_⟩;refine⟨O,ts,ρ,T1,w2,T',hc1,re.mono hc s1,e2,fun v2 H2 s2 hc2 r2=>?_⟩;exact snd O ts H2 T' v1 v2 x y d Q hc2 (hc2.view (r1.mono hc1 s2) h1) (hc2.view r2 h2) h3 fun v H' s3 hc3 r3=>q v H' (s1.trans (s2.trans s3)) hc3 r3
noncomputable def asB:W->Option Bool
 |.d (.bool b)=>some b
 |_=>none
theorem jD{w:W}{b:Bool}(h:asB w=some b):w=.d (.bool b):=by
 unfold asB at h;split at h
 .cases h;rfl
 .cases h
def aD(f:FE):FT:=fun ρ T=>bnd (f ρ T) fun w T1=>match asB w with
 |some b=>some (b,T1)
 |none=>none
theorem mS{K:Frag}{f:FE}{σ:L2.St}{H:Hp}{Q:Bool->Hp->Prop}(h:liftT K (aD f) σ H Q):lift K f σ H fun x H'=>∃k,x=.bl k/\Q k H':=by
 obtain⟨O,ts,ρ,T,w,T',hc,re,e,q⟩:=h;obtain⟨w1,T1,e1,e⟩:=aL e;refine⟨O,ts,ρ,T,w1,T1,hc,re,e1,fun v1 H1 s1 hc1 r1=>?_⟩;split at e
 .rename_i b hb
  cases e;have hw:=jD hb;subst hw;cases (show Rep K O H1 v1 _ from r1);exact⟨_,rfl,q H1 s1 hc1⟩
 .cases e
section
variable {X:Cx}{pos:Pos}{a b c:Expr}{fa fb fc:FE}{g g':PyData->PyData->Option PyData}
theorem aV{op:Operator}(ho:OpD X (binaryOp op) g)(ha:DE X a fa)(hb:DE X b fb):DE X (.BinOp a op b pos) (af g fa fb):=by
 refine⟨?_⟩;obtain⟨r,hr,snd⟩:=ho;exact br (E2 hr ha.pe hb.pe) fun σ H Q=>kU snd
theorem bN{op:CmpOp}(ho:OpD X (compareOp op) g)(ha:DE X a fa)(hb:DE X b fb)(hm:behindInMarks op b=false:=by first|exact nY _|with_unfolding_all rfl):DE X (.Compare a [op] [b] pos) (af g fa fb):=by
 refine⟨?_⟩;obtain⟨r,hr,snd⟩:=ho;exact br (BU hr ha.pe hb.pe hm) fun σ H Q=>kU snd
theorem aJ{op:CmpOp}(ho:OpD X (compareOp op) g)(ha:DE X a fa)(hb:DE X b fb)(hm:behindInMarks op b=false:=by first|exact nY _|with_unfolding_all rfl):DT X (.Compare a [op] [b] pos) (aD (af g fa fb)):=by
 refine⟨?_⟩;obtain⟨r,hr,snd⟩:=ho;exact ju (BE hr ha.pe hb.pe hm) fun σ H Q h=>kU snd (mS h)
theorem av(ho:IxD X g)(ha:DE X a fa)(hb:DE X b fb)(hs:nG b:=by exact fun _ _=>rfl):DE X (.Subscript a b pos) (af g fa fb):=by
 refine⟨?_⟩;obtain⟨r,hr,snd⟩:=ho;exact br (vC hr ha.pe hb.pe hs) fun σ H Q=>kU snd
def iB(g g':PyData->PyData->Option PyData)(fa fb fc:FE):FE:=fun ρ T=>bnd (fa ρ T) fun w1 T1=>bnd (fb ρ T1) fun w2 T2=>bnd (op2 g T2 w1 w2) fun w T3=>match asB w with
 |some b=>if b=true then bnd (fc ρ T3) fun w3 T4=>op2 g' T4 w2 w3 else some (.d (.bool false),T3)
 |none=>none
theorem rE{K:Frag}{r r':R2}(snd:gn K r g)(snd':gn K r' g'){σ:L2.St}{H:Hp}{Q:VK}(h:lift K (iB g g' fa fb fc) σ H Q):nJ r r' (lift K fa) (lift K fb) (lift K fc) σ H Q:=by
 obtain⟨O,ts,ρ,T,w,T',hc,re,e,q⟩:=h;obtain⟨w1,T1,e1,e⟩:=aL e;obtain⟨w2,T2,e2,e⟩:=aL e;obtain⟨wz,T3,e3,ez⟩:=aL e;obtain⟨x,y,d,h1,h2,h3,rfl,rfl⟩:=fZ e3;clear e;refine⟨O,ts,ρ,T,w1,T1,hc,re,e1,fun v1 H1 s1 hc1 r1=>?_⟩;refine⟨O,ts,ρ,T1,w2,T3,hc1,re.mono hc s1,e2,fun v2 H2 s2 hc2 r2=>?_⟩;refine snd O ts H2 T3 v1 v2 x y d _ hc2 (hc2.view (r1.mono hc1 s2) h1) (hc2.view r2 h2) h3 fun v H3 s3 hc3 r3=>?_;split at ez
 .rename_i b hb
  have hd:=jD hb
  injection hd with hd
  subst hd;cases r3
  cases b with
  |true=>
   rw[if_pos rfl] at ez;refine⟨true,rfl,fK ?_⟩;obtain⟨w3,T4,e4,e5⟩:=aL ez;obtain⟨x',y',d',h1',h2',h3',rfl,rfl⟩:=fZ e5;refine⟨O,ts,ρ,T3,w3,T',hc3,(re.mono hc (s1.trans (s2.trans s3))),e4,fun v3 H4 s4 hc4 r4=>?_⟩;exact snd' O ts H4 T' v2 v3 x' y' d' Q hc4 (hc4.view (r2.mono hc2 (s3.trans s4)) h1') (hc4.view r4 h2') h3' fun v H' s5 hc5 r5=>q v H' (s1.trans (s2.trans (s3.trans (s4.trans s5)))) hc5 r5
  |false=>
   rw[if_neg Bool.false_ne_true] at ez;cases ez;exact⟨false,rfl,fL (q _ H3 (s1.trans (s2.trans s3)) hc3 (.bl false))⟩
 .cases ez
theorem A6{op op':CmpOp}(ho:OpD X (compareOp op) g)(ho':OpD X (compareOp op') g')(ha:DE X a fa)(hb:DE X b fb)(hc:DE X c fc)
  (hm:lastMarks [op,op'] [b,c]=false:=by with_unfolding_all rfl):DE X (.Compare a [op,op'] [b,c] pos) (iB g g' fa fb fc):=by
 refine⟨?_⟩;obtain⟨r,hr,snd⟩:=ho;obtain⟨r',hr',snd'⟩:=ho';exact br (Ar hr hr' ha.pe hb.pe hc.pe hm) fun σ H Q=>rE snd snd'
theorem AX{op op':CmpOp}(ho:OpD X (compareOp op) g)(ho':OpD X (compareOp op') g')(ha:DE X a fa)(hb:DE X b fb)(hc:DE X c fc)
  (hm:lastMarks [op,op'] [b,c]=false:=by with_unfolding_all rfl):DT X (.Compare a [op,op'] [b,c] pos) (aD (iB g g' fa fb fc)):=by
 refine⟨?_⟩;obtain⟨r,hr,snd⟩:=ho;obtain⟨r',hr',snd'⟩:=ho';exact ju (Ah hr hr' ha.pe hb.pe hc.pe hm) fun σ H Q h=>rE snd snd' (mS h)
def lJ:PyData->Option Bool
 |.none=>some false
 |.bool b=>some b
 |.int i=>some (i != 0)
 |.str y=>if y.length<=sizeLine then some ((y.length:Int) != 0) else none
 |.list xs=>some (!xs.isEmpty)
 |.tuple xs=>some (!xs.isEmpty)
 |.dict _=>none
def lK(T:Tp)(w:W):Option (Bool×Tp):=match view T w with
 |some x=>match lJ x with
  |some b=>some (b,T)
  |none=>none
 |none=>none
def aX(f:FE):FT:=fun ρ T=>bnd (f ρ T) fun w T1=>lK T1 w
theorem qr{K:Frag}{O:Addr->Prop}{H:Hp}{vs:List V}{ds:List PyData}(r:Reps K O H vs ds):vs.isEmpty=ds.isEmpty:=by cases r <;> rfl
theorem C0{K:Frag}{O:Addr->Prop}{H:Hp}{v:V}{x:PyData}{b:Bool}(h:Vw K O H v x)(e:lJ x=some b):pB K v H b:=by
 cases x with
 |none=>cases h.non;cases e;rfl
 |bool c=>cases h.bl;cases e;rfl
 |int i=>cases h.int;cases e;rfl
 |str y=>
  cases h.str;have e':(if y.length<=sizeLine then some ((y.length:Int) != 0) else none)=some b:=e;split at e'
  .rename_i hl
   cases e';exact⟨hl,rfl⟩
  .cases e'
 |list xs=>
  obtain⟨a,vs,rfl,h1,h2⟩:=h.lst;cases e;exact .inl ⟨vs,h1,by rw[qr h2]⟩
 |tuple xs=>
  obtain⟨a,vs,rfl,h1,h2⟩:=h.tup;cases e;exact .inr (.inl ⟨vs,h1.sq,by rw[qr h2]⟩)
 |dict kvs=>
  cases e
theorem bh(ha:DE X a fa)(he:∀whole,isTrue a X.env whole=(do let v ←whole;standAt a.pos;holding [v] (truthy v)):=by intro _;rfl):DT X a (aX fa):=by
 refine⟨?_⟩;refine ju (Ag ha.pe he) fun σ H Q=>?_;rintro⟨O,ts,ρ,T,b,T',hc,re,e,q⟩;obtain⟨w1,T1,e1,e⟩:=aL e;refine⟨O,ts,ρ,T,w1,T1,hc,re,e1,fun v1 H1 s1 hc1 r1=>?_⟩;unfold lK at e;split at e
 .rename_i x h1
  split at e
  .rename_i k h2
   cases e;exact⟨b,C0 (hc1.view r1 h1) h2,q H1 s1 hc1⟩
  .cases e
 .cases e
def eB(f g:FT):FT:=fun ρ T=>bnd (f ρ T) fun b T1=>if b=true then g ρ T1 else some (false,T1)
def bK(f g:FT):FT:=fun ρ T=>bnd (f ρ T) fun b T1=>if b=true then some (true,T1) else g ρ T1
def bH(f:FT):FT:=fun ρ T=>bnd (f ρ T) fun b T1=>some (!b,T1)
variable {ta tb:FT}{rest:List Expr}
theorem b8{f:FT}(h:DW X a f):DT X a f:=⟨PW.pt h.pe⟩
theorem jp(ha:DT X a ta):DW X (.BoolOp .And [a] pos) ta:=⟨By ha.pe⟩
theorem cE(ha:DT X a ta):DW X (.BoolOp .Or [a] pos) ta:=⟨Dj ha.pe⟩
theorem jC(ha:DT X a ta)(hb:DW X (.BoolOp .And (b::rest) pos) tb):DW X (.BoolOp .And (a::b::rest) pos) (eB ta tb):=by
 refine⟨?_⟩;refine uA (Dk ha.pe hb.pe) fun σ H Q=>?_;rintro⟨O,ts,ρ,T,b,T',hc,re,e,q⟩;obtain⟨b1,T1,e1,e⟩:=aL e;refine⟨O,ts,ρ,T,b1,T1,hc,re,e1,fun H1 s1 hc1=>?_⟩
 cases b1 with
 |true=>exact fK ⟨O,ts,ρ,T1,b,T',hc1,re.mono hc s1,by simpa using e,fun H2 s2 hc2=>q H2 (s1.trans s2) hc2⟩
 |false=>
  have e':some (false,T1)=some (b,T'):=by simpa using e
  cases e';exact fL (q H1 s1 hc1)
theorem cq(ha:DT X a ta)(hb:DW X (.BoolOp .Or (b::rest) pos) tb):DW X (.BoolOp .Or (a::b::rest) pos) (bK ta tb):=by
 refine⟨?_⟩;refine uA (EW ha.pe hb.pe) fun σ H Q=>?_;rintro⟨O,ts,ρ,T,b,T',hc,re,e,q⟩;obtain⟨b1,T1,e1,e⟩:=aL e;refine⟨O,ts,ρ,T,b1,T1,hc,re,e1,fun H1 s1 hc1=>?_⟩
 cases b1 with
 |false=>exact fL ⟨O,ts,ρ,T1,b,T',hc1,re.mono hc s1,by simpa using e,fun H2 s2 hc2=>q H2 (s1.trans s2) hc2⟩
 |true=>
  have e':some (true,T1)=some (b,T'):=by simpa using e
  cases e';exact fK (q H1 s1 hc1)
theorem bU(ha:DT X a ta):DT X (.UnaryOp .Not a pos) (bH ta):=by
 refine⟨?_⟩;refine ju (Dm ha.pe) fun σ H Q=>?_;rintro⟨O,ts,ρ,T,b,T',hc,re,e,q⟩;obtain⟨b1,T1,e1,e⟩:=aL e;cases e;exact⟨O,ts,ρ,T,b1,T',hc,re,e1,fun H1 s1 hc1=>q H1 s1 hc1⟩
def bR(f g:FE):FE:=fun ρ T=>bnd (f ρ T) fun w T1=>match asB w with
 |some b=>if b=true then g ρ T1 else some (.d (.bool false),T1)
 |none=>none
def ph(f g:FE):FE:=fun ρ T=>bnd (f ρ T) fun w T1=>match asB w with
 |some b=>if b=true then some (.d (.bool true),T1) else g ρ T1
 |none=>none
def iN(f:FE):FE:=fun ρ T=>bnd (f ρ T) fun w T1=>match asB w with
 |some b=>some (.d (.bool (!b)),T1)
 |none=>none
theorem cG{op}(h:DE X a fa):DE X (.BoolOp op [a] pos) fa:=⟨Du h.pe⟩
theorem b5(ha:DE X a fa)(hb:DE X (.BoolOp .And (b::rest) pos) fb):DE X (.BoolOp .And (a::b::rest) pos) (bR fa fb):=by
 refine⟨?_⟩;refine br (Dy ha.pe hb.pe) fun σ H Q=>?_;rintro⟨O,ts,ρ,T,w,T',hc,re,e,q⟩;obtain⟨w1,T1,e1,e⟩:=aL e;refine⟨O,ts,ρ,T,w1,T1,hc,re,e1,fun v1 H1 s1 hc1 r1=>?_⟩;split at e
 .rename_i b hb
  have hw:=jD hb;subst hw;cases (show Rep X.K O H1 v1 _ from r1)
  cases b with
  |true=>exact⟨_,rfl,fK ⟨O,ts,ρ,T1,w,T',hc1,re.mono hc s1,by simpa using e,fun v H2 s2 hc2 r2=>q v H2 (s1.trans s2) hc2 r2⟩⟩
  |false=>
   rw[if_neg Bool.false_ne_true] at e;cases e;exact⟨_,rfl,fL (q _ H1 s1 hc1 (.bl false))⟩
 .cases e
theorem FK(ha:DE X a fa)(hb:DE X (.BoolOp .Or (b::rest) pos) fb):DE X (.BoolOp .Or (a::b::rest) pos) (ph fa fb):=by
 refine⟨?_⟩;refine br (E1 ha.pe hb.pe) fun σ H Q=>?_;rintro⟨O,ts,ρ,T,w,T',hc,re,e,q⟩;obtain⟨w1,T1,e1,e⟩:=aL e;refine⟨O,ts,ρ,T,w1,T1,hc,re,e1,fun v1 H1 s1 hc1 r1=>?_⟩;split at e
 .rename_i b hb
  have hw:=jD hb;subst hw;cases (show Rep X.K O H1 v1 _ from r1)
  cases b with
  |false=>exact⟨_,rfl,fL ⟨O,ts,ρ,T1,w,T',hc1,re.mono hc s1,by simpa using e,fun v H2 s2 hc2 r2=>q v H2 (s1.trans s2) hc2 r2⟩⟩
  |true=>
   rw[if_pos rfl] at e;cases e;exact⟨_,rfl,fK (q _ H1 s1 hc1 (.bl true))⟩
 .cases e
theorem lq(ha:DE X a fa):DE X (.UnaryOp .Not a pos) (iN fa):=by
 refine⟨?_⟩;refine br (Dv ha.pe) fun σ H Q=>?_;rintro⟨O,ts,ρ,T,w,T',hc,re,e,q⟩;obtain⟨w1,T1,e1,e⟩:=aL e;refine⟨O,ts,ρ,T,w1,T1,hc,re,e1,fun v1 H1 s1 hc1 r1=>?_⟩;split at e
 .rename_i b hb
  have hw:=jD hb;subst hw;cases (show Rep X.K O H1 v1 _ from r1);cases e;exact⟨_,rfl,q _ H1 s1 hc1 (.bl _)⟩
 .cases e
def cI(c:FT)(f g:FE):FE:=fun ρ T=>bnd (c ρ T) fun b T1=>if b=true then f ρ T1 else g ρ T1
theorem dY(hc:DT X c ta)(ha:DE X a fa)(hb:DE X b fb):DE X (.IfExp c a b pos) (cI ta fa fb):=by
 refine⟨?_⟩;refine br (An hc.pe ha.pe hb.pe) fun σ H Q=>?_;rintro⟨O,ts,ρ,T,w,T',hc,re,e,q⟩;obtain⟨b1,T1,e1,e⟩:=aL e;refine⟨O,ts,ρ,T,b1,T1,hc,re,e1,fun H1 s1 hc1=>?_⟩
 cases b1 with
 |true=>exact fK ⟨O,ts,ρ,T1,w,T',hc1,re.mono hc s1,by simpa using e,fun v H2 s2 hc2 r2=>q v H2 (s1.trans s2) hc2 r2⟩
 |false=>exact fL ⟨O,ts,ρ,T1,w,T',hc1,re.mono hc s1,by simpa using e,fun v H2 s2 hc2 r2=>q v H2 (s1.trans s2) hc2 r2⟩
theorem FJ{op:UnaryOp}{r:V->Hp->VK->Prop}{g1:PyData->Option PyData}(hr:UnR X (unaryOp op) r)(snd:GO X.K r g1)(ha:DE X a fa):DE X (.UnaryOp op a pos) (fUn g1 fa):=by
 refine⟨?_⟩;refine br (EZ hr ha.pe) fun σ H Q=>?_;rintro⟨O,ts,ρ,T,w,T',hc,re,e,q⟩;obtain⟨w1,T1,e1,e⟩:=aL e;obtain⟨x,d,h1,h3,rfl,rfl⟩:=gH e;refine⟨O,ts,ρ,T,w1,T',hc,re,e1,fun v1 H1 s1 hc1 r1=>?_⟩;exact snd O ts H1 T' v1 x d Q hc1 (hc1.view r1 h1) h3 fun v H' s3 hc3 r3=>q v H' (s1.trans s3) hc3 r3
end
def ai:FA:=fun _ T=>some ([],T)
def ae(f:FE)(g:FA):FA:=fun ρ T=>bnd (f ρ T) fun w T1=>bnd (g ρ T1) fun ws T2=>some (w::ws,T2)
def dA:List W->Option (List PyData)
 |[]=>some []
 |.d x::r=>match dA r with
  |some xs=>some (x::xs)
  |none=>none
 |_::_=>none
theorem jd{K:Frag}{O:Addr->Prop}{ts:List Addr}{H:Hp}:∀{vs:List V}{ws:List W}{xs:List PyData},gi K O ts H vs ws->dA ws=some xs->Reps K O H vs xs
 |_,[],_,.nil,e=>by cases e;exact .nil
 |_,.d x::r,xs,.cons h t,e=>by
  unfold dA at e;split at e
  .rename_i ys h2
   cases e;exact .cons h (jd t h2)
  .cases e
 |_,.tp _::_,_,.cons _ _,e=>by cases e
 |_,.loc _::_,_,.cons _ _,e=>by cases e
def aE(mk:List PyData->PyData)(f:FA):FE:=fun ρ T=>bnd (f ρ T) fun ws T1=>match dA ws with
 |some xs=>if xs.length<=1000 then some (.d (mk xs),T1) else none
 |none=>none
theorem kQ{n:Nat}(h:n<=1000):n<=sizeLine:=Nat.le_trans h (by decide)
def dB(X:Cx)(f:Value)(g:List PyData->Option PyData):Prop:=∃r,CallR X f r/\∀(O:Addr->Prop) (ts:List Addr) (H:Hp) (T:Tp) (vs:List V) (xs:List PyData) (d:PyData) (Q:VK),HC X.K O ts H T->Vws X.K O H vs xs->g xs=some d ->
 (∀v H',SameX ts H H'->HC X.K O ts H' T->Rep X.K O H' v d->Q v H')->r vs H Q
def fCB(g:List PyData->Option PyData)(f:FA):FE:=fun ρ T=>bnd (f ρ T) fun ws T1=>match views T1 ws with
 |some xs=>match g xs with
  |some d=>some (.d d,T1)
  |none=>none
 |none=>none
section
variable {X:Cx}{pos p:Pos}{e:Expr}{es:List Expr}{f:FE}{g:FA}
theorem aC:DA X [] ai:=by
 refine⟨?_⟩;refine uJ cX fun σ H Q=>?_;rintro⟨O,ts,ρ,T,w,T',hc,re,e,q⟩;cases e;exact q [] H (.refl _ _) hc .nil
theorem au(ha:DE X e f)(hr:DA X es g)(hs:starEach (e::es) X.env=(false,eval e X.env)::starEach es X.env:=by exact bu rfl):DA X (e::es) (ae f g):=by
 refine⟨?_⟩;refine uJ (cx ha.pe hr.pe hs) fun σ H Q=>?_;rintro⟨O,ts,ρ,T,w,T',hc,re,e,q⟩;obtain⟨w1,T1,e1,e⟩:=aL e;obtain⟨ws,T2,e2,e⟩:=aL e;cases e;refine⟨O,ts,ρ,T,w1,T1,hc,re,e1,fun v1 H1 s1 hc1 r1=>?_⟩;exact⟨O,ts,ρ,T1,ws,_,hc1,re.mono hc s1,e2,fun vs H2 s2 hc2 r2=>q _ H2 (s1.trans s2) hc2 (.cons (r1.mono hc1 s2) r2)⟩
theorem sV{mk:List PyData->PyData}{g:FA}{ρ:Rho}{T T':Tp}{w:W}(e:aE mk g ρ T=some (w,T')):∃ws xs,g ρ T=some (ws,T')/\dA ws=some xs/\xs.length<=1000/\w=.d (mk xs):=by
 obtain⟨ws,T1,e1,e⟩:=aL e;split at e
 .rename_i xs h1
  split at e
  .rename_i h2
   cases e;exact⟨ws,xs,e1,h1,h2,rfl⟩
  .cases e
 .cases e
theorem aS{x1}(h:DA X es g):DE X (.Tuple es x1 pos) (aE .tuple g):=by
 refine⟨?_⟩;refine br (uF h.pe) fun σ H Q=>?_;rintro⟨O,ts,ρ,T,w,T',hc,re,e,q⟩;obtain⟨ws,xs,e1,h1,h2,rfl⟩:=sV e;refine⟨O,ts,ρ,T,ws,T',hc,re,e1,fun vs H1 s1 hc1 r1=>?_⟩;have rs:=jd r1 h1;refine⟨kQ (by rw[rs.length];exact h2),fun p hp=>?_⟩;exact q _ _ (s1.trans (.new hp _)) (hc1.new hp _) (hc1.newT hp rs)
theorem dO(h:DA X es g):DE X (.List es pos) (aE .list g):=by
 refine⟨?_⟩;refine br (nU h.pe) fun σ H Q=>?_;rintro⟨O,ts,ρ,T,w,T',hc,re,e,q⟩;obtain⟨ws,xs,e1,h1,h2,rfl⟩:=sV e;refine⟨O,ts,ρ,T,ws,T',hc,re,e1,fun vs H1 s1 hc1 r1=>?_⟩;have rs:=jd r1 h1;refine⟨kQ (by rw[rs.length];exact h2),fun p hp=>?_⟩;exact q _ _ (s1.trans (.new hp _)) (hc1.new hp _) (hc1.newL hp rs)
theorem vd{K:Frag}{r:List V->Hp->VK->Prop}{gg:List PyData->Option PyData}(snd:∀(O:Addr->Prop) (ts:List Addr) (H:Hp) (T:Tp) (vs:List V) (xs:List PyData) (d:PyData) (Q:VK),HC K O ts H T->Vws K O H vs xs->gg xs=some d ->
  (∀v H',SameX ts H H'->HC K O ts H' T->Rep K O H' v d->Q v H')->r vs H Q) {σ:L2.St}{H:Hp}{Q:VK} (h:lift K (fCB gg g) σ H Q):tCB r (vJ K g) σ H Q:=by
 obtain⟨O,ts,ρ,T,w,T',hc,re,e,q⟩:=h;obtain⟨ws,T1,e1,e⟩:=aL e;refine⟨O,ts,ρ,T,ws,T1,hc,re,e1,fun vs H1 s1 hc1 r1=>?_⟩;split at e
 .rename_i xs h1
  split at e
  .rename_i d h2
   cases e;exact snd O ts H1 T' vs xs d Q hc1 (hc1.views r1 h1) h2 fun v H' s3 hc3 r3=>q v H' (s1.trans s3) hc3 r3
  .cases e
 .cases e
theorem ba{x:Str}{id:String}{gg:List PyData->Option PyData}(hc:dB X (.builtin id) gg)(hg:Gl X x)(hm:X.mg x=none)(hv:bootBuiltins x=some (.builtin id))(ha:DA X (e::es) g)(hn:x≠"__name__":=by decide)(hdb:(x == ("__debug__" : Str))=false:=by decide)
  (he:starEach (e::es) X.env=(false,eval e X.env)::starEach es X.env:=by exact bu rfl) (hpl:(backTo pos (starEach es X.env)).any (·.1)=false:=by exact cg rfl):DE X (.Call (.Name x p) (e::es) [] pos) (fCB gg g):=by
 refine⟨?_⟩;obtain⟨r,hr,snd⟩:=hc;exact br (kG hr hg hm hv ha.pe hn hdb he hpl) fun σ H Q h=>vd snd h
theorem c8{x:Str}{id:String}{gg:List PyData->Option PyData}(hc:dB X (.type id) gg)(hg:Gl X x)(hm:X.mg x=none)(hv:bootBuiltins x=some (.type id))(ha:DA X (e::es) g)(hn:x≠"__name__":=by decide)(hdb:(x == ("__debug__" : Str))=false:=by decide)
  (he:starEach (e::es) X.env=(false,eval e X.env)::starEach es X.env:=by exact bu rfl) (hpl:(backTo pos (starEach es X.env)).any (·.1)=false:=by exact cg rfl):DE X (.Call (.Name x p) (e::es) [] pos) (fCB gg g):=by
 refine⟨?_⟩;obtain⟨r,hr,snd⟩:=hc;exact br (l9 hr hg hm hv ha.pe hn hdb he hpl) fun σ H Q h=>vd snd h
end
abbrev FI:=Rho->Tp->Option (List PyData×Tp)
def Gz(K:Frag)(tl:TE):TI:=fun σ H R=>tl σ H fun x H1=>(∃a xs,x=.ref a/\SqL K H1 a xs/\(xs.length<=sizeLine->R (Itl K a) H1))\/(∃a xs,x=.ref a/\SqT K H1 a xs/\(xs.length<=sizeLine->R (Itt K a) H1))\/(∃z,x=.str z/\R (Its z) H1)\/∃a o kvs,x=.ref a/\H1 a=some (.frz o (.dK kvs))/\(kvs.length<=sizeLine->R (Itd a o kvs) H1)
theorem Dp{X:Cx}{tg l:Expr}{tl:TE}(hl:PE X l tl):PI X tg l (Gz X.K tl):=by
 intro pins s σ H R I h;refine thn (hl pins s σ H _ I h) fun v s1 ⟨x,H1,I1,r1,q1⟩=>?_
 have fk:∀b∈[s1.heap.objs.size],dC X pins H1 b:=fun b hb=>by
  have e:b=s1.heap.objs.size:=by simpa using hb
  subst e;exact I1.fpOk (Nat.le_refl _) (I1.hok.fresh (Nat.le_refl _))
 rcases q1 with⟨a,xs,e,hq,q⟩|⟨a,xs,e,hq,q⟩|⟨z,e,q⟩|⟨a,o,kvs,e,hq,q⟩
 .subst e
  cases r1;obtain⟨its,rv,p,hz⟩:=I1.list hq;refine wpAny_pyIter_list p.isList ?_;exact⟨s1.heap.objs.size,[s1.heap.objs.size],_,_,H1,rfl,I1.kept (t':=s1.toks) fun b o e=>Heap.get?_push_of_some _ e,yZ a _,⟨_,Heap.get?_push_size _ rfl,rfl,rfl⟩,fk,q hz⟩
 .subst e
  cases r1;obtain⟨its,rv,p,hz⟩:=I1.tuple hq;refine wpAny_pyIter_tuple (show s1.heap.IsTuple a its.toArray from p) ?_;exact⟨s1.heap.objs.size,[s1.heap.objs.size],_,_,H1,rfl,I1.kept (t':=s1.toks) fun b o e=>Heap.get?_push_of_some _ e,yk a _,⟨_,Heap.get?_push_size _ rfl,rfl,rfl⟩,fk,q hz⟩
 .subst e
  obtain⟨t,rfl⟩:=r1
  cases ha:z.cps.all (· < 128) with
  |false=>
   refine wpAny_pyIter_wide ha ?_;exact⟨s1.heap.objs.size,[s1.heap.objs.size],_,_,H1,rfl,I1.kept (t':=s1.toks) fun b o e=>Heap.get?_push_of_some _ e,rP z t "str_iterator" _ (.inr rfl),⟨_,Heap.get?_push_size _ rfl,rfl,rfl⟩,fk,q⟩
  |true=>
   refine wpAny_pyIter_ascii ha ?_;exact⟨s1.heap.objs.size,[s1.heap.objs.size],_,_,H1,rfl,I1.kept (t':=s1.toks) fun b o e=>Heap.get?_push_of_some _ e,rP z t "str_ascii_iterator" _ (.inl rfl),⟨_,Heap.get?_push_size _ rfl,rfl,rfl⟩,fk,q⟩
 .subst e
  cases r1;obtain⟨z,y,vs,kv,dd⟩:=gz I1.hok hq;refine wpAny_pyIter_dict y dd ?_;exact⟨s1.heap.objs.size,[s1.heap.objs.size],_,_,H1,rfl,I1.kept (t':=s1.toks) fun b o e=>Heap.get?_push_of_some _ e,y3 a _ o kvs,⟨_,Heap.get?_push_size _ rfl,rfl,by rw[kv.length];rfl⟩,fk,q z⟩
def ItOk(K:Frag)(O:Addr->Prop)(H1:Hp)(J:It)(ds:List PyData):Prop:=∀O' H',Le O H1 O' H'->(∀i,i<ds.length->J.go i H')/\J.stop ds.length H'/\∀i v H'',J.yld i H' v H''->i<ds.length->H''=H'/\∃d,ds[i]? = some d/\Rep K O' H' v d
inductive LiftIP(K:Frag)(f:FI)(σ:L2.St)(H:Hp)(R:It->Hp->Prop):Prop where
 |mk (O:Addr->Prop) (ts:List Addr) (ρ:Rho) (T:Tp) (ds:List PyData) (T':Tp) (hc:HC K O ts H T) (re:RelE K O ts H σ ρ) (e:f ρ T=some (ds,T')) (q:∀J H1,SameX ts H H1->HC K O ts H1 T'->ItOk K O H1 J ds->ds.length<=sizeLine->R J H1):LiftIP K f σ H R
def oH(K:Frag)(f:FI):TI:=fun σ H R=>LiftIP K f σ H R
structure DI(X:Cx)(tg e:Expr)(f:FI):Prop where
 pe:PI X tg e (oH X.K f)
theorem nS{X:Cx}{tg e:Expr}{t t':TI}(h:PI X tg e t)(i:∀σ H Q,t' σ H Q->t σ H Q):PI X tg e t':=fun pins s σ H Q I q=>h pins s σ H Q I (i σ H Q q)
def signs(z:Str):List PyData:=z.cps.toList.map fun c=>.str ⟨#[c]⟩
def gO:PyData->Option (List PyData)
 |.list xs=>some xs
 |.tuple xs=>some xs
 |.str z=>if z.length<=sizeLine then some (signs z) else none
 |.dict ds=>some (ds.map (·.1))
 |_=>none
def aZ(f:FE):FI:=fun ρ T=>bnd (f ρ T) fun w T1=>match w with
 |.d x=>match gO x with
  |some xs=>some (xs,T1)
  |none=>none
 |_=>none
theorem ItOk.lst{K:Frag}{O:Addr->Prop}{H1:Hp}{a:Addr}{vs:List V}{ds:List PyData}(h:LstAt K O H1 a vs)(r:Reps K O H1 vs ds):ItOk K O H1 (Itl K a) ds:=fun O' H' le=>by
 have sq:=(h.mono le).sq;have hl:=r.length;refine⟨fun i hi=>⟨vs,vs[i]'(by omega),sq,by simp⟩,⟨vs,sq,by omega⟩,fun i v H'' y hi=>?_⟩;obtain⟨e,y⟩:=y;obtain⟨d,h1,h2⟩:=r.get (y vs sq);exact⟨e,d,h1,h2.mono le⟩
theorem ItOk.tup{K:Frag}{O:Addr->Prop}{H1:Hp}{a:Addr}{vs:List V}{ds:List PyData}(h:TupAt K O H1 a vs)(r:Reps K O H1 vs ds):ItOk K O H1 (Itt K a) ds:=fun O' H' le=>by
 have sq:=(h.mono le).sq;have hl:=r.length;refine⟨fun i hi=>⟨vs,vs[i]'(by omega),sq,by simp⟩,⟨vs,sq,by omega⟩,fun i v H'' y hi=>?_⟩;obtain⟨e,y⟩:=y;obtain⟨d,h1,h2⟩:=r.get (y vs sq);exact⟨e,d,h1,h2.mono le⟩
theorem ItOk.str{K:Frag}{O:Addr->Prop}{H1:Hp}{z:Str}:ItOk K O H1 (Its z) (signs z):=fun O' H' le=>by
 have hl:(signs z).length=z.cps.size:=by simp[signs]
 refine⟨fun i hi=>by rw[hl] at hi;exact hi,by rw[hl];exact Nat.le_refl _,fun i v H'' y hi=>?_⟩;obtain⟨e,c,hc,y⟩:=y;subst y;refine⟨e,.str ⟨#[c]⟩,?_,.str _⟩;unfold signs;rw[List.getElem?_map]
 have:z.cps.toList[i]? = some c:=by simpa using hc
 rw[this];rfl
theorem kj{K:Frag}{O:Addr->Prop}{H:Hp}:∀{kvs:List (Key×V)}{ds:List (PyData×PyData)},RepK K O H kvs ds->kvs.length=ds.length
 |_,_,.nil=>rfl
 |_,_,.cons _ t=>congrArg (· + 1) (kj t)
theorem rT{K:Frag}{O:Addr->Prop}{H:Hp}:∀{kvs:List (Key×V)}{ds:List (PyData×PyData)}{i:Nat}{k:Key}{v:V},RepK K O H kvs ds->kvs[i]? = some (k,v)->(ds.map (·.1))[i]? = some (c4 k)
 |_,_,_,_,_,.nil,e=>by simp at e
 |_,_,0,_,_,.cons r _,e=>by simp at e;obtain⟨rfl,rfl⟩:=e;rfl
 |_,_,i+1,k,v,.cons _ t,e=>by
  have:=rT (i:=i) t (by simpa using e);simpa using this
theorem mW{K:Frag}{O:Addr->Prop}{H:Hp}(k:Key):Rep K O H (kV k) (c4 k):=by
 cases k with
 |inl i=>exact .int i
 |inr x=>exact .str x
theorem ItOk.dct{K:Frag}{O:Addr->Prop}{H1:Hp}{a:Addr}{o:Obj}{kvs:List (Key×V)}{ds:List (PyData×PyData)}(n:¬O a)(h:H1 a=some (.frz o (.dK kvs)))(r:RepK K O H1 kvs ds):ItOk K O H1 (Itd a o kvs) (ds.map (·.1)):=fun O' H' le=>by
 have h':=(le a _ n h).2;have hl:=kj r;refine⟨fun i hi=>⟨h',by simp at hi;omega⟩,⟨h',by simp[hl]⟩,fun i v H'' y hi=>?_⟩;obtain⟨e,k,v0,y1,y2⟩:=y;subst y2;exact⟨e,_,rT r y1,mW k⟩
theorem bM{X:Cx}{tg e:Expr}{f:FE}(h:DE X e f):DI X tg e (aZ f):=by
 refine⟨?_⟩;refine nS (Dp h.pe) fun σ H R=>?_;rintro⟨O,ts,ρ,T,ds,T',hc,re,e,q⟩;obtain⟨w1,T1,e1,e⟩:=aL e;refine⟨O,ts,ρ,T,w1,T1,hc,re,e1,fun v1 H1 s1 hc1 r1=>?_⟩;split at e
 .rename_i x
  split at e
  .rename_i xs h1
   cases e;have rr:Rep X.K O H1 v1 x:=r1
   cases x with
   |list ys=>
    cases h1
    cases rr with
    |lst t r=>exact .inl ⟨_,_,rfl,t.sq,fun hz=>q _ H1 s1 hc1 (.lst t r) (by rw[←r.length];exact hz)⟩
   |tuple ys=>
    cases h1
    cases rr with
    |tup t r=>exact .inr (.inl ⟨_,_,rfl,t.sq,fun hz=>q _ H1 s1 hc1 (.tup t r) (by rw[←r.length];exact hz)⟩)
   |str z=>
    have h1':(if z.length<=sizeLine then some (signs z) else none)=some _:=h1;split at h1'
    .rename_i hz
     cases h1';cases rr;exact .inr (.inr (.inl ⟨z,rfl,q _ H1 s1 hc1 .str (by rw[show (signs z).length=z.cps.size by simp[signs]];exact hz)⟩))
    .cases h1'
   |dict ys=>
    cases h1
    cases rr with
    |dct n t r=>exact .inr (.inr (.inr ⟨_,_,_,rfl,t,fun hz=>q _ H1 s1 hc1 (.dct n t r) (by rw[List.length_map,←kj r];exact hz)⟩))
   |_=>cases h1
  .cases e
 .cases e
def bc(lo:Int)(n:Nat):List PyData:=(List.range n).map fun(i:Nat)=>.int (lo+(i:Int))
theorem ItOk.rng{K:Frag}{O:Addr->Prop}{H1:Hp}{lo:Int}{n:Nat}:ItOk K O H1 (Itr lo n) (bc lo n):=fun O' H' le=>by
 have hl:(bc lo n).length=n:=by simp[bc]
 refine⟨fun i hi=>by rw[hl] at hi;exact hi,by rw[hl];exact Nat.le_refl _,fun i v H'' y hi=>?_⟩;obtain⟨e,y⟩:=y;subst y;rw[hl] at hi;exact⟨e,.int (lo+i),by simp[bc,hi],.int _⟩
def cN(j:Int):Bool:=decide (-1000000<=j/\j<=16777216)
theorem rng_ok{j:Int}(h:cN j=true) : -(2^62)<=j/\j<2^62/\j.toNat<=sizeLine:=by
 have h':=of_decide_eq_true h
 have e:sizeLine=16777216:=by decide
 omega
def bW(f:FE):FI:=fun ρ T=>bnd (f ρ T) fun w T1=>match w with
 |.d (.int j)=>if cN j=true then some (bc 0 j.toNat,T1) else none
 |_=>none
def jN(f g:FE):FI:=fun ρ T=>bnd (f ρ T) fun w T1=>bnd (g ρ T1) fun w' T2=>match w,w' with
 |.d (.int i),.d (.int j)=>if 0<=i/\cN i=true/\cN j=true then some (bc i (j-i).toNat,T2) else none
 |_,_=>none
theorem iz{X:Cx}{tg a:Expr}{f:FE}{p pos:Pos}(hg:Gl X "range")(hm:X.mg "range"=none)(ha:DE X a f)(hs:starEach [a] X.env=[(false,eval a X.env)]:=by exact kF rfl):DI X tg (.Call (.Name "range" p) [a] [] pos) (bW f):=by
 refine⟨?_⟩;refine nS (zf (ta:=lx (lift X.K f) oU) hg hm (cx ha.pe cX (by rw[hs];rfl)) hs) fun σ H R=>?_;rintro⟨O,ts,ρ,T,ds,T',hc,re,e,q⟩;obtain⟨w1,T1,e1,e⟩:=aL e;refine⟨O,ts,ρ,T,w1,T1,hc,re,e1,fun v1 H1 s1 hc1 r1=>?_⟩;split at e
 .rename_i j
  split at e
  .rename_i h1
   cases e;cases (show Rep X.K O H1 v1 _ from r1);obtain⟨b1,b2,b3⟩:=rng_ok h1;exact⟨j,rfl,b1,b2,q _ H1 s1 hc1 .rng (by simpa[bc] using b3)⟩
  .cases e
 .cases e
theorem Cz{X:Cx}{tg a b:Expr}{f g:FE}{p pos:Pos}(hg:Gl X "range")(hm:X.mg "range"=none)(ha:DE X a f)(hb:DE X b g)(hs:starEach [a,b] X.env=[(false,eval a X.env),(false,eval b X.env)]:=by exact Aa rfl rfl)(hs2:starEach [b] X.env=[(false,eval b X.env)]:=by exact kF rfl) :
  DI X tg (.Call (.Name "range" p) [a,b] [] pos) (jN f g):=by
 refine⟨?_⟩;refine nS (ze (ta:=lx (lift X.K f) (lx (lift X.K g) oU)) hg hm (cx ha.pe (cx hb.pe cX (by rw[hs2];rfl)) (by rw[hs,hs2])) hs hs2) fun σ H R=>?_;rintro⟨O,ts,ρ,T,ds,T',hc,re,e,q⟩;obtain⟨w1,T1,e1,e⟩:=aL e;obtain⟨w2,T2,e2,e⟩:=aL e;refine⟨O,ts,ρ,T,w1,T1,hc,re,e1,fun v1 H1 s1 hc1 r1=>?_⟩;refine⟨O,ts,ρ,T1,w2,T2,hc1,re.mono hc s1,e2,fun v2 H2 s2 hc2 r2=>?_⟩;split at e
 .split at e
  .rename_i h1
   cases e;cases (show Rep X.K O H1 v1 _ from r1);cases (show Rep X.K O H2 v2 _ from r2);obtain⟨a1,a2,a3⟩:=rng_ok h1.2.1;obtain⟨b1,b2,b3⟩:=rng_ok h1.2.2;exact⟨_,_,rfl,⟨a1,a2,b1,b2⟩,q _ H2 (s1.trans s2) hc2 .rng (by have:=h1.1;simp[bc];omega)⟩
  .cases e
 .cases e
def cH(c:FT)(e:FE)(ρ:Rho):List PyData->Tp->Option (List PyData×Tp)
 |[],T=>some ([],T)
 |d::r,T=>bnd (c (some (.d d)::ρ) T) fun b T1=>if b=true then bnd (e (some (.d d)::ρ) T1) fun w T2=>match w with
   |.d y=>bnd (cH c e ρ r T2) fun ys T3=>some (y::ys,T3)
   |_=>none
  else cH c e ρ r T1
def bo(it:FI)(c:FT)(e:FE):FE:=fun ρ T=>bnd (it ρ T) fun ds T1=>bnd (cH c e ρ ds T1) fun ys T2=>some (.d (.list ys),T2)
def bq:FT:=fun _ T=>some (true,T)
theorem RelE.cons{K:Frag}{O:Addr->Prop}{ts:List Addr}{H:Hp}{σ:L2.St}{ρ:Rho}{v:V}{d:PyData}(re:RelE K O ts H σ ρ)(r:Rep K O H v d):RelE K O ts H (some v::σ) (some (.d d)::ρ):=fun i w e=>by
 cases i with
 |zero=>cases e;exact⟨v,rfl,r⟩
 |succ i=>
  obtain⟨u,h1,h2⟩:=re i w (by simpa using e);exact⟨u,by simpa using h1,h2⟩
theorem uh{K:Frag}{O:Addr->Prop}{ts:List Addr}{H1:Hp}{σ:L2.St}{ρ:Rho}{J:It}{c:FT}{e:FE}{ds ys:List PyData}{T1 T2:Tp}{Dn:List V->Hp->Prop}(hc:HC K O ts H1 T1)(re:RelE K O ts H1 σ ρ)(ok:ItOk K O H1 J ds)(hz:ds.length<=sizeLine)
  (ee:cH c e ρ ds T1=some (ys,T2)) (q:∀vs H',SameX ts H1 H'->HC K O ts H' T2->Reps K O H' vs ys->Dn vs H') :
  ∃W:Nat->Nat->List V->Hp->Prop,(∃m,W 0 m [] H1)/\lI σ J (liftT K c) (lift K e) W Dn:=by
 refine⟨fun i m vs H'=>m=ds.length-i/\i<=ds.length/\vs.length<=i/\∃T dn rs,SameX ts H1 H'/\HC K O ts H' T/\Reps K O H' vs dn/\cH c e ρ (ds.drop i) T=some (rs,T2)/\ys=dn++rs,⟨_,rfl,Nat.zero_le _,Nat.le_refl _,T1,[],ys,.refl _ _,hc,.nil,ee,rfl⟩,?_⟩;rintro i m vs H' ⟨rfl,hi,hv,T,dn,rs,s1,hc1,rv,ec,ey⟩;obtain⟨k1,k2,k3⟩:=ok O H' (hc.le s1)
 by_cases hlt:i<ds.length
 .refine .inr ⟨k1 i hlt,by omega,fun vs' H2=>i+1<=ds.length/\vs'.length<=i+1/\∃T dn rs,SameX ts H1 H2/\HC K O ts H2 T/\Reps K O H2 vs' dn/\cH c e ρ (ds.drop (i+1)) T=some (rs,T2)/\ys=dn++rs,fun vs' H2 n=>⟨ds.length-(i+1),by omega,rfl,n⟩,fun v H2 y=>?_⟩
  obtain⟨e2,d,hd,rd⟩:=k3 i v H2 y hlt;subst e2
  have hdr:ds.drop i=d::ds.drop (i+1):=by
   rw[List.drop_eq_getElem_cons hlt];have:=(List.getElem?_eq_some_iff.mp hd).2;rw[this]
  rw[hdr] at ec;obtain⟨b,T3,e3,ec⟩:=aL ec;refine⟨O,ts,some (.d d)::ρ,T,b,T3,hc1,(re.mono hc s1).cons rd,e3,fun H3 s3 hc3=>?_⟩
  cases b with
  |false=>
   rw[if_neg Bool.false_ne_true] at ec;exact fL ⟨hlt,by omega,T3,dn,rs,s1.trans s3,hc3,rv.mono (hc1.le s3),ec,ey⟩
  |true=>
   rw[if_pos rfl] at ec;obtain⟨w,T4,e4,ec⟩:=aL ec;refine fK ⟨O,ts,some (.d d)::ρ,T3,w,T4,hc3,((re.mono hc s1).cons rd).mono hc1 s3,e4,fun u H4 s4 hc4 r4=>?_⟩;split at ec
   .rename_i y
    obtain⟨zs,T5,e5,ec⟩:=aL ec;cases ec;refine⟨hlt,by simp;omega,T4,dn++[y],zs,s1.trans (s3.trans s4),hc4,(rv.mono (hc1.le (s3.trans s4))).append (.cons r4 .nil),e5,by rw[ey];simp⟩
   .cases ec
 .have e:i=ds.length:=by omega
  subst e;rw[List.drop_eq_nil_of_le (Nat.le_refl _)] at ec;cases ec;rw[List.append_nil] at ey;subst ey;exact .inl ⟨k2,by omega,q vs H' s1 hc1 rv⟩
structure DTs(X:Cx)(es:List Expr)(f:FT):Prop where
 pe:PTs X es (liftT X.K f)
theorem ny{X:Cx}:DTs X [] bq:=⟨fun pins s σ H Q E I h=>by
 refine BD pins s σ H Q E I ?_;obtain⟨O,ts,ρ,T,w,T',hc,re,e,q⟩:=h;cases e
 exact q H (.refl _ _) hc⟩
theorem t5{X:Cx}{c:Expr}{f:FT}(hx:X.xe=fun _ _=>False)(h:DT X c f):DTs X [c] f:=⟨BC hx h.pe⟩
theorem CC{X:Cx}{x:Str}{scope osc:Scope}{N N':List Str}{elt iter:Expr}{ifs:List Expr}{px pos:Pos}{it:FI}{c:FT}{f:FE}(S:CS osc N x scope N')(hi:DI X (.Name x px) iter it)
  (he:∀C s0 H0 ex,DE (b7 X x scope C s0 H0 ex N') elt f) (ht:∀C s0 H0 ex,DTs (b7 X x scope C s0 H0 ex N') ifs c) (hc:X.calm=true:=by rfl) (hs:X.env.scope=osc:=by rfl) (hN:X.N=N:=by rfl)
  (hf:∀v,foldedSetIterable iter X.env v=pure v:=by intro _;rfl):DE X (.ListComp elt [⟨.Name x px,iter,ifs,0⟩] scope pos) (bo it c f):=by
 refine⟨?_⟩;refine br (Aq (wi:=oH X.K it) (tt:=liftT X.K c) (te:=lift X.K f) S hi.pe (fun C s0 H0 ex=>(he C s0 H0 ex).pe) (fun C s0 H0 ex=>(ht C s0 H0 ex).pe) hc hs hN hf) fun σ H Q=>?_;rintro⟨O,ts,ρ,T,w,T',hc,re,e,q⟩;obtain⟨ds,T1,e1,e⟩:=aL e;obtain⟨ys,T2,e2,e⟩:=aL e;cases e;refine⟨O,ts,ρ,T,ds,T1,hc,re,e1,fun J H1 s1 hc1 ok hz=>?_⟩;exact uh hc1 (re.mono hc s1) ok hz e2 fun vs H' s2 hc2 r2 p hp=>q _ _ (s1.trans (s2.trans (.new hp _))) (hc2.new hp _) (hc2.newL hp r2)
inductive Fl where
 |nx|rt (x:PyData)|ro (x:PyData)|bk|ct
abbrev FS:=Rho->Tp->Option ((Fl×Rho)×Tp)
structure RS(K:Frag)(O₀:Addr->Prop)(H₀:Hp)(F:List ((Addr->Prop)×Hp))(ts:List Addr)(O:Addr->Prop)(H:Hp)(σ:L2.St)(ρ:Rho)(T:Tp):Prop where
 hc:HC K O ts H T
 re:RelE K O ts H σ ρ
 sub:∀b,O₀ b->O b
 ots:∀b∈ts,O₀ b
 same:SameX ts H₀ H
 fresh:∀(i:Nat) (xs:PyData) (a:Addr),ρ[i]? = some (some (.loc xs))->σ[i]? = some (some (.ref a))->H₀ a=none/\¬O₀ a
 dist:∀(i j:Nat) (xs ys:PyData) (v:V),ρ[i]? = some (some (.loc xs))->ρ[j]? = some (some (.loc ys))->σ[i]? = some (some v)->σ[j]? = some (some v)->i=j
 frs:∀f∈F,Le f.1 f.2 O H
 len:σ.length=ρ.length
def OwnV(K:Frag)(O A:Addr->Prop)(H:Hp)(v:V):PyData->Prop
 |.tuple [x,y]=>∃p a b,v=.ref p/\a≠b/\(∀c,A c↔c=a\/c=b)/\¬O p/\H p=some (.tup [.ref a,.ref b])/\OwnAt K O H a x/\OwnAt K O H b y
 |.none=>v=.non/\∀c,¬A c
 |x=>∃a,v=.ref a/\(∀c,A c↔c=a)/\OwnAt K O H a x
theorem OwnV.mono{K:Frag}{O O' A:Addr->Prop}{H:Hp}{v:V}{x:PyData}(le:Le O H O' H)(h:OwnV K O A H v x):OwnV K O' A H v x:=by
 unfold OwnV at h ⊢;split at h
 .obtain⟨p,a,b,e1,e2,e3,np,hp,oa,ob⟩:=h
  exact⟨p,a,b,e1,e2,e3,(le p _ np hp).1,hp,oa.mono (fun _ h=>h) le,ob.mono (fun _ h=>h) le⟩
 .exact h
 .obtain⟨a,e,hA,oa⟩:=h
  exact⟨a,e,hA,oa.mono (fun _ h=>h) le⟩
def v8(K:Frag)(O₀:Addr->Prop)(H₀:Hp)(F:List ((Addr->Prop)×Hp))(ts:List Addr)(D:Ends)(ρ':Rho)(T':Tp):Fl->Prop
 |.nx=>∀O' σ' H',RS K O₀ H₀ F ts O' H' σ' ρ' T'->D.nx σ' H'
 |.bk=>∀O' σ' H',RS K O₀ H₀ F ts O' H' σ' ρ' T'->D.bk σ' H'
 |.ct=>∀O' σ' H',RS K O₀ H₀ F ts O' H' σ' ρ' T'->D.ct σ' H'
 |.rt x=>∀v H',SameX ts H₀ H'->HC K O₀ ts H' T'->Rep K O₀ H' v x->D.rt v H'
 |.ro x=>∀(A:Addr->Prop) v H',SameX ts H₀ H'->(∀b,A b->H₀ b=none/\¬O₀ b)->HC K (fun b=>O₀ b\/A b) ts H' T'->OwnV K (fun b=>O₀ b\/A b) A H' v x->D.rt v H'
inductive LiftSP(K:Frag)(f:FS)(D:Ends)(σ:L2.St)(H:Hp):Prop where
 |mk (O₀:Addr->Prop) (H₀:Hp) (F:List ((Addr->Prop)×Hp)) (ts:List Addr) (O:Addr->Prop) (ρ:Rho) (T:Tp) (fl:Fl) (ρ':Rho) (T':Tp) (rs:RS K O₀ H₀ F ts O H σ ρ T) (e:f ρ T=some ((fl,ρ'),T')) (q:v8 K O₀ H₀ F ts D ρ' T' fl):LiftSP K f D σ H
def oG(K:Frag)(f:FS):TS:=fun D σ H=>LiftSP K f D σ H
structure DS(X:Cx)(s:Stmt)(f:FS):Prop where
 pe:PS X s (oG X.K f)
structure DSs(X:Cx)(s:List Stmt)(f:FS):Prop where
 pe:PSs X s (oG X.K f)
theorem cj{X:Cx}{e:Stmt}{t t':TS}(h:PS X e t)(i:∀D σ H,t' D σ H->t D σ H):PS X e t':=fun pins s σ H D I q=>h pins s σ H D I (i D σ H q)
theorem mY{X:Cx}{e:List Stmt}{t t':TS}(h:PSs X e t)(i:∀D σ H,t' D σ H->t D σ H):PSs X e t':=fun pins s σ H D I q=>h pins s σ H D I (i D σ H q)
section
variable {K:Frag}{O₀:Addr->Prop}{H₀:Hp}{F:List ((Addr->Prop)×Hp)}{ts:List Addr}{O:Addr->Prop}{H H1:Hp}{σ:L2.St}{ρ:Rho}{T T1:Tp}
theorem RS.step(r:RS K O₀ H₀ F ts O H σ ρ T)(s:SameX ts H H1)(c:HC K O ts H1 T1):RS K O₀ H₀ F ts O H1 σ ρ T1 where
 hc:=c
 re:=r.re.mono r.hc s
 sub:=r.sub
 ots:=r.ots
 same:=r.same.trans s
 fresh:=r.fresh
 dist:=r.dist
 frs:=fun f hf=>(r.frs f hf).trans (r.hc.le s)
 len:=r.len
theorem fm{i j:Nat}{w:W}{xs:PyData}(hw:∀ys,w≠.loc ys)(e:(ρ.set i (some w))[j]? = some (some (.loc xs))):j≠i/\ρ[j]? = some (some (.loc xs)):=by
 by_cases z:i=j
 .subst z
  rw[List.getElem?_set_self'] at e
  cases h:ρ[i]? with
  |none=>rw[h] at e;cases e
  |some u=>
   rw[h] at e;have e':some (some w)=some (some (W.loc xs)):=e;cases e';exact absurd rfl (hw xs)
 .rw[List.getElem?_set_ne z] at e
  exact⟨fun q=>z q.symm,e⟩
theorem RS.set{i:Nat}{v:V}{w:W}(r:RS K O₀ H₀ F ts O H σ ρ T)(rw':RepW K O ts H v w)(hw:∀ys,w≠.loc ys):RS K O₀ H₀ F ts O H (σ.set i (some v)) (ρ.set i (some w)) T where
 hc:=r.hc
 re:=fun j u e=>by
  by_cases z:i=j
  .subst z
   have hl:i<ρ.length:=by
    have:=(List.getElem?_eq_some_iff.mp e).1;simpa using this
   rw[List.getElem?_set_self hl] at e;cases e;exact⟨v,by rw[List.getElem?_set_self (by rw[r.len];exact hl)],rw'⟩
  .rw[List.getElem?_set_ne z] at e
   obtain⟨x,h1,h2⟩:=r.re j u e;exact⟨x,by rw[List.getElem?_set_ne z];exact h1,h2⟩
 sub:=r.sub
 ots:=r.ots
 same:=r.same
 fresh:=fun j xs a e1 e2=>by
  obtain⟨n,e⟩:=fm hw e1;rw[List.getElem?_set_ne (Ne.symm n)] at e2;exact r.fresh j xs a e e2
 dist:=fun j k xs ys u e1 e2 e3 e4=>by
  obtain⟨n1,e1⟩:=fm hw e1;obtain⟨n2,e2⟩:=fm hw e2;rw[List.getElem?_set_ne (Ne.symm n1)] at e3;rw[List.getElem?_set_ne (Ne.symm n2)] at e4;exact r.dist j k xs ys u e1 e2 e3 e4
 frs:=r.frs
 len:=by simp[r.len]
theorem RS.ownO{i:Nat}{p:Addr}{o:HO}{xs:PyData}(r:RS K O₀ H₀ F ts O H σ ρ T)(hp:H p=none)(hm:Mut (some o))(rv:Le O H (fun b=>O b\/b=p) (upd H p o)->OwnAt K (fun b=>O b\/b=p) (upd H p o) p xs):RS K O₀ H₀ F ts (fun b=>O b\/b=p) (upd H p o) (σ.set i (some (.ref p))) (ρ.set i (some (.loc xs))) T:=by
 have le:Le O H (fun b=>O b\/b=p) (upd H p o):=fun a o n e=>by
  have z:a≠p:=cV e hp;exact⟨fun q=>q.elim n z,by rw[aQ z];exact e⟩
 have h0:∀{G:Hp},SameX ts G H->p∉ts->G p=none:=fun {G} s nt=>by
  cases e:G p with
  |none=>rfl
  |some o=>rw[s p o nt e] at hp;cases hp
 have nO:=r.hc.fresh hp;have nt:p∉ts:=fun z=>nO (r.hc.own p z)
 have old:∀{j:Nat}{v:V}{w:W},σ[j]? = some (some v)->RepW K O ts H v w->RepW K (fun b=>O b\/b=p) ts (upd H p o) v w:=fun {j v w} e q=>by
  cases w with
  |d x=>exact Rep.mono le q
  |tp k=>exact q
  |loc ys=>
   obtain⟨a,e1,h1,h2,h3⟩:=q;exact⟨a,e1,.inl h1,h2,h3.mono (fun o' q=>by rw[aQ (cV q hp)];exact q) le⟩
 have notp:∀{j:Nat}{ys:PyData},ρ[j]? = some (some (.loc ys))->σ[j]? = some (some (.ref p))->False:=fun {j ys} e1 e2=>by
  obtain⟨v,h1,a,ea,h2,h3,h4⟩:=r.re j _ e1;rw[e2] at h1;cases h1;cases ea;obtain⟨o',h5⟩:=h4.some;rw[hp] at h5;cases h5
 refine⟨⟨fun b hb=>.inl (r.hc.own b hb),fun b hb=>?_,r.hc.nd,r.hc.len,fun j a ys e1 e2=>?_⟩,fun j w e=>?_,fun b hb=>.inl (r.sub b hb),r.ots,r.same.trans (.new hp _),fun j ys a e1 e2=>?_,fun j k ys zs v e1 e2 e3 e4=>?_,fun f hf=>(r.frs f hf).trans le,by simp[r.len]⟩
 .by_cases z:b=p
  .subst z;rw[bG];exact hm
  .rw[aQ z]
   exact r.hc.trk b (hb.resolve_right z)
 .exact(r.hc.tape j a ys e1 e2).mono (fun o' h1=>by rw[aQ (cV h1 hp)];exact h1) le
 .by_cases z:i=j
  .subst z
   have hl:i<ρ.length:=by
    have:=(List.getElem?_eq_some_iff.mp e).1;simpa using this
   rw[List.getElem?_set_self hl] at e;cases e;exact⟨.ref p,by rw[List.getElem?_set_self (by rw[r.len];exact hl)],p,rfl,.inr rfl,nt,rv le⟩
  .rw[List.getElem?_set_ne z] at e
   obtain⟨x,h1,h2⟩:=r.re j w e;exact⟨x,by rw[List.getElem?_set_ne z];exact h1,old h1 h2⟩
 .by_cases z:i=j
  .subst z
   have hl:i<ρ.length:=by
    have:=(List.getElem?_eq_some_iff.mp e1).1;simpa using this
   rw[List.getElem?_set_self (by rw[r.len];exact hl)] at e2;cases e2;exact⟨h0 r.same nt,fun q=>nO (r.sub _ q)⟩
  .rw[List.getElem?_set_ne z] at e1 e2
   exact r.fresh j ys a e1 e2
 .by_cases z:i=j
  .by_cases z':i=k
   .rw[←z,←z']
   .exfalso
    subst z
    have hl:i<ρ.length:=by
     have:=(List.getElem?_eq_some_iff.mp e1).1;simpa using this
    rw[List.getElem?_set_self (by rw[r.len];exact hl)] at e3;cases e3;rw[List.getElem?_set_ne z'] at e2 e4;exact notp e2 e4
  .by_cases z':i=k
   .exfalso
    subst z'
    have hl:i<ρ.length:=by
     have:=(List.getElem?_eq_some_iff.mp e2).1;simpa using this
    rw[List.getElem?_set_self (by rw[r.len];exact hl)] at e4;cases e4;rw[List.getElem?_set_ne z] at e1 e3;exact notp e1 e3
   .rw[List.getElem?_set_ne z] at e1 e3
    rw[List.getElem?_set_ne z'] at e2 e4;exact r.dist j k ys zs v e1 e2 e3 e4
theorem RS.own{i:Nat}{p:Addr}{vs:List V}{xs:List PyData}(r:RS K O₀ H₀ F ts O H σ ρ T)(hp:H p=none)(rv:Reps K O H vs xs):RS K O₀ H₀ F ts (fun b=>O b\/b=p) (upd H p (.lst vs)) (σ.set i (some (.ref p))) (ρ.set i (some (.loc (.list xs)))) T:=r.ownO hp (.inl ⟨_,rfl⟩) fun le=>⟨vs,bG,rv.mono le⟩
theorem RS.putO{i:Nat}{a:Addr}{o:HO}{xs ys:PyData}(r:RS K O₀ H₀ F ts O H σ ρ T)(e1:ρ[i]? = some (some (.loc xs)))(e2:σ[i]? = some (some (.ref a)))(hm:Mut (some o))(rv:Le O H O (upd H a o)->OwnAt K O (upd H a o) a ys):RS K O₀ H₀ F ts O (upd H a o) σ (ρ.set i (some (.loc ys))) T:=by
 obtain⟨v,z1,a',ea,oa,nt,ha⟩:=r.re i _ e1;rw[e2] at z1;cases z1;cases ea;have hl:i<ρ.length:=(List.getElem?_eq_some_iff.mp e1).1;obtain⟨f1,f2⟩:=r.fresh i xs a e1 e2;have le:Le O H O (upd H a o):=fun b o n e=>⟨n,by rw[aQ (show b≠a from fun z=>n (by rw[z];exact oa))];exact e⟩
 have back:∀{j:Nat}{zs:PyData},(ρ.set i (some (W.loc ys)))[j]? = some (some (.loc zs))->∃ws,ρ[j]? = some (some (.loc ws)):=fun {j zs} e=>by
  by_cases z:i=j
  .subst z;exact⟨xs,e1⟩
  .rw[List.getElem?_set_ne z] at e;exact⟨zs,e⟩
 refine⟨⟨r.hc.own,fun b hb=>?_,r.hc.nd,r.hc.len,fun j b zs q1 q2=>?_⟩,fun j w e=>?_,r.sub,r.ots,fun b o n e=>?_,fun j zs b q1 q2=>?_,fun j k zs zs' v q1 q2 q3 q4=>?_,fun f hf=>(r.frs f hf).trans le,by simp[r.len]⟩
 .by_cases z:b=a
  .subst z;rw[bG];exact hm
  .rw[aQ z];exact r.hc.trk b hb
 .exact(r.hc.tape j b zs q1 q2).mono (fun o' h1=>by rw[aQ (show b≠a from fun z=>nt (by rw[←z];exact List.mem_of_getElem? q1))];exact h1) le
 .by_cases z:i=j
  .subst z
   rw[List.getElem?_set_self hl] at e;cases e;exact⟨.ref a,e2,a,rfl,oa,nt,rv le⟩
  .rw[List.getElem?_set_ne z] at e
   obtain⟨x,h1,h2⟩:=r.re j w e;refine⟨x,h1,?_⟩
   cases w with
   |d x=>exact Rep.mono le h2
   |tp k=>exact h2
   |loc zs=>
    obtain⟨b,eb,k1,k2,k3⟩:=h2;have n:b≠a:=fun q=>z (r.dist i j xs zs (.ref a) e1 e e2 (by rw[h1,eb,q]));exact⟨b,eb,k1,k2,k3.mono (fun o' q=>by rw[aQ n];exact q) le⟩
 .have:=r.same b o n e
  rw[aQ (show b≠a from fun z=>by rw[z,f1] at e;cases e)];exact this
 .obtain⟨ws,q⟩:=back q1
  exact r.fresh j ws b q q2
 .obtain⟨ws,q⟩:=back q1
  obtain⟨ws',q'⟩:=back q2;exact r.dist j k ws ws' v q q' q3 q4
theorem RS.put{i:Nat}{a:Addr}{vs us:List V}{xs ys:List PyData}(r:RS K O₀ H₀ F ts O H σ ρ T)(e1:ρ[i]? = some (some (.loc (.list xs))))(e2:σ[i]? = some (some (.ref a)))(rv:Reps K O H vs ys):RS K O₀ H₀ F ts O (upd H a (.lst vs)) σ (ρ.set i (some (.loc (.list ys)))) T:=r.putO e1 e2 (.inl ⟨_,rfl⟩) fun le=>⟨vs,bG,rv.mono le⟩
theorem RS.tapeO{n:Nat}{a:Addr}{o:HO}{ys:List PyData}(r:RS K O₀ H₀ F ts O H σ ρ T)(e:ts[n]? = some a)(hm:Mut (some o))(rv:Le O H O (upd H a o)->RowAt K O (upd H a o) a ys):RS K O₀ H₀ F ts O (upd H a o) σ ρ (T.set n ys):=by
 have am:a∈ts:=List.mem_of_getElem? e;have le:Le O H O (upd H a o):=fun b o' k q=>⟨k,by rw[aQ (show b≠a from fun z=>k (by rw[z];exact r.hc.own a am))];exact q⟩
 have sx:SameX ts H (upd H a o):=fun b o' k q=>by rw[aQ (show b≠a from fun z=>k (by rw[z];exact am))];exact q
 refine⟨⟨r.hc.own,fun b hb=>?_,r.hc.nd,by simp[r.hc.len],fun j b zs q1 q2=>?_⟩,r.re.mono r.hc sx,r.sub,r.ots,r.same.trans sx,r.fresh,r.dist,fun f hf=>(r.frs f hf).trans le,r.len⟩
 .by_cases z:b=a
  .subst z;rw[bG];exact hm
  .rw[aQ z];exact r.hc.trk b hb
 .by_cases z:n=j
  .subst z
   rw[e] at q1;cases q1
   have hl:n<T.length:=by
    have:=(List.getElem?_eq_some_iff.mp e).1;rw[←r.hc.len];exact this
   rw[List.getElem?_set_self hl] at q2;cases q2;exact rv le
  .rw[List.getElem?_set_ne z] at q2
   refine(r.hc.tape j b zs q1 q2).mono (fun o' h1=>?_) le
   have nb:b≠a:=fun q=>by
    rw[q] at q1;exact z ((List.getElem?_inj (List.getElem?_eq_some_iff.mp e).1 r.hc.nd).mp (e.trans q1.symm))
   rw[aQ nb];exact h1
theorem RS.tape{n:Nat}{a:Addr}{vs:List V}{ys:List PyData}(r:RS K O₀ H₀ F ts O H σ ρ T)(e:ts[n]? = some a)(rv:Reps K O H vs ys):RS K O₀ H₀ F ts O (upd H a (.lst vs)) σ ρ (T.set n ys):=r.tapeO e (.inl ⟨_,rfl⟩) fun le=>.inl ⟨rv.notO,vs,bG,rv.mono le⟩
def iT:W->W
 |.loc x=>.d x
 |w=>w
def b4(ρ:Rho):Rho:=ρ.map (Option.map iT)
theorem RS.frzH(r:RS K O₀ H₀ F ts O H σ ρ T):HC K O₀ ts H T:=by
 have le:Le O H O₀ H:=fun a o n e=>⟨fun z=>n (r.sub a z),e⟩;exact⟨r.ots,fun b hb=>r.hc.trk b (r.sub b hb),r.hc.nd,r.hc.len,fun i a xs e1 e2=>(r.hc.tape i a xs e1 e2).mono (fun _ h=>h) le⟩
def wW(ρ:Rho):Prop:=∀(i:Nat) (ds:List (PyData×PyData)),ρ[i]?≠some (some (.loc (.dict ds)))
theorem RS.frz(r:RS K O₀ H₀ F ts O H σ ρ T)(nd:wW ρ):HC K O₀ ts H T/\RelE K O₀ ts H σ (b4 ρ):=by
 have le:Le O H O₀ H:=fun a o n e=>⟨fun z=>n (r.sub a z),e⟩;refine⟨r.frzH,fun i w e=>?_⟩;unfold b4 at e;rw[List.getElem?_map] at e
 cases hu:ρ[i]? with
 |none=>rw[hu] at e;cases e
 |some u=>
  cases u with
  |none=>rw[hu] at e;cases e
  |some u=>
   rw[hu] at e;cases e;obtain⟨v,h1,h2⟩:=r.re i u hu;refine⟨v,h1,?_⟩
   cases u with
   |d x=>exact Rep.mono le h2
   |tp k=>exact h2
   |loc xs=>
    obtain⟨a,rfl,k1,k2,k3⟩:=h2
    cases xs with
    |list xs=>obtain⟨vs,k3,k4⟩:=k3;exact .lst (.inl ⟨(r.fresh i _ a hu h1).2,.inl k3⟩) (k4.mono le)
    |dict xs=>exact absurd hu (nd i xs)
    |_=>cases k3
theorem RS.frzD{i:Nat}{ds:List (PyData×PyData)}(r:RS K O₀ H₀ F ts O H σ ρ T)(h1:ρ[i]? = some (some (.loc (.dict ds)))):∃a kvs,H a=some (.dK kvs)/\∀o,RS K O₀ H₀ F ts (fun b=>O b/\b≠a) (upd H a (.frz o (.dK kvs))) σ (ρ.set i (some (.d (.dict ds)))) T:=by
 obtain⟨v,k1,a,rfl,k2,k3,kvs,k4,k5⟩:=r.re i _ h1;refine⟨a,kvs,k4,fun o=>?_⟩;have hl:i<ρ.length:=(List.getElem?_eq_some_iff.mp h1).1;have U:∀{b:Addr},b≠a->upd H a (.frz o (.dK kvs)) b=H b:=fun n=>aQ n;have le:Le O H (fun b=>O b/\b≠a) (upd H a (.frz o (.dK kvs))):=fun b u n e=>⟨fun z=>n z.1,by rw[U (show b≠a from fun z=>n (by rw[z];exact k2))];exact e⟩;have fr:=r.fresh i _ a h1 k1
 have hw:∀ys,W.d (.dict ds)≠.loc ys:=fun _ z=>nomatch z
 refine⟨⟨fun b hb=>⟨r.hc.own b hb,fun z=>k3 (z ▸ hb)⟩,fun b hb=>by rw[U hb.2];exact r.hc.trk b hb.1,r.hc.nd,r.hc.len,fun j b ys e1 e2=>?_⟩,fun j w e=>?_,fun b hb=>⟨r.sub b hb,fun z=>fr.2 (z ▸ hb)⟩,r.ots,fun b u n e=>?_,fun j ys b e1 e2=>?_,fun j k ys zs v e1 e2 e3 e4=>?_,fun f hf=>(r.frs f hf).trans le,by simp[r.len]⟩
 .exact(r.hc.tape j b ys e1 e2).mono (fun _ h=>by rw[U (show b≠a from fun z=>k3 (by rw[←z];exact List.mem_of_getElem? e1))];exact h) le
 .by_cases z:i=j
  .subst z
   rw[List.getElem?_set_self hl] at e;cases e;exact⟨.ref a,k1,.dct (fun z=>z.2 rfl) bG (k5.mono le)⟩
  .rw[List.getElem?_set_ne z] at e
   obtain⟨x,q1,q2⟩:=r.re j w e;refine⟨x,q1,?_⟩
   cases w with
   |d y=>exact Rep.mono le q2
   |tp k=>exact q2
   |loc ys=>
    obtain⟨b,eb,m1,m2,m3⟩:=q2;have nb:b≠a:=fun q=>z (r.dist i j _ ys (.ref a) h1 e k1 (by rw[q1,eb,q]));exact⟨b,eb,⟨m1,nb⟩,m2,m3.mono (fun _ q=>by rw[U nb];exact q) le⟩
 .rw[U (show b≠a from fun z=>by rw[z,fr.1] at e;cases e)]
  exact r.same b u n e
 .obtain⟨n,e⟩:=fm hw e1
  exact r.fresh j ys b e e2
 .obtain⟨n1,e1⟩:=fm hw e1
  obtain⟨n2,e2⟩:=fm hw e2;exact r.dist j k ys zs v e1 e2 e3 e4
theorem AN{i:Nat}{x:PyData}(h:ρ[i]? = some (some (.loc x))):b4 (ρ.set i (some (.d x)))=b4 ρ:=by
 apply List.ext_getElem?;intro j;unfold b4;rw[List.getElem?_map,List.getElem?_map]
 by_cases z:i=j
 .subst z
  rw[List.getElem?_set_self (List.getElem?_eq_some_iff.mp h).1,h];rfl
 .rw[List.getElem?_set_ne z]
theorem RS.frzN(R:Rho):∀(k:Nat) {O:Addr->Prop}{H:Hp}{ρ:Rho},RS K O₀ H₀ F ts O H σ ρ T->(∀j ds,k<=j->ρ[j]?≠some (some (.loc (.dict ds))))->b4 ρ=R ->
  Gh (fun H'=>∃O' ρ',RS K O₀ H₀ F ts O' H' σ ρ' T/\wW ρ'/\b4 ρ'=R) H
 |0,O,H,ρ,r,n,e=>.done ⟨O,ρ,r,fun j ds=>n j ds (Nat.zero_le _),e⟩
 |k+1,O,H,ρ,r,n,e=>by
  by_cases h:∃ds,ρ[k]? = some (some (.loc (.dict ds)))
  .obtain⟨ds,h⟩:=h
   obtain⟨a,kvs,e1,f⟩:=r.frzD h;refine .frz e1 fun o=>RS.frzN R k (f o) (fun j es hj=>?_) (by rw[AN h];exact e)
   by_cases z:k=j
   .subst z
    rw[List.getElem?_set_self (List.getElem?_eq_some_iff.mp h).1];intro q;cases q
   .rw[List.getElem?_set_ne z]
    exact n j es (by omega)
  .refine RS.frzN R k r (fun j ds hj=>?_) e
   by_cases z:k=j
   .subst z
    exact fun q=>h ⟨ds,q⟩
   .exact n j ds (by omega)
theorem RS.frzG(r:RS K O₀ H₀ F ts O H σ ρ T):Gh (fun H'=>SameX ts H₀ H'/\HC K O₀ ts H' T/\RelE K O₀ ts H' σ (b4 ρ)) H:=(RS.frzN (b4 ρ) ρ.length r (fun j ds hj=>by rw[List.getElem?_eq_none hj];exact fun z=>nomatch z) rfl).imp fun H' ⟨O',ρ',r',n,e⟩=>⟨r'.same,by rw[←e];exact r'.frz n⟩
end
def aH:FS:=fun ρ T=>some ((.nx,ρ),T)
def aj(f g:FS):FS:=fun ρ T=>bnd (f ρ T) fun p T1=>match p with
 |(.nx,ρ1)=>g ρ1 T1
 |(fl,ρ1)=>some ((fl,ρ1),T1)
def aG(i:Nat)(f:FE):FS:=fun ρ T=>bnd (f ρ T) fun w T1=>match w with
 |.d x=>some ((.nx,ρ.set i (some (.d x))),T1)
 |.tp k=>some ((.nx,ρ.set i (some (.tp k))),T1)
 |.loc _=>none
def df(i:Nat)(g:FA):FS:=fun ρ T=>bnd (g ρ T) fun ws T1=>match dA ws with
 |some xs=>if xs.length<=1000 then some ((.nx,ρ.set i (some (.loc (.list xs)))),T1) else none
 |none=>none
def c5(i:Nat)(f:FE):FS:=fun ρ T=>bnd (f ρ T) fun w T1=>match w with
 | .d x=>(match ρ[i]? with
  |some (some (.loc (.list xs)))=>if xs.length<sizeLine then some ((.nx,ρ.set i (some (.loc (.list (xs++[x]))))),T1) else none
  | _=>none)
 |_=>none
def pf(fo fk fe:FE):FS:=fun ρ T=>bnd (fe ρ T) fun w T1=>bnd (fo ρ T1) fun o T2=>bnd (fk ρ T2) fun k T3=>match w,o,k with
 |.d x,.tp n,.d (.int i)=>match T3[n]? with
  |some xs=>if isO xs=true then none else match ixN xs.length i with
   |some j=>some ((.nx,ρ),T3.set n (xs.set j x))
   |none=>none
  |none=>none
 |_,_,_=>none
def fIf(c:FT)(f g:FS):FS:=fun ρ T=>bnd (c ρ T) fun b T1=>if b=true then f ρ T1 else g ρ T1
def ax(f:FE):FS:=fun ρ T=>bnd (f (b4 ρ) T) fun w T1=>match w with
 |.d x=>some ((.rt x,ρ),T1)
 |_=>none
def forL(i:Nat)(body:FS):List PyData->FS
 |[]=>aH
 |d::r=>fun ρ T=>bnd (body (ρ.set i (some (.d d))) T) fun p T1=>match p with
  |(.nx,ρ1)=>forL i body r ρ1 T1
  |(.ct,ρ1)=>forL i body r ρ1 T1
  |(.bk,ρ1)=>some ((.nx,ρ1),T1)
  |(.rt x,ρ1)=>some ((.rt x,ρ1),T1)
  |(.ro x,ρ1)=>some ((.ro x,ρ1),T1)
def bw(i:Nat)(it:FI)(body:FS):FS:=fun ρ T=>bnd (it ρ T) fun ds T1=>forL i body ds ρ T1
def bv(c:FT)(body:FS):Nat->FS
 |0=>fun _ _=>none
 |n+1=>fun ρ T=>bnd (c ρ T) fun b T1=>if b=true then bnd (body ρ T1) fun p T2=>match p with
   |(.nx,ρ1)=>bv c body n ρ1 T2
   |(.ct,ρ1)=>bv c body n ρ1 T2
   |(.bk,ρ1)=>some ((.nx,ρ1),T2)
   |(.rt x,ρ1)=>some ((.rt x,ρ1),T2)
   |(.ro x,ρ1)=>some ((.ro x,ρ1),T2)
  else some ((.nx,ρ),T1)
section
variable {X:Cx}{pos:Pos}{st:Stmt}{rest:List Stmt}{f g:FS}{e:Expr}{fe:FE}{c:FT}
theorem aN:DSs X [] aH:=by
 refine⟨?_⟩;refine mY BG fun D σ H=>?_;rintro⟨O₀,H₀,F,ts,O,ρ,T,fl,ρ',T',rs,e,q⟩;cases e;exact q O σ H rs
theorem ay(h1:DS X st f)(h2:DSs X rest g):DSs X (st::rest) (aj f g):=by
 refine⟨?_⟩;refine mY (rW h1.pe h2.pe) fun D σ H=>?_;rintro⟨O₀,H₀,F,ts,O,ρ,T,fl,ρ',T',rs,e,q⟩;obtain⟨⟨fl1,ρ1⟩,T1,e1,e⟩:=aL e;refine⟨O₀,H₀,F,ts,O,ρ,T,fl1,ρ1,T1,rs,e1,?_⟩
 cases fl1 with
 |nx=>exact fun O' σ' H' rs'=>⟨O₀,H₀,F,ts,O',ρ1,T1,fl,ρ',T',rs',e,q⟩
 |rt x=>cases e;exact q
 |ro x=>cases e;exact q
 |bk=>cases e;exact q
 |ct=>cases e;exact q
theorem aA(h1:DS X st f):DSs X [st] f:=⟨BF h1.pe⟩
theorem aY{i:Nat}{x:Str}{pos':Pos}(hN:X.N.Nodup)(he:DE X e fe)(hi:X.N[i]? = some x:=by rfl)(hx:Loc X.env.scope x:=by first|exact Or.inl rfl|exact Or.inr rfl)(hs:swapsWith e (some (.Name x pos')) pos.line X.env=pure false:=by rfl)
  (hf:X.fn x=true\/X.env.scope.names.lookup x=some .local:=by first|exact .inl rfl|exact .inr rfl|assumption):DS X (.Assign [.Name x pos'] e pos) (aG i fe):=by
 refine⟨?_⟩;refine cj (fX hN hi hx he.pe hs hf) fun D σ H=>?_;rintro⟨O₀,H₀,F,ts,O,ρ,T,fl,ρ',T',rs,e,q⟩;obtain⟨w,T1,e1,e⟩:=aL e;refine⟨O,ts,ρ,T,w,T1,rs.hc,rs.re,e1,fun v H1 s1 hc1 r1=>?_⟩
 cases w with
 |d x=>cases e;exact q O _ _ ((rs.step s1 hc1).set r1 fun _ z=>nomatch z)
 |tp k=>cases e;exact q O _ _ ((rs.step s1 hc1).set r1 fun _ z=>nomatch z)
 |loc xs=>cases e
theorem Ct{i:Nat}{x y:Str}{scope osc:Scope}{N N':List Str}{elt iter:Expr}{ifs:List Expr}{px py spos:Pos}{it:FI}{c:FT}{f:FE}(S:CS osc N x scope N')(hN:X.N.Nodup)(hi:DI X (.Name x px) iter it)
  (he:∀C s0 H0 ex,DE (b7 X x scope C s0 H0 ex N') elt f) (ht:∀C s0 H0 ex,DTs (b7 X x scope C s0 H0 ex N') ifs c) (hi':X.N[i]? = some y:=by rfl) (hy:Loc X.env.scope y:=by first|exact Or.inl rfl|exact Or.inr rfl)
  (hf':X.fn y=true\/X.env.scope.names.lookup y=some .local:=by first|exact .inl rfl|exact .inr rfl|assumption) (hc:X.calm=true:=by rfl) (hs:X.env.scope=osc:=by rfl) (hN':X.N=N:=by rfl)
  (hsw:swapsWith (.ListComp elt [⟨.Name x px,iter,ifs,0⟩] scope pos) (some (.Name y py)) spos.line X.env=pure true:=by rfl) (hf:∀v,foldedSetIterable iter X.env v=pure v:=by intro _;rfl) :
  DS X (.Assign [.Name y py] (.ListComp elt [⟨.Name x px,iter,ifs,0⟩] scope pos) spos) (aG i (bo it c f)):=by
 refine⟨?_⟩;subst hs hN';refine cj (BH (wi:=oH X.K it) (tt:=liftT X.K c) (te:=lift X.K f) hc S hN hi' hy hf' hi.pe (fun C s0 H0 ex=>(he C s0 H0 ex).pe) (fun C s0 H0 ex=>(ht C s0 H0 ex).pe) hsw hf) fun D σ H=>?_;rintro⟨O₀,H₀,F,ts,O,ρ,T,fl,ρ',T',rs,e,q⟩;obtain⟨w,T1,e1,e⟩:=aL e;obtain⟨ds,T2,e2,e1⟩:=aL e1;obtain⟨ys,T3,e3,e1⟩:=aL e1;cases e1;cases e;refine⟨O,ts,ρ,T,ds,T2,rs.hc,rs.re,e2,fun J H1 s1 hc1 ok hz=>?_⟩;exact uh hc1 (rs.re.mono rs.hc s1) ok hz e3 fun vs H' s2 hc2 r2 p hp=>q O _ _ ((rs.step (s1.trans (s2.trans (.new hp _))) (hc2.new hp _)).set (hc2.newL hp r2) fun _ z=>nomatch z)
theorem gG{i:Nat}{x:Str}{pos':Pos}{es:List Expr}{lpos:Pos}{g:FA}(hN:X.N.Nodup)(he:DA X es g)(hi:X.N[i]? = some x:=by rfl)(hx:Loc X.env.scope x:=by first|exact Or.inl rfl|exact Or.inr rfl)
  (hs:swapsWith (.List es lpos) (some (.Name x pos')) pos.line X.env=pure false:=by rfl) (hf:X.fn x=true\/X.env.scope.names.lookup x=some .local:=by first|exact .inl rfl|exact .inr rfl|assumption):DS X (.Assign [.Name x pos'] (.List es lpos) pos) (df i g):=by
 refine⟨?_⟩;refine cj (fX hN hi hx (nU he.pe) hs hf) fun D σ H=>?_;rintro⟨O₀,H₀,F,ts,O,ρ,T,fl,ρ',T',rs,e,q⟩;obtain⟨ws,T1,e1,e⟩:=aL e;refine⟨O,ts,ρ,T,ws,T1,rs.hc,rs.re,e1,fun vs H1 s1 hc1 r1=>?_⟩;split at e
 .rename_i xs h1
  split at e
  .rename_i h2
   cases e;have rv:=jd r1 h1;exact⟨kQ (by rw[rv.length];exact h2),fun p hp=>q _ _ _ ((rs.step s1 hc1).own hp rv)⟩
  .cases e
 .cases e
theorem aM{ce:Expr}{a b:List Stmt}(hc:DT X ce c)(ha:DSs X a f)(hb:DSs X b g):DS X (.If ce a b pos) (fIf c f g):=by
 refine⟨?_⟩;refine cj (EX hc.pe ha.pe hb.pe) fun D σ H=>?_;rintro⟨O₀,H₀,F,ts,O,ρ,T,fl,ρ',T',rs,e,q⟩;obtain⟨b1,T1,e1,e⟩:=aL e;refine⟨O,ts,ρ,T,b1,T1,rs.hc,rs.re,e1,fun H1 s1 hc1=>?_⟩
 cases b1 with
 |true=>exact fK ⟨O₀,H₀,F,ts,O,ρ,T1,fl,ρ',T',rs.step s1 hc1,by simpa using e,q⟩
 |false=>exact fL ⟨O₀,H₀,F,ts,O,ρ,T1,fl,ρ',T',rs.step s1 hc1,by simpa using e,q⟩
theorem aF(he:DE X e fe):DS X (.Return (some e) pos) (ax fe):=by
 refine⟨?_⟩;refine cj (EY (nR he.pe)) fun D σ H=>?_;rintro⟨O₀,H₀,F,ts,O,ρ,T,fl,ρ',T',rs,e,q⟩;obtain⟨w,T1,e1,e⟩:=aL e;refine rs.frzG.imp fun H0 ⟨same,c0,re0⟩=>?_;refine⟨O₀,ts,b4 ρ,T,w,T1,c0,re0,e1,fun v H1 s1 hc1 r1=>?_⟩
 cases w with
 |d x=>cases e;exact q v H1 (same.trans s1) hc1 r1
 |tp k=>cases e
 |loc xs=>cases e
theorem gQ{i:Nat}{x:Str}{p apos:Pos}(he:DE X e fe)(hN:X.N[i]? = some x:=by rfl)(hv:Vis X.env.scope x:=by first|exact Or.inl rfl|exact Or.inr (Or.inl rfl)|exact Or.inr (Or.inr rfl))(hd:(x == ("__debug__" : Str))=false:=by decide)
  (hcd:(x == ("__classdict__" : Str))=false:=by decide) {cpos:Pos}
  (hbase:attributeBase (.Name x p) "append" X.env (eval (.Name x p) X.env)=eval (.Name x p) X.env:=by rfl)
  (hfew:((backTo cpos (starEach [e] X.env)).all (fun x=>!x.1)&&(backToKw cpos (keywordEach [] X.env)).all (fun x=>x.1.isSome)
   && decide (([e]:List Expr).length+([]:List Keyword).length+(if ([]:List Keyword).isEmpty then 0 else 1)<30))=true:=by exact h6 rfl)
  (hline:(apos.endLine == cpos.line)=true:=by rfl) (hse:starEach [e] X.env=(false,eval e X.env)::starEach [] X.env:=by exact bu rfl) (hplain:(backTo cpos (starEach [] X.env)).any (·.1)=false:=by exact cg rfl)
  (hs:swapsWith (.Call (.Attribute (.Name x p) "append" apos) [e] [] cpos) none pos.line X.env=pure false:=by rfl) :
  DS X (.Expr (.Call (.Attribute (.Name x p) "append" apos) [e] [] cpos) pos) (c5 i fe):=by
 refine⟨?_⟩;refine cj (mZ (iF PySem.F.plainAttrs_list PySem.F.slot_list_append PySem.F.type_list_append qY (pv i hN hv hd hcd) (cx he.pe cX hse) hbase hfew hline hse hplain) hs) fun D σ H=>?_;rintro⟨O₀,H₀,F,ts,O,ρ,T,fl,ρ',T',rs,e,q⟩;obtain⟨w,T1,e1,e⟩:=aL e;split at e
 .rename_i x0
  split at e
  .rename_i xs h1
   split at e
   .rename_i h2
    cases e;obtain⟨v,k1,a,rfl,k2,k3,vs,k4,k5⟩:=rs.re i _ h1;refine⟨_,k1,.inl ⟨rfl,vs,SqL.of k4⟩,O,ts,ρ,T,_,_,rs.hc,rs.re,e1,fun u H1 s1 hc1 r1=>?_⟩;have rs1:=rs.step s1 hc1;exact⟨a,vs,u,rfl,rfl,s1 _ _ k3 k4,by rw[k5.length];exact h2,q O _ _ (rs1.put (us:=[]) h1 k1 ((k5.mono (rs.hc.le s1)).append (.cons r1 .nil)))⟩
   .cases e
  .cases e
 .cases e
theorem Er{o k:Expr}{fo fk:FE}{tpos:Pos}(ho:DE X o fo)(hk:DE X k fk)(he:DE X e fe)(ha:∀v,assign (.Subscript o k tpos) X.env v=(do
   let ov ←holding [v] (eval o X.env)
   let iv ←holding [v,ov] (eval k X.env)
   standAt tpos
   holding [v,ov,iv] (setItem ov iv v)
   release [v,ov,iv] []):=by intro _;rfl)
  (hs:swapsWithSole [.Subscript o k tpos] e pos.line X.env=pure false:=by rfl) (hw:swappedStores [.Subscript o k tpos] e X.env=pure none:=by rfl)
  (h1:(assignEach [.Subscript o k tpos] X.env).map (·.2)=[assign (.Subscript o k tpos) X.env]:=by rfl):DS X (.Assign [.Subscript o k tpos] e pos) (pf fo fk fe):=by
 refine⟨?_⟩;refine cj (uC he.pe (Dr ho.pe hk.pe set_list ha) hs hw h1) fun D σ H=>?_;rintro⟨O₀,H₀,F,ts,O,ρ,T,fl,ρ',T',rs,e,q⟩;obtain⟨w,T1,e1,e⟩:=aL e;obtain⟨wo,T2,e2,e⟩:=aL e;obtain⟨wk,T3,e3,e⟩:=aL e;refine⟨O,ts,ρ,T,w,T1,rs.hc,rs.re,e1,fun v H1 s1 hc1 r1=>?_⟩;have rs1:=rs.step s1 hc1;refine⟨O,ts,ρ,T1,wo,T2,hc1,rs1.re,e2,fun vo H2 s2 hc2 r2=>?_⟩;have rs2:=rs1.step s2 hc2;refine⟨O,ts,ρ,T2,wk,T3,hc2,rs2.re,e3,fun vk H3 s3 hc3 r3=>?_⟩;have rs3:=rs2.step s3 hc3;split at e
 .split at e
  .rename_i xs h1
   split at e
   .cases e
   .rename_i hn
    split at e
    .rename_i j h2
     cases e;obtain⟨a,k1,rfl⟩:=r2;cases (show Rep X.K O H3 vk (.int _) from r3);obtain⟨vs,k2,k3⟩:=(hc3.tape _ a xs k1 h1).lst (by simpa using hn);refine⟨a,vs,_,j,rfl,rfl,k2,by rw[k3.length];exact h2,q O _ _ (rs3.tape k1 (Reps.set ?_ j k3))⟩;exact Rep.mono ((hc1.le s2).trans (hc2.le s3)) r1
    .cases e
  .cases e
 .cases e
end
section
variable {K:Frag}{O₀:Addr->Prop}{H₀:Hp}{F:List ((Addr->Prop)×Hp)}{ts:List Addr}{O:Addr->Prop}{H H1:Hp}{σ:L2.St}{ρ:Rho}{T T1:Tp}
theorem RS.less{f:(Addr->Prop)×Hp}(r:RS K O₀ H₀ (f::F) ts O H σ ρ T):RS K O₀ H₀ F ts O H σ ρ T:=⟨r.hc,r.re,r.sub,r.ots,r.same,r.fresh,r.dist,fun f hf=>r.frs f (List.mem_cons_of_mem _ hf),r.len⟩
theorem RS.more(r:RS K O₀ H₀ F ts O H σ ρ T):RS K O₀ H₀ ((O,H)::F) ts O H σ ρ T:=⟨r.hc,r.re,r.sub,r.ots,r.same,r.fresh,r.dist,fun f hf=>by
 rcases List.mem_cons.mp hf with z|z
 .subst z;exact fun a o n e=>⟨n,e⟩
 .exact r.frs f z,r.len⟩
end
section
variable {X:Cx}{pos:Pos}{st:Stmt}{rest:List Stmt}{f g:FS}{e:Expr}{fe:FE}{c:FT}
theorem dv{i:Nat}{x:Str}{iter:Expr}{body:List Stmt}{tpos:Pos}{it:FI}(hN:X.N.Nodup)(hi:DI X (.Name x tpos) iter it)(hb:DSs X body f)(hix:X.N[i]? = some x:=by rfl)(hx:Loc X.env.scope x:=by first|exact Or.inl rfl|exact Or.inr rfl)
  (hf:X.fn x=true\/X.env.scope.names.lookup x=some .local:=by first|exact .inl rfl|exact .inr rfl|assumption) (hp:PassesOwn (model X.prog X.w) X.A X.env X.xe:=by exact PassesOwn.never) (hc:X.calm=true:=by rfl)
  (hs:∀x,foldedSetIterable iter X.env x=pure x:=by intro _;rfl):DS X (.For (.Name x tpos) iter body [] pos) (bw i it f):=by
 refine⟨?_⟩;refine cj (uB hp hc hi.pe (gC hN hix hx hf) hb.pe hs) fun D σ H=>?_;rintro⟨O₀,H₀,F,ts,O,ρ,T,fl,ρ',T',rs,e,q⟩;obtain⟨ds,T1,e1,e⟩:=aL e;refine⟨O,ts,ρ,T,ds,T1,rs.hc,rs.re,e1,fun J H1 s1 hc1 ok hz=>?_⟩;refine⟨fun k m σ H=>m=ds.length-k/\k<=ds.length/\∃O' ρk Tk,RS X.K O₀ H₀ ((O,H1)::F) ts O' H σ ρk Tk/\forL i f (ds.drop k) ρk Tk=some ((fl,ρ'),T'),⟨_,rfl,Nat.zero_le _,O,ρ,T1,(rs.step s1 hc1).more,e⟩,?_⟩;rintro k m σ2 H2 ⟨rfl,hk,O',ρk,Tk,rs2,ek⟩;obtain⟨k1,k2,k3⟩:=ok O' H2 (rs2.frs _ List.mem_cons_self)
 by_cases hlt:k<ds.length
 .refine .inr ⟨k1 k hlt,fun σ3 H3=>∃O' ρk Tk,RS X.K O₀ H₀ ((O,H1)::F) ts O' H3 σ3 ρk Tk/\forL i f (ds.drop (k+1)) ρk Tk=some ((fl,ρ'),T'),fun σ3 H3 n=>⟨ds.length-(k+1),by omega,rfl,hlt,n⟩,fun v H3 y=>?_⟩
  obtain⟨e2,d,hd,rd⟩:=k3 k v H3 y hlt;subst e2
  have hdr:ds.drop k=d::ds.drop (k+1):=by
   rw[List.drop_eq_getElem_cons hlt];have:=(List.getElem?_eq_some_iff.mp hd).2;rw[this]
  rw[hdr] at ek;obtain⟨⟨fl1,ρ1⟩,T3,e3,ek⟩:=aL ek;refine⟨O₀,H₀,(O,H1)::F,ts,O',_,Tk,fl1,ρ1,T3,rs2.set (i:=i) (w:=.d d) rd (fun _ z=>nomatch z),e3,?_⟩
  cases fl1 with
  |nx=>exact fun O3 σ3 H3 rs3=>⟨O3,ρ1,T3,rs3,ek⟩
  |ct=>exact fun O3 σ3 H3 rs3=>⟨O3,ρ1,T3,rs3,ek⟩
  |bk=>
   cases ek;exact fun O3 σ3 H3 rs3=>q O3 σ3 H3 rs3.less
  |rt x=>
   cases ek;exact q
  |ro x=>
   cases ek;exact q
 .have e:k=ds.length:=by omega
  subst e;rw[List.drop_eq_nil_of_le (Nat.le_refl _)] at ek;cases ek;exact .inl ⟨k2,q O' σ2 H2 rs2.less⟩
theorem fi{ce:Expr}{body:List Stmt}(n:Nat)(hc:DT X ce c)(hb:DSs X body f)(hp:PassesOwn (model X.prog X.w) X.A X.env X.xe:=by exact PassesOwn.never):DS X (.While ce body [] pos) (bv c f n):=by
 refine⟨?_⟩;refine cj (Ai hp hc.pe hb.pe) fun D σ H=>?_;rintro⟨O₀,H₀,F,ts,O,ρ,T,fl,ρ',T',rs,e,q⟩;refine⟨fun m σ H=>∃O' ρm Tm,RS X.K O₀ H₀ F ts O' H σ ρm Tm/\bv c f m ρm Tm=some ((fl,ρ'),T'),⟨n,O,ρ,T,rs,e⟩,?_⟩;rintro m σ2 H2 ⟨O',ρm,Tm,rs2,em⟩
 cases m with
 |zero=>cases em
 |succ m=>
  obtain⟨b,T3,e3,em⟩:=aL em;refine⟨O',ts,ρm,Tm,b,T3,rs2.hc,rs2.re,e3,fun H3 s3 hc3=>?_⟩;have rs3:=rs2.step s3 hc3
  cases b with
  |false=>
   rw[if_neg Bool.false_ne_true] at em;cases em;exact fL (q O' σ2 H3 rs3)
  |true=>
   rw[if_pos rfl] at em;obtain⟨⟨fl1,ρ1⟩,T4,e4,em⟩:=aL em;refine fK ⟨fun σ3 H3=>∃O' ρm Tm,RS X.K O₀ H₀ F ts O' H3 σ3 ρm Tm/\bv c f m ρm Tm=some ((fl,ρ'),T'),fun σ3 H3 n=>⟨m,Nat.lt_succ_self m,n⟩,O₀,H₀,F,ts,O',ρm,T3,fl1,ρ1,T4,rs3,e4,?_⟩
   cases fl1 with
   |nx=>exact fun O3 σ3 H3 rs3=>⟨O3,ρ1,T4,rs3,em⟩
   |ct=>exact fun O3 σ3 H3 rs3=>⟨O3,ρ1,T4,rs3,em⟩
   |bk=>
    cases em;exact fun O3 σ3 H3 rs3=>q O3 σ3 H3 rs3
   |rt x=>
    cases em;exact q
   |ro x=>
    cases em;exact q
end
abbrev FnM:=List W->Tp->Option (PyData×Tp)
def ei:List W->Bool
 |[]=>true
 |.loc _::_=>false
 |_::r=>ei r
def bP(o:Option ((Fl×Rho)×Tp)):Option (PyData×Tp):=bnd o fun p T=>match p with
 |(.rt x,_)=>some (x,T)
 |(.nx,_)=>some (.none,T)
 |_=>none
def aK(N:Nat)(f:FS):FnM:=fun ws T=>if ei ws=true then bP (f (ws.map some++List.replicate (N-ws.length) none) T) else none
inductive SpMP(K:Frag)(n:Nat)(m:FnM)(vs:List V)(H:Hp)(Q:VK):Prop where
 |mk (O:Addr->Prop) (ts:List Addr) (T:Tp) (ws:List W) (x:PyData) (T':Tp) (hc:HC K O ts H T) (r:gi K O ts H vs ws) (hl:ws.length=n) (e:m ws T=some (x,T')) (q:∀v H',SameX ts H H'->HC K O ts H' T'->Rep K O H' v x->Q v H'):SpMP K n m vs H Q
def spM(K:Frag)(n:Nat)(m:FnM):Sp:=fun vs H Q _=>SpMP K n m vs H Q
theorem l7{K:Frag}{O:Addr->Prop}{ts:List Addr}{H:Hp}:∀{vs:List V}{ws:List W}{i:Nat}{w:W},gi K O ts H vs ws->ws[i]? = some w->∃v,vs[i]? = some v/\RepW K O ts H v w
 |_,_,_,_,.nil,e=>by simp at e
 |_,_,0,_,.cons r _,e=>by simp at e;subst e;exact⟨_,rfl,r⟩
 |_,_,i+1,w,.cons _ t,e=>by
  obtain⟨d,h1,h2⟩:=l7 (i:=i) (w:=w) t (by simpa using e);exact⟨d,by simpa using h1,h2⟩
theorem kq:∀{ws:List W}{xs:PyData},ei ws=true->W.loc xs∉ws
 |[],_,_,h=>by cases h
 |.loc _::_,_,e,_=>by cases e
 |.d _::r,_,e,h=>by
  rcases List.mem_cons.mp h with z|z
  .cases z
  .exact kq (ws:=r) e z
 |.tp _::r,_,e,h=>by
  rcases List.mem_cons.mp h with z|z
  .cases z
  .exact kq (ws:=r) e z
theorem ki{ws:List W}{n i:Nat}{w:W}(e:(ws.map some++List.replicate n none)[i]? = some (some w)):ws[i]? = some w:=by
 by_cases h:i<ws.length
 .rw[List.getElem?_append_left (by simpa using h),List.getElem?_map] at e
  cases q:ws[i]? with
  |none=>rw[q] at e;cases e
  |some u=>rw[q] at e;cases e;rfl
 .rw[List.getElem?_append_right (by simpa using h)] at e
  have:=List.mem_of_getElem? e;rw[List.mem_replicate] at this;cases this.2
theorem dfn{P:Program}{w:World}{K:Frag}{mg:Str->Option Value}{base:Heap}{x qual:Str}{st:Stmt}{f:Addr}{fd:FuncData}{N ps:List Str}{k:Nat}{m:FS}(F:Fun K x qual st f fd)(S:FnScope N ps (bp st))
  (hbody:∀(cdv:Value) (A:Around) (outer:List Env) (s:Shared) (H:Hp) (E:XK),Room k (A.deeper (envOfC qual (bp st) s.heap.objs.size f cdv))->DSs (eF CX0 P w K mg base N qual (bp st) f cdv A outer s H E).nox (cz st) m) :
  FnOk P w K mg base CX0 (k+1) f fd ps (spM K ps.length (aK N.length m)):=by
 refine F.ok S (fun vs H Q E h=>?_) (fun cdv A outer s H vs Q E hr h=>⟨_,(hbody cdv A outer s H E hr).pe,?_⟩)
 .obtain⟨O,ts,T,ws,x,T',hc,rw',hl,_⟩:=h
  rw[←hl];exact Paired.length rw'
 obtain⟨O,ts,T,ws,x,T',hc,rw',hl,e,q⟩:=h;unfold aK at e;split at e
 .rename_i hn
  obtain⟨⟨fl,ρ'⟩,T1,e1,e⟩:=aL e;have hlen:vs.length=ws.length:=Paired.length rw';have noL:∀{i:Nat}{xs:PyData},(ws.map some++List.replicate (N.length-ws.length) none)[i]? = some (some (W.loc xs))->False:=fun {i xs} e=>kq hn (List.mem_of_getElem? (ki e));refine⟨O,H,[],ts,O,_,T,fl,ρ',T1,⟨hc,fun i u e=>?_,fun _ h=>h,hc.own,.refl _ _,fun i xs a e1 _=>(noL e1).elim,fun i j xs ys v e1 _ _ _=>(noL e1).elim,fun f hf=>absurd hf (by simp),by simp[L2.start,hlen]⟩,e1,?_⟩
  .obtain⟨v,h1,h2⟩:=l7 rw' (ki e)
   refine⟨v,?_,h2⟩;unfold L2.start;have hi:i<vs.length:=(List.getElem?_eq_some_iff.mp h1).1;rw[List.getElem?_append_left (by simpa using hi),List.getElem?_map,h1];rfl
  .cases fl with
   |rt y=>cases e;exact fun v H' s1 c1 r1=>q v H' s1 c1 r1
   |nx=>
    cases e;exact fun O' σ' H' rs=>q _ _ rs.same rs.frzH .non
   |bk=>cases e
   |ct=>cases e
   |ro y=>cases e
 .cases e
def aB(m:FnM)(g:FA):FE:=fun ρ T=>bnd (g ρ T) fun ws T1=>bnd (m ws T1) fun x T2=>some (.d x,T2)
def iU(g:FA)(n:Nat):Prop:=∀ρ T ws T',g ρ T=some (ws,T')->ws.length=n
theorem gF:iU ai 0:=fun ρ T ws T' e=>by cases e;rfl
theorem dr{f:FE}{g:FA}{n:Nat}(h:iU g n):iU (ae f g) (n+1):=fun ρ T ws T' e=>by
 obtain⟨w1,T1,e1,e⟩:=aL e;obtain⟨ws,T2,e2,e⟩:=aL e;cases e;rw[List.length_cons,h _ _ _ _ e2]
theorem nz{X:Cx}{name:Str}{ps:List Str}{k:Nat}{m:FnM}{e:Expr}{es:List Expr}{g:FA}{p pos:Pos}(F:Fn X.prog X.w X.K X.mg X.base name ps k (spM X.K ps.length m))(hr:Room k X.A)(hg:Gl X name)(ha:DA X (e::es) g)(hl:iU g ps.length)(hdb:(name == ("__debug__" : Str))=false:=by decide)
  (he:starEach (e::es) X.env=(false,eval e X.env)::starEach es X.env:=by exact bu rfl) (hpl:(backTo pos (starEach es X.env)).any (·.1)=false:=by exact cg rfl):DE X (.Call (.Name name p) (e::es) [] pos) (aB m g):=by
 refine⟨?_⟩;refine br (oy F hr hg ha.pe hdb he hpl) fun σ H Q=>?_;rintro⟨O,ts,ρ,T,w,T',hc,re,e,q⟩;obtain⟨ws,T1,e1,e⟩:=aL e;obtain⟨x,T2,e2,e⟩:=aL e;cases e;refine⟨O,ts,ρ,T,ws,T1,hc,re,e1,fun vs H1 s1 hc1 r1=>?_⟩;refine⟨O,ts,T1,ws,x,_,hc1,by rw[List.append_nil];exact r1,hl _ _ _ _ e1,e2,fun v H2 s2 hc2 r2=>q v H2 (s1.trans s2) hc2 r2⟩
noncomputable def iop(g:Int->Int->Option PyData):PyData->PyData->Option PyData
 |.int i,.int j=>g i j
 |_,_=>none
def cv:PyData->PyData->Option PyData:=iop fun i j=>some (.int (i-j))
def bZ:PyData->PyData->Option PyData:=iop fun i j=>if 0<j then some (.int (i % j)) else none
def FD:PyData->PyData->Option PyData:=iop fun i j=>if 0<j/\j<1073741824 then some (.int (i / j)) else none
def jU:PyData->PyData->Option PyData:=iop fun i j=>if 0<=j/\j<=1000000/\i.natAbs<2^64 then some (.int (i^j.toNat)) else none
def ltD:PyData->PyData->Option PyData:=iop fun i j=>some (.bool (decide (i<j)))
def leD:PyData->PyData->Option PyData:=iop fun i j=>some (.bool (decide (i<=j)))
def gtD:PyData->PyData->Option PyData:=iop fun i j=>some (.bool (decide (j<i)))
def geD:PyData->PyData->Option PyData:=iop fun i j=>some (.bool (decide (j<=i)))
theorem uT{g:Int->Int->Option PyData}{x y d:PyData}(e:iop g x y=some d):∃i j,x=.int i/\y=.int j/\g i j=some d:=by
 unfold iop at e;split at e
 .exact⟨_,_,rfl,rfl,e⟩
 .cases e
theorem nL{K:Frag}{C:Int->Int->Prop}{g:Int->Int->V}{gd:Int->Int->Option PyData}(h:∀i j d,gd i j=some d->C i j/\∀O H,Rep K O H (g i j) d):gn K (rI C g) (iop gd):=fun O ts H T v1 v2 x y d Q hc h1 h2 e q=>by
 obtain⟨i,j,rfl,rfl,e⟩:=uT e;obtain⟨c,r⟩:=h i j d e;exact⟨i,j,h1.int,h2.int,c,q _ H (.refl _ _) hc (r O H)⟩
theorem jg{K:Frag}{g:Int->Int->V}{gd:Int->Int->Option PyData}(h:∀i j d,gd i j=some d->∀O H,Rep K O H (g i j) d):gn K (rI0 g) (iop gd):=fun O ts H T v1 v2 x y d Q hc h1 h2 e q=>by
 obtain⟨i,j,rfl,rfl,e⟩:=uT e;exact⟨i,j,h1.int,h2.int,q _ H (.refl _ _) hc (h i j d e O H)⟩
section
variable {X:Cx}
theorem gW:OpD X (binaryOp .Sub) cv:=⟨_,DB,jg fun i j d e O H=>by cases e;exact .int _⟩
theorem fA:OpD X (binaryOp .Mod) bZ:=⟨_,DF,nL fun i j d e=>by
 split at e
 .rename_i h;cases e;exact⟨h,fun _ _=>.int _⟩
 .cases e⟩
theorem vD:OpD X (binaryOp .Pow) jU:=⟨_,DC,nL fun i j d e=>by
 split at e
 .rename_i h;cases e;exact⟨h,fun _ _=>.int _⟩
 .cases e⟩
theorem iR:OpD X (compareOp .Lt) ltD:=⟨_,Fb,jg fun i j d e O H=>by cases e;exact .bl _⟩
theorem hJ:OpD X (compareOp .LtE) leD:=⟨_,Fc,jg fun i j d e O H=>by cases e;exact .bl _⟩
theorem hU:OpD X (compareOp .Gt) gtD:=⟨_,Fd,jg fun i j d e O H=>by cases e;exact .bl _⟩
theorem wC:OpD X (compareOp .GtE) geD:=⟨_,Fe,jg fun i j d e O H=>by cases e;exact .bl _⟩
def aR:PyData->PyData->Option PyData
 |.int i,.int j=>some (.int (i+j))
 |.str x,.str y=>if x.length+y.length<=sizeLine then some (.str (x++y)) else none
 |.tuple xs,.tuple ys=>if xs.length+ys.length<=sizeLine then some (.tuple (xs++ys)) else none
 |.list xs,.list ys=>if xs.length+ys.length<=sizeLine then some (.list (xs++ys)) else none
 |_,_=>none
def EV(K:Frag):R2:=fun x y H Q=>∃l b xs zs,x=.ref l/\y=.ref b/\SqL K H l xs/\SqL K H b zs/\xs.length+zs.length<=sizeLine/\∀p,H p=none->Q (.ref p) (upd H p (.lst (xs++zs)))
theorem BZ:OpR X (binaryOp .Add) (EV X.K):=by
 intro pins s σ H x y v u Q I rx ry h;obtain⟨l,b,xs,zs,rfl,rfl,hH,hB,hz,q⟩:=h;cases rx;cases ry;obtain⟨its,r,p1,_⟩:=I.list hH;obtain⟨its2,r2,p2,_⟩:=I.list hB;have hl:=r.length;have hl2:=r2.length;obtain⟨⟨cls,dd,data,sl⟩,ho,hc,n,hd⟩:=id p1.isList;obtain⟨⟨cls2,dd2,data2,sl2⟩,ho2,hc2,n2,hd2⟩:=id p2.isList;simp only at hc hd hc2 hd2;subst hc hd hc2 hd2
 have ea:its.toArray++its2.toArray=(its++its2).toArray:=by simp
 refine concat_meets ⟨_,ho,rfl⟩ ⟨_,ho2,rfl⟩ noFill_list_add seq_list_add PySem.F.slot_list_add PySem.F.entry_list_add (PySem.F.args_list_add_2 _ _) (list_addW l b its.toArray its2.toArray n n2 dd dd2 sl sl2 (by rw[List.size_toArray,List.size_toArray];omega)) ⟨ho,ho2,?_⟩;rw[ea];exact⟨.ref _,_,I.lnew (t':=s.toks) (r.append r2) (by rw[List.length_append];omega),rfl,q _ I.fresh⟩
theorem bB:OpD X (binaryOp .Add) aR:=by
 refine⟨_,op_add.or (op_add_str.or (op_catG.or BZ)),fun O ts H T v1 v2 x y d Q hc h1 h2 e q=>?_⟩;unfold aR at e;split at e
 .cases e
  exact .inl ⟨_,_,h1.int,h2.int,q _ H (.refl _ _) hc (.int _)⟩
 .split at e
  .rename_i hz
   cases e;exact .inr (.inl ⟨_,_,h1.str,h2.str,hz,q _ H (.refl _ _) hc (.str _)⟩)
  .cases e
 .split at e
  .rename_i xs ys hz
   cases e;obtain⟨a,vs,rfl,t1,r1⟩:=h1.tup;obtain⟨b,us,rfl,t2,r2⟩:=h2.tup;refine .inr (.inr (.inl ⟨a,b,vs,us,rfl,rfl,t1.sq,t2.sq,by rw[r1.length,r2.length];exact hz,fun z=>?_,fun _ z=>?_,fun _ _ p hp=>?_⟩))
   .subst z
    cases r1;exact q _ H (.refl _ _) hc (.tup t2 r2)
   .subst z
    cases r2;rw[List.append_nil] at q;exact q _ H (.refl _ _) hc (.tup t1 r1)
   .exact q _ _ (.new hp _) (hc.new hp _) (hc.newT hp (r1.append r2))
  .cases e
 .split at e
  .rename_i xs ys hz
   cases e;obtain⟨a,vs,rfl,t1,r1⟩:=h1.lst;obtain⟨b,us,rfl,t2,r2⟩:=h2.lst;exact .inr (.inr (.inr ⟨a,b,vs,us,rfl,rfl,t1,t2,by rw[r1.length,r2.length];exact hz,fun p hp=>q _ _ (.new hp _) (hc.new hp _) (hc.newL hp (r1.append r2))⟩))
  .cases e
 .cases e
theorem xk:fillsNumberSlot (.type "tuple") "mul"=pure false:=PySem.fillsNumberSlot_seq (id:="tuple.__mul__") (r:=some (.builtin "tuple.__rmul__")) PySem.F.slot_tuple_mul.lookup (by decide +kernel) PySem.F.slot_tuple_rmul.lookup (by decide +kernel)
theorem xU:seqRepeat? (.type "tuple")=pure (some (.builtin "tuple.__mul__")):=by
 unfold seqRepeat?;rw[PySem.seqSlot_of (T:="tuple") (name:="__mul__") (id:="tuple.__mul__") PySem.F.slot_tuple_mul.lookup (by decide +kernel),PySem.seqSlot_of (T:="tuple") (name:="__rmul__") (id:="tuple.__rmul__") PySem.F.slot_tuple_rmul.lookup (by decide +kernel)];rfl
theorem xy(a:Int)(t:Tok)(l:Addr)(items:Array Value)(n:Nat)(dd:Option Addr)(sl:Array (Option Value)) :
  Meets (Builtin.«int.__rmul__» ⟨[.int a t,.ref l],[]⟩) (fun _ R s=>s.heap.get? l=some { cls:=.type "tuple",dict:=dd,data:=.seq items n,slots:=sl }/\R (.ok (.ret Value.notImplemented)) s):=.of_wp fun prog w A R s h=>by obtain⟨hp,g,d,tk,os⟩:=s;obtain⟨hl,h⟩:=h;wp_walk;exact⟨_,rfl,h⟩
theorem yn(l:Addr)(items:Array Value)(n:Nat)(dd:Option Addr)(sl:Array (Option Value))(k:Int)(t:Tok)(h1:2<=k)(h2:k<=1000)(h3:items.isEmpty=false)(h4:items.size<=1000) :
  Meets (Builtin.«tuple.__mul__» ⟨[.ref l,.int k t],[]⟩) (fun _ R s=>s.heap.get? l=some { cls:=.type "tuple",dict:=dd,data:=.seq items n,slots:=sl }/\R (.ok (.ret (Value.ref s.heap.objs.size))) { s with heap:=s.heap.push { cls:=Value.type "tuple",data:=Data.seq (List.foldl (fun x1 x2=>x1++x2) #[] (List.replicate k.toNat items)) },toks:=s.toks }):=
 .of_wp fun prog w A R s h=>by
  obtain⟨hp,g,d,tk,os⟩:=s;obtain⟨hl,h⟩:=h
  have hc0:¬(decide (k < -(2^63))||decide (k>=2^63))=true:=by simp;omega
  have hc1:¬(items.isEmpty||k == 1)=true:=by rw[h3];simp;omega
  have hc2:¬(decide (k<=0)||items.isEmpty)=true:=by rw[h3];simp;omega
  have hm:items.size*k.toNat<=1000*1000:=Nat.mul_le_mul h4 (by omega)
  have hm':(items.size:Int)*k<=1000000:=by
   have e:((items.size*k.toNat:Nat):Int)=(items.size:Int)*k:=by rw[Int.natCast_mul,Int.toNat_of_nonneg (by omega)]
   omega
  have hc3:¬(items.size:Int)*k>(2^63-1) / 8:=by
   have:(1000000:Int)<=(2^63-1) / 8:=by decide
   omega
  have hc4:¬Builtin.Tuple.tupleTooMany ((items.size:Int)*k)=true:=by
   unfold Builtin.Tuple.tupleTooMany
   have:sizeLine=16777216:=by decide
   simp;omega
  have ht:IsTup hp l items:=⟨_,hl,rfl,n,rfl⟩;wp_walk;rw[if_neg hc0];dsimp only;refine wpAny_bind (tupleItemsOf_ ht ?_);rw[if_neg hc1,if_neg hc2,if_neg hc3,if_neg hc4]
  have fit:sizeOk (.seq (List.foldl (fun x1 x2=>x1++x2) #[] (List.replicate k.toNat items))):=by
   show (List.foldl (fun x1 x2=>x1++x2) #[] (List.replicate k.toNat items)).size<=sizeLine;have q:=foldl_rep items.toList k.toNat [];rw[List.nil_append] at q
   have q':List.foldl (fun x1 x2=>x1++x2) #[] (List.replicate k.toNat items)=(List.replicate k.toNat items.toList).flatten.toArray:=by simpa using q
   rw[q',List.size_toArray,len_rep]
   have:sizeLine=16777216:=by decide
   rw[Array.length_toList,Nat.mul_comm];omega
  first
  |exact wpAny_bind (m:=Builtin.Tuple.tupleExact _) (wpAny_newObj_type (wpAny_pure ⟨_,rfl,h⟩) fit)
  |exact wpAny_bind (m:=Builtin.Tuple.tupleExact _) (wpAny_newObj_type (wpAny_bind (wpAny_pure (wpAny_pure ⟨_,rfl,h⟩))) fit)
theorem BX:OpR X (binaryOp .Mult) (fun x y H Q=>∃a k xs,x=.ref a/\y=.int k/\SqT X.K H a xs/\2<=k/\k<=1000/\xs≠[]/\xs.length<=1000/\∀p,H p=none->Q (.ref p) (upd H p (.tup (List.replicate k.toNat xs).flatten))):=by
 intro pins s σ H x y v u Q I rx ry h;obtain⟨a,k,xs,rfl,rfl,hq,h1,h2,h3,h4,q⟩:=h;cases rx;obtain⟨t,rfl⟩:=ry;obtain⟨its,r,p1,_⟩:=I.tuple hq;have hl:=r.length;have hv:its≠[]:=fun z=>h3 (r.nil_iff.mp z);obtain⟨⟨cls,dd,data,sl⟩,ho,hc,n,hd⟩:=id p1;simp only at hc hd;subst hc hd
 have hnew:List.foldl (fun x1 x2=>x1++x2) #[] (List.replicate k.toNat its.toArray)=(List.replicate k.toNat its).flatten.toArray:=by
  have q:=foldl_rep its k.toNat [];rw[List.nil_append] at q;exact q
 have he:its.toArray.isEmpty=false:=by
  cases its with
  |nil=>exact absurd rfl hv
  |cons _ _=>simp
 refine wpAny_binaryOp_repeat_ref (T:="tuple") (U:="int") (by decide) ⟨_,ho,rfl⟩ (fun s'=>typeIs_int s' k t) xk F.fills_int_mul F.slot_int_rmul xU F.slot_int_index.lookup
  (call_meets F.slot_int_rmul (typeIs_int s k t) F.entry_int_rmul (F.args_int_rmul_2 _ _) (xy k t a its.toArray n dd sl)
   ⟨ho,rfl,⟨_,ho,rfl⟩,call_meets PySem.F.slot_tuple_mul ⟨_,ho,rfl⟩ PySem.F.entry_tuple_mul (PySem.F.args_tuple_mul_2 _ _) (yn a its.toArray n dd sl k t h1 h2 he (by rw[List.size_toArray];omega)) ⟨ho,?_⟩⟩)
 rw[hnew];refine⟨.ref s.heap.objs.size,_,I.laid (t':=s.toks) (o:=.tup (List.replicate k.toNat xs).flatten) (fun b ob q=>Heap.get?_push_of_some _ q) (Nat.le_refl _) ?_,rfl,q _ (I.hok.fresh (Nat.le_refl _))⟩;refine⟨?_,_,r.rep k.toNat,IsTup.new _ _⟩;rw[len_rep];have:k.toNat*xs.length<=1000*1000:=Nat.mul_le_mul (by omega) h4
 have:sizeLine=16777216:=by decide
 omega
def bS:PyData->PyData->Option PyData
 |.int i,.int j=>if (-(2^64)<i/\i<2^64)\/(-(2^64)<j/\j<2^64) then some (.int (i*j)) else none
 |.str z,.int k=>if 0<=k/\k<=2000/\z.length<=1000 then some (.str (Txt.mul z k)) else none
 |.tuple xs,.int k=>if 2<=k/\k<=1000/\xs.isEmpty=false/\xs.length<=1000 then some (.tuple (List.replicate k.toNat xs).flatten) else none
 |_,_=>none
theorem gX:OpD X (binaryOp .Mult) bS:=by
 refine⟨_,op_mul.or (op_mulS.or BX),fun O ts H T v1 v2 x y d Q hc h1 h2 e q=>?_⟩;unfold bS at e;split at e
 .split at e
  .rename_i hz
   cases e;exact .inl ⟨_,_,h1.int,h2.int,hz,q _ H (.refl _ _) hc (.int _)⟩
  .cases e
 .split at e
  .rename_i hz
   cases e;exact .inr (.inl ⟨_,_,h1.str,h2.int,hz.1,hz.2.1,hz.2.2,q _ H (.refl _ _) hc (.str _)⟩)
  .cases e
 .split at e
  .rename_i xs k hz
   cases e;obtain⟨a,vs,rfl,t1,r1⟩:=h1.tup;exact .inr (.inr ⟨a,_,vs,rfl,h2.int,t1.sq,hz.1,hz.2.1,fun z=>by subst z;cases r1;exact absurd hz.2.2.1 (by simp),by rw[r1.length];exact hz.2.2.2,fun p hp=>q _ _ (.new hp _) (hc.new hp _) (hc.newT hp (r1.rep _))⟩)
  .cases e
 .cases e
def eqS:PyData->PyData->Option Bool
 |.int i,.int j=>some (decide (i=j))
 |.str x,.str y=>some (decide (x=y))
 |.bool a,.bool b=>some (decide (a=b))
 |.none,.none=>some true
 |.none,.int _=>some false | .int _,.none=>some false | .none,.bool _=>some false | .bool _,.none=>some false | .none,.str _=>some false | .str _,.none=>some false
 |.int _,.str _=>some false | .str _,.int _=>some false | .bool _,.str _=>some false | .str _,.bool _=>some false
 |_,_=>none
theorem u5{K:Frag}{O:Addr->Prop}{H:Hp}{v1 v2:V}{x y:PyData}{b:Bool}(h1:Vw K O H v1 x)(h2:Vw K O H v2 y)(e:eqS x y=some b):oW v1 v2=true/\decide (v1=v2)=b:=by
 unfold eqS at e;split at e
 all_goals first|(cases e;done)|skip
 .cases h1.int;cases h2.int;cases e;exact⟨rfl,by simp⟩
 .cases h1.str;cases h2.str;cases e;exact⟨rfl,by simp⟩
 .cases h1.bl;cases h2.bl;cases e;exact⟨rfl,by simp⟩
 .cases h1.non;cases h2.non;cases e;exact⟨rfl,by simp⟩
 .cases h1.non;cases h2.int;cases e;exact⟨rfl,by simp⟩
 .cases h1.int;cases h2.non;cases e;exact⟨rfl,by simp⟩
 .cases h1.non;cases h2.bl;cases e;exact⟨rfl,by simp⟩
 .cases h1.bl;cases h2.non;cases e;exact⟨rfl,by simp⟩
 .cases h1.non;cases h2.str;cases e;exact⟨rfl,by simp⟩
 .cases h1.str;cases h2.non;cases e;exact⟨rfl,by simp⟩
 .cases h1.int;cases h2.str;cases e;exact⟨rfl,by simp⟩
 .cases h1.str;cases h2.int;cases e;exact⟨rfl,by simp⟩
 .cases h1.bl;cases h2.str;cases e;exact⟨rfl,by simp⟩
 .cases h1.str;cases h2.bl;cases e;exact⟨rfl,by simp⟩
def eqD(x y:PyData):Option PyData:=(eqS x y).map .bool
def neD(x y:PyData):Option PyData:=(eqS x y).map fun b=>.bool (!b)
theorem bb:OpD X (compareOp .Eq) eqD:=⟨_,Ff,fun O ts H T v1 v2 x y d Q hc h1 h2 e q=>by
 unfold eqD at e;obtain⟨b,e1,rfl⟩:=Option.map_eq_some_iff.mp e;obtain⟨k1,k2⟩:=u5 h1 h2 e1
 exact⟨k1,by rw[k2];exact q _ H (.refl _ _) hc (.bl _)⟩⟩
theorem eE:OpD X (compareOp .NotEq) neD:=⟨_,E6,fun O ts H T v1 v2 x y d Q hc h1 h2 e q=>by
 unfold neD at e;obtain⟨b,e1,rfl⟩:=Option.map_eq_some_iff.mp e;obtain⟨k1,k2⟩:=u5 h1 h2 e1
 exact⟨k1,by rw[k2];exact q _ H (.refl _ _) hc (.bl _)⟩⟩
def isNone:PyData->Bool
 |.none=>true
 |_=>false
theorem rp{K:Frag}{O:Addr->Prop}{H:Hp}{v:V}{x:PyData}(h:Vw K O H v x):decide (v=.non)=isNone x:=by
 cases h with
 |rep h=>cases h <;> rfl
 |raw _ _=>rfl
 |rawD _ _=>rfl
def isD:PyData->PyData->Option PyData
 |x,.none=>some (.bool (isNone x))
 |_,_=>none
theorem lN:OpD X (compareOp .Is) isD:=⟨_,DG,fun O ts H T v1 v2 x y d Q hc h1 h2 e q=>by
 unfold isD at e;split at e
 .cases e
  exact⟨h2.non,by rw[rp h1];exact q _ H (.refl _ _) hc (.bl _)⟩
 .cases e⟩
def eN:PyData->PyData->Option PyData
 |x,.none=>some (.bool (!isNone x))
 |.bool a,.bool b=>some (.bool (a != b))
 |_,_=>none
theorem kO:OpD X (compareOp .IsNot) eN:=⟨_,op_notN.or zh,fun O ts H T v1 v2 x y d Q hc h1 h2 e q=>by
 unfold eN at e;split at e
 .cases e
  exact .inl ⟨h2.non,by rw[rp h1];exact q _ H (.refl _ _) hc (.bl _)⟩
 .cases e
  exact .inr ⟨_,_,h1.bl,h2.bl,q _ H (.refl _ _) hc (.bl _)⟩
 .cases e⟩
def cO:PyData->Bool
 |.none=>true | .bool _=>true | .int _=>true | .str _=>true
 |_=>false
def eqF:PyData->PyData->Bool
 |.none,.none=>true
 |.bool a,.bool b=>a == b
 |.bool a,.int b=>(if a then 1 else 0) == b
 |.int a,.bool b=>a == (if b then 1 else 0)
 |.int a,.int b=>a == b
 |.str a,.str b=>a == b
 |_,_=>false
def lP(y x:Str):Bool:=!(Builtin.Str.occurrences y x 0 y.length 1).isEmpty
def inS:PyData->PyData->Option Bool
 |.str x,.str y=>some (lP y x)
 |x,.list ys=>if cO x&&ys.all cO then some (ys.any fun y=>eqF y x) else none
 |x,.tuple ys=>if cO x&&ys.all cO then some (ys.any fun y=>eqF y x) else none
 |_,_=>none
theorem nj{K:Frag}{O:Addr->Prop}{H:Hp}{v:V}{x:PyData}(h:Rep K O H v x)(e:cO x=true):eQ v=true:=by cases h <;> first|rfl|cases e
theorem En{K:Frag}{O:Addr->Prop}{H:Hp}{v u:V}{x y:PyData}(h:Rep K O H v x)(g:Rep K O H u y)(ex:cO x=true)(ey:cO y=true):eqV v u=eqF x y:=by cases h <;> cases g <;> first|rfl|cases ex|cases ey
theorem mL{K:Frag}{O:Addr->Prop}{H:Hp}:∀{vs:List V}{xs:List PyData},Reps K O H vs xs->xs.all cO=true->vs.all eQ=true
 |_,_,.nil,_=>rfl
 |_,_,.cons r t,e=>by
  rw[List.all_cons,Bool.and_eq_true] at e;rw[List.all_cons,nj r e.1,mL t e.2];rfl
theorem nF{K:Frag}{O:Addr->Prop}{H:Hp}{v:V}{x:PyData}(h:Rep K O H v x)(ex:cO x=true):∀{vs:List V}{xs:List PyData},Reps K O H vs xs->xs.all cO=true->(vs.any fun y=>eqV y v)=xs.any fun y=>eqF y x
 |_,_,.nil,_=>rfl
 |_,_,.cons r t,e=>by
  rw[List.all_cons,Bool.and_eq_true] at e;rw[List.any_cons,List.any_cons,En r h e.1 ex,nF h ex t e.2]
theorem Vw.flat{K:Frag}{O:Addr->Prop}{H:Hp}{v:V}{x:PyData}(h:Vw K O H v x)(e:cO x=true):Rep K O H v x:=by
 cases h with
 |rep h=>exact h
 |raw _ _=>cases e
 |rawD _ _=>cases e
def inD(x y:PyData):Option PyData:=(inS x y).map .bool
def dJ(x y:PyData):Option PyData:=(inS x y).map fun b=>.bool (!b)
theorem kY{K:Frag}(neg:Bool):gn K (fun x y H Q=>(∃i j,x=.str i/\y=.str j/\Q (.bl (if neg then !(lP j i) else lP j i)) H)\/rIn K neg x y H Q) (fun x y=>(inS x y).map fun b=>.bool (if neg then !b else b)):=fun O ts H T v1 v2 x y d Q hc h1 h2 e q=>by
 obtain⟨b,e1,rfl⟩:=Option.map_eq_some_iff.mp e;unfold inS at e1;split at e1
 .cases e1
  exact .inl ⟨_,_,h1.str,h2.str,q _ H (.refl _ _) hc (.bl _)⟩
 .split at e1
  .rename_i hf
   cases e1;rw[Bool.and_eq_true] at hf;obtain⟨a,vs,rfl,t,r⟩:=h2.lst;have r1:=h1.flat hf.1;refine .inr ⟨a,vs,rfl,.inl t,nj r1 hf.1,mL r hf.2,?_⟩;have z:inV v1 vs=_:=nF r1 hf.1 r hf.2;rw[z];exact q _ H (.refl _ _) hc (.bl _)
  .cases e1
 .split at e1
  .rename_i hf
   cases e1;rw[Bool.and_eq_true] at hf;obtain⟨a,vs,rfl,t,r⟩:=h2.tup;have r1:=h1.flat hf.1;refine .inr ⟨a,vs,rfl,.inr t.sq,nj r1 hf.1,mL r hf.2,?_⟩;have z:inV v1 vs=_:=nF r1 hf.1 r hf.2;rw[z];exact q _ H (.refl _ _) hc (.bl _)
  .cases e1
 .cases e1
theorem lO:OpD X (compareOp .In) inD:=⟨_,op_in_str.or qX,kY false⟩
theorem kN:OpD X (compareOp .NotIn) dJ:=⟨_,op_notin_str.or pR,kY true⟩
def bf:PyData->Option PyData
 |.int i=>some (.int (-i))
 |_=>none
theorem da{a:Expr}{fa:FE}{pos:Pos}(ha:DE X a fa):DE X (.UnaryOp .USub a pos) (fUn bf fa):=FJ CY (fun O ts H T v x d Q hc h e q=>by
 unfold bf at e;split at e
 .cases e
  exact⟨_,h.int,q _ H (.refl _ _) hc (.int _)⟩
 .cases e) ha
def ixD:PyData->PyData->Option PyData
 |.list xs,.int i=>atI xs i
 |.tuple xs,.int i=>atI xs i
 |.str z,.int i=>if z.length<=sizeLine then (atI z.cps.toList i).map fun c=>.str ⟨#[c]⟩ else none
 |_,_=>none
theorem tf{K:Frag}{O:Addr->Prop}{H:Hp}{vs:List V}{xs:List PyData}{i:Int}{d:PyData}(r:Reps K O H vs xs)(e:atI xs i=some d):∃v,atI vs i=some v/\Rep K O H v d:=by
 unfold atI at e ⊢;rw[r.length]
 cases h:ixN xs.length i with
 |none=>rw[h] at e;cases e
 |some j=>
  rw[h] at e;exact r.getD e
theorem az:IxD X ixD:=⟨_,D7,fun O ts H T v1 v2 x y d Q hc h1 h2 e q=>by
 unfold ixD at e;split at e
 .obtain⟨a,vs,rfl,t,r⟩:=h1.lst
  obtain⟨v,k1,k2⟩:=tf r e;exact .inl ⟨a,vs,_,v,rfl,h2.int,t,k1,q _ H (.refl _ _) hc k2⟩
 .obtain⟨a,vs,rfl,t,r⟩:=h1.tup
  obtain⟨v,k1,k2⟩:=tf r e;exact .inr (.inl ⟨a,vs,_,v,rfl,h2.int,t.sq,k1,q _ H (.refl _ _) hc k2⟩)
 .split at e
  .rename_i hz
   obtain⟨c,k1,rfl⟩:=Option.map_eq_some_iff.mp e;exact .inr (.inr ⟨_,_,c,h1.str,h2.int,hz,k1,q _ H (.refl _ _) hc (.str _)⟩)
  .cases e
 .cases e⟩
end
theorem wY{prog:Program}{w:World}{A:Around}{E:Value->Shared->Prop}{s:Shared}{t sl:Addr}{items:Array Value}{vl vu:Value}{lo hi:Option Int}{Q:Value->Shared->Prop}(ht:IsTup s.heap t items)(hs:s.heap.IsSliceOf sl vl vu .none)(pl:IsPart vl lo)(pu:IsPart vu hi)
  (hw:HT.sIx items.size 0 lo=0/\HT.sIx items.size items.size hi=items.size) (h:Q (.ref t) s):wpAny (model prog w) A (getItem (.ref t) (.ref sl)) Q E s:=by
 obtain⟨os,hos,hcs,hds⟩:=id hs;have hTs:s.TypeIs (.ref sl) "slice":=⟨os,hos,hcs⟩;unfold getItem
 try with_reducible refine wpAny_holding ?_
 first|refine wpAny_bind (wpAny_pure ?_)|skip
 refine wpAny_bind (wpAny_sequenceKey ht.typeIs (by decide) ?_)
 refine wpAny_bind (wpAny_callSpecial?_slot (name:=Str.ofString "__getitem__") ht.typeIs PyProof.Rows.slot_tuple_getitem
  (wpAny_call_entry PyProof.Rows.slot_tuple_getitem ht.typeIs entry_tuple_getitem ?_ (args_tuple_getitem _ _)))
 show wpAny _ _ (Builtin.Tuple.tupleItemsOf (.ref t) >>= _) _ _ s;refine wpAny_bind (tupleItemsOf_ ht ?_);refine wpAny_bind (wpAny_typeOf hTs ?_);rw[if_pos (by decide)];refine wpAny_bind (HT.pI hs pl pu ?_)
 have hyes:((((HT.sIx items.size 0 lo:Nat):Int) == 0&&(1:Int) == 1&&(HT.sIx items.size items.size hi-HT.sIx items.size 0 lo) == items.size)=true):=by
  rw[hw.1,hw.2];simp
 show wpAny _ _ (if (((HT.sIx items.size 0 lo:Nat):Int) == 0&&(1:Int) == 1&&(HT.sIx items.size items.size hi-HT.sIx items.size 0 lo) == items.size)=true then _ else _) _ _ s;rw[if_pos hyes];refine wpAny_bind (m:=Builtin.Tuple.tupleIsExact (.ref t)) (wpAny_bind (wpAny_typeOf ht.typeIs (wpAny_pure ?_)))
 first
 |exact wpAny_bind (wpAny_rule (wpAny_bind (wpAny_pure ⟨_,rfl,wpAny_pure h⟩)))
 |(simp only[beq_self_eq_true,if_true];exact wpAny_bind (wpAny_rule (wpAny_pure ⟨_,rfl,wpAny_pure h⟩)))
def cB{α:Type}(xs:List α)(lo hi:Option Int):List α:=(xs.drop (HT.sIx xs.length 0 lo)).take (HT.sIx xs.length xs.length hi-HT.sIx xs.length 0 lo)
theorem Reps.cut{K:Frag}{O:Addr->Prop}{H:Hp}{vs:List V}{ds:List PyData}(r:Reps K O H vs ds)(lo hi:Option Int):Reps K O H (fN vs lo hi) (cB ds lo hi):=by
 unfold fN cB;rw[r.length];exact(r.drop _).take _
theorem zQ{α:Type}{xs:List α}{lo hi:Option Int}(h:HT.sIx xs.length 0 lo=0/\HT.sIx xs.length xs.length hi=xs.length):cB xs lo hi=xs:=by
 unfold cB;rw[h.1,h.2];simp
section
variable {X:Cx}
theorem sl_tupA:SlR X (fun x lo hi H Q=>∃a xs,x=.ref a/\SqT X.K H a xs/\((HT.sIx xs.length 0 lo=0/\HT.sIx xs.length xs.length hi=xs.length)->Q (.ref a) H) /\
  (¬(HT.sIx xs.length 0 lo=0/\HT.sIx xs.length xs.length hi=xs.length)->∀p,H p=none->Q (.ref p) (upd H p (.tup (fN xs lo hi))))):=by
 intro pins s σ H x v vl vu lo hi sl Q I rx hs pl pu h;obtain⟨a,xs,rfl,hx,q1,q2⟩:=h
 by_cases hw:HT.sIx xs.length 0 lo=0/\HT.sIx xs.length xs.length hi=xs.length
 .cases rx
  obtain⟨its,r,ht,hz⟩:=I.tuple hx
  have hlen:its.toArray.size=xs.length:=by rw[List.size_toArray];exact r.length.symm
  refine⟨"tuple",_,PyProof.Rows.slot_tuple_getitem.lookup,ht.typeIs,?_⟩;exact wY ht hs pl pu (by rw[hlen];exact hw) ⟨.ref a,H,I,rfl,q1 hw⟩
 .exact C9 pins s σ H _ v vl vu lo hi sl Q I rx hs pl pu ⟨a,xs,rfl,hx,hw,q2 hw⟩
def js(x:PyData)(lo hi:Option Int):Option PyData:=match x with
 |.list xs=>some (.list (cB xs lo hi))
 |.tuple xs=>some (.tuple (cB xs lo hi))
 |.str z=>if z.length<=sizeLine then some (.str (Txt.slice z lo hi)) else none
 |_=>none
abbrev FO:=Rho->Tp->Option (Option Int×Tp)
def b9:FO:=fun _ T=>some (none,T)
def fP(f:FE):FO:=fun ρ T=>bnd (f ρ T) fun w T1=>match w with
 |.d (.int i)=>some (some i,T1)
 |_=>none
inductive LiftOP(K:Frag)(f:FO)(σ:L2.St)(H:Hp)(Q:Option Int->Hp->Prop):Prop where
 |mk (O:Addr->Prop) (ts:List Addr) (ρ:Rho) (T:Tp) (o:Option Int) (T':Tp) (hc:HC K O ts H T) (re:RelE K O ts H σ ρ) (e:f ρ T=some (o,T')) (q:∀H',SameX ts H H'->HC K O ts H' T'->Q o H'):LiftOP K f σ H Q
def Fp(K:Frag)(f:FO):TO:=fun σ H Q=>LiftOP K f σ H Q
structure DO(X:Cx)(e:Option Expr)(f:FO):Prop where
 pe:PO X e (Fp X.K f)
theorem uE{e:Option Expr}{t t':TO}(h:PO X e t)(i:∀σ H Q,t' σ H Q->t σ H Q):PO X e t':=fun pins s σ H Q I q=>h pins s σ H Q I (i σ H Q q)
theorem eM:DO X none b9:=by
 refine⟨?_⟩;refine uE BN fun σ H Q=>?_;rintro⟨O,ts,ρ,T,o,T',hc,re,e,q⟩;cases e;exact q H (.refl _ _) hc
theorem cC{e:Expr}{f:FE}(h:DE X e f):DO X (some e) (fP f):=by
 refine⟨?_⟩;refine uE (BM h.pe) fun σ H Q=>?_;rintro⟨O,ts,ρ,T,o,T',hc,re,e,q⟩;obtain⟨w1,T1,e1,e⟩:=aL e;refine⟨O,ts,ρ,T,w1,T1,hc,re,e1,fun v1 H1 s1 hc1 r1=>?_⟩;split at e
 .cases e
  cases (show Rep X.K O H1 v1 _ from r1);exact⟨_,rfl,q H1 s1 hc1⟩
 .cases e
def fSl(f:FE)(l u:FO):FE:=fun ρ T=>bnd (f ρ T) fun w T1=>bnd (l ρ T1) fun lo T2=>bnd (u ρ T2) fun hi T3=>op1 (fun x=>js x lo hi) T3 w
theorem dg{e:Expr}{lo hi:Option Expr}{f:FE}{l u:FO}{pos p2:Pos}(he:DE X e f)(hl:DO X lo l)(hu:DO X hi u):DE X (.Subscript e (.Slice lo hi none p2) pos) (fSl f l u):=by
 refine⟨?_⟩;refine br (Am (sl_list.or (sl_tupA.or Da)) he.pe hl.pe hu.pe) fun σ H Q=>?_;rintro⟨O,ts,ρ,T,w,T',hc,re,e,q⟩;obtain⟨w1,T1,e1,e⟩:=aL e;obtain⟨o1,T2,e2,e⟩:=aL e;obtain⟨o2,T3,e3,e⟩:=aL e;obtain⟨x,d,h1,h3,rfl,rfl⟩:=gH e;refine⟨O,ts,ρ,T,w1,T1,hc,re,e1,fun v1 H1 s1 hc1 r1=>?_⟩;refine⟨O,ts,ρ,T1,o1,T2,hc1,re.mono hc s1,e2,fun H2 s2 hc2=>?_⟩;refine⟨O,ts,ρ,T2,o2,T',hc2,re.mono hc (s1.trans s2),e3,fun H3 s3 hc3=>?_⟩;have vw:=hc3.view (r1.mono hc1 (s2.trans s3)) h1;have q':∀v H',SameX ts H3 H'->HC X.K O ts H' T'->Rep X.K O H' v d->Q v H':=fun v H' s c r=>q v H' (s1.trans (s2.trans (s3.trans s))) c r;clear q
 cases x with
 |list xs=>
  cases h3;obtain⟨a,vs,rfl,t,r⟩:=vw.lst;exact .inl ⟨a,vs,rfl,t,fun p hp=>q' _ _ (.new hp _) (hc3.new hp _) (hc3.newL hp (r.cut _ _))⟩
 |tuple xs=>
  cases h3;obtain⟨a,vs,rfl,t,r⟩:=vw.tup;refine .inr (.inl ⟨a,vs,rfl,t.sq,fun hw=>?_,fun hw p hp=>?_⟩)
  .rw[r.length] at hw
   rw[zQ hw] at q';exact q' _ H3 (.refl _ _) hc3 vw.tupR
  .exact q' _ _ (.new hp _) (hc3.new hp _) (hc3.newT hp (r.cut _ _))
 |str z=>
  have h3':(if z.length<=sizeLine then some (PyData.str (Txt.slice z o1 o2)) else none)=some d:=h3;split at h3'
  .rename_i hz
   cases h3';exact .inr (.inr ⟨z,vw.str,hz,q' _ H3 (.refl _ _) hc3 (.str _)⟩)
  .cases h3'
 |_=>cases h3
end
inductive Kd where
 |non|bl|int|str|tup|lst|dct
 deriving DecidableEq
def Kd.name:Kd->String
 |.non=>"NoneType" | .bl=>"bool" | .int=>"int" | .str=>"str" | .tup=>"tuple" | .lst=>"list" | .dct=>"dict"
def kd:PyData->Kd
 |.none=>.non | .bool _=>.bl | .int _=>.int | .str _=>.str | .list _=>.lst | .tuple _=>.tup | .dict _=>.dct
def cS(a b:Kd):Bool:=decide (a=b)||(decide (a=.bl)&&decide (b=.int))
def Gw(t c:String):Option Bool:=if (Value.type t == Value.type c)=true then some true else if PySem.W.kitMeta c=true then (fastBuiltinMro t).map (·.contains (.type c)) else none
theorem ft(a b:Kd):b≠.non->Gw a.name b.name=some (cS a b):=by cases a <;> cases b <;> first|(intro h;exact absurd rfl h)|(intro _;decide +kernel)
section
variable {X:Cx}
theorem A9:CallR X (.builtin "isinstance") (fun xs H Q=>∃(x:V) (c:Kd) (O:Addr->Prop) (d:PyData),xs=[x,.ty c.name]/\Vw X.K O H x d/\c≠.non/\Q (.bl (cS (kd d) c)) H):=by
 intro pins s σ H xs us Q I r h;obtain⟨x,c,O,d,rfl,vw,hc,q⟩:=h;obtain⟨u,w',rfl,ru,rw'⟩:=vals2 r;cases (show w'=Value.type c.name from rw');have fin:∀tk,EP X pins σ Q (.bool (cS (kd d) c)) { s with toks:=tk }:=fun tk=>⟨.bl _,H,I.tok _,rfl,q⟩
 cases d with
 |none=>cases vw.non;exact kz I ru .non (show PySem.W.kitOne X.K (.type (Kd.name .non)) (.type c.name)=some _ from ft .non c hc) fin
 |bool b=>cases vw.bl;exact kz I ru (.bl b) (show PySem.W.kitOne X.K (.type (Kd.name .bl)) (.type c.name)=some _ from ft .bl c hc) fin
 |int i=>cases vw.int;exact kz I ru (.int i) (show PySem.W.kitOne X.K (.type (Kd.name .int)) (.type c.name)=some _ from ft .int c hc) fin
 |str z=>cases vw.str;exact kz I ru (.str z) (show PySem.W.kitOne X.K (.type (Kd.name .str)) (.type c.name)=some _ from ft .str c hc) fin
 |list ds=>
  obtain⟨a,vs,rfl,t,r⟩:=vw.lst;cases (show u=Value.ref a from ru);obtain⟨its,_,pl,_⟩:=I.list t;obtain⟨o,n,e,c1,_⟩:=pl;exact PySem.W.kia_one PySem.W.kitx_list I.kIn ⟨o,e,c1⟩ (show PySem.W.kitOne X.K (.type (Kd.name .lst)) (.type c.name)=some _ from ft .lst c hc) (fun z=>nomatch z) fin
 |tuple ds=>
  obtain⟨a,vs,rfl,t,r⟩:=vw.tup;cases (show u=Value.ref a from ru);obtain⟨its,_,pl,_⟩:=I.tuple t.sq;obtain⟨o,e,c1,_⟩:=pl;exact PySem.W.kia_one PySem.W.kitx_tuple I.kIn ⟨o,e,c1⟩ (show PySem.W.kitOne X.K (.type (Kd.name .tup)) (.type c.name)=some _ from ft .tup c hc) (fun z=>nomatch z) fin
 |dict ds=>
  obtain⟨a,vs,rfl,t,r⟩:=vw.dct;cases (show u=Value.ref a from ru);obtain⟨_,_,_,_,o,_,_,e,c1,_⟩:=dz I.hok t;exact PySem.W.kia_one PySem.W.kitx_dict I.kIn ⟨o,e,c1.1⟩ (show PySem.W.kitOne X.K (.type (Kd.name .dct)) (.type c.name)=some _ from ft .dct c hc) (fun z=>nomatch z) fin
def bt(c:Kd)(x:PyData):Option PyData:=some (.bool (cS (kd x) c))
theorem bE{e:Expr}{f:FE}{p p' pos:Pos}{T:Str}(c:Kd)(hi:X.mg "isinstance"=none)(he:DE X e f)(hm:X.mg T=none)(hb:bootBuiltins T=some (.type c.name))(hcn:c≠.non:=by decide)(hg:Gl X "isinstance":=by rfl)(hT:Gl X T:=by rfl)(hn:T≠"__name__":=by decide)(hdb:(T == ("__debug__" : Str))=false:=by decide)
  (hs:starEach [e,.Name T p] X.env=(false,eval e X.env)::starEach [.Name T p] X.env:=by exact bu rfl) (hs2:starEach [.Name T p] X.env=(false,eval (.Name T p) X.env)::starEach [] X.env:=by exact bu rfl)
  (hpl:(backTo pos (starEach [.Name T p] X.env)).any (·.1)=false:=by exact cg rfl):DE X (.Call (.Name "isinstance" p') [e,.Name T p] [] pos) (fUn (bt c) f):=by
 refine⟨?_⟩;refine br (kG A9 hg hi PyProof.Rows.boot_isinstance (cx he.pe (cx (m6 (v:=.ty c.name) hT hm hb rfl hn hdb) cX hs2) hs) (by decide) (by decide) hs hpl) fun σ H Q=>?_;rintro⟨O,ts,ρ,T,w,T',hc,re,e,q⟩;obtain⟨w1,T1,e1,e⟩:=aL e;obtain⟨x,d,h1,h3,rfl,rfl⟩:=gH e;cases h3;refine⟨O,ts,ρ,T,w1,T',hc,re,e1,fun v1 H1 s1 hc1 r1=>?_⟩;exact⟨v1,c,O,x,rfl,hc1.view r1 h1,hcn,q _ H1 s1 hc1 (.bl _)⟩
def aT:List PyData->Option PyData
 |[.list xs]=>some (.int xs.length)
 |[.tuple xs]=>some (.int xs.length)
 |[.str z]=>if z.length<=sizeLine then some (.int z.length) else none
 |[.dict kvs]=>some (.int kvs.length)
 |_=>none
theorem cR{K:Frag}{O:Addr->Prop}{H:Hp}{vs:List V}{x:PyData}(h:Vws K O H vs [x]):∃v,vs=[v]/\Vw K O H v x:=by cases h with|cons h t=>cases t;exact⟨_,rfl,h⟩
theorem wa{K:Frag}{O:Addr->Prop}{H:Hp}{vs:List V}{x y:PyData}(h:Vws K O H vs [x,y]):∃v u,vs=[v,u]/\Vw K O H v x/\Vw K O H u y:=by cases h with|cons h t=>cases t with|cons h' t=>cases t;exact⟨_,_,rfl,h,h'⟩
theorem rR{K:Frag}{O:Addr->Prop}{H:Hp}:∀{kvs:List (Key×V)}{ds:List (PyData×PyData)},RepK K O H kvs ds->kvs.length=ds.length
 |_,_,.nil=>rfl
 |_,_,.cons _ t=>congrArg (· + 1) (rR t)
theorem zV:CallR X (.builtin "len") (fun xs H Q=>∃a kvs,xs=[V.ref a]/\Rd H a (.dK kvs)/\Q (.int kvs.length) H):=by
 intro pins s σ H xs us Q I r h;obtain⟨a,kvs,rfl,ha,q⟩:=h;obtain⟨u,rfl,ru⟩:=vals1 r;cases ru;exact FQ I ha fun t s' I'=>⟨.int kvs.length,H,I',⟨t,rfl⟩,q⟩
theorem bC:dB X (.builtin "len") aT:=⟨_,call_len_seq.or (call_len_str.or zV),fun O ts H T vs xs d Q hc h e q=>by
 unfold aT at e;split at e
 .cases e
  obtain⟨v,rfl,g⟩:=cR h;obtain⟨a,vs,rfl,t,r⟩:=g.lst;exact .inl ⟨a,vs,rfl,.inl t,by rw[r.length];exact q _ H (.refl _ _) hc (.int _)⟩
 .cases e
  obtain⟨v,rfl,g⟩:=cR h;obtain⟨a,vs,rfl,t,r⟩:=g.tup;exact .inl ⟨a,vs,rfl,.inr t.sq,by rw[r.length];exact q _ H (.refl _ _) hc (.int _)⟩
 .split at e
  .rename_i hz
   cases e;obtain⟨v,rfl,g⟩:=cR h;cases g.str;exact .inr (.inl ⟨_,rfl,hz,q _ H (.refl _ _) hc (.int _)⟩)
  .cases e
 .cases e
  obtain⟨v,rfl,g⟩:=cR h;obtain⟨a,kvs,rfl,t,r⟩:=g.dct;exact .inr (.inr ⟨a,kvs,rfl,t,by rw[rR r];exact q _ H (.refl _ _) hc (.int _)⟩)
 .cases e⟩
def lT:List PyData->Option PyData
 |[.int i]=>some (.int (if i<0 then -i else i))
 |_=>none
theorem FY:dB X (.builtin "abs") lT:=⟨_,Bc,fun O ts H T vs xs d Q hc h e q=>by
 unfold lT at e;split at e
 .cases e
  obtain⟨v,rfl,g⟩:=cR h;cases g.int;exact⟨_,rfl,q _ H (.refl _ _) hc (.int _)⟩
 .cases e⟩
def fB:List PyData->Option PyData
 |[.int i,.int j]=>some (.int (if j>i then j else i))
 |_=>none
def eP:List PyData->Option PyData
 |[.int i,.int j]=>some (.int (if j<i then j else i))
 |_=>none
theorem FW(hc:X.calm=true:=by rfl):dB X (.builtin "max") fB:=⟨_,zU hc,fun O ts H T vs xs d Q hc h e q=>by
 unfold fB at e;split at e
 .cases e
  obtain⟨v,u,rfl,g,g'⟩:=wa h;cases g.int;cases g'.int;exact⟨_,_,rfl,q _ H (.refl _ _) hc (.int _)⟩
 .cases e⟩
theorem v5(hc:X.calm=true:=by rfl):dB X (.builtin "min") eP:=⟨_,zR hc,fun O ts H T vs xs d Q hc h e q=>by
 unfold eP at e;split at e
 .cases e
  obtain⟨v,u,rfl,g,g'⟩:=wa h;cases g.int;cases g'.int;exact⟨_,_,rfl,q _ H (.refl _ _) hc (.int _)⟩
 .cases e⟩
def fw:List PyData->Option (List Bool)
 |[]=>some []
 |.bool b::r=>(fw r).map (b::·)
 |_=>none
def fG:List PyData->Option (List Int)
 |[]=>some []
 |.int b::r=>(fG r).map (b::·)
 |_=>none
def de:List PyData->Option (List Str)
 |[]=>some []
 |.str b::r=>(de r).map (b::·)
 |_=>none
theorem mO{K:Frag}{O:Addr->Prop}{H:Hp}:∀{vs:List V}{xs:List PyData}{bs:List Bool},Reps K O H vs xs->fw xs=some bs->vs=bs.map V.bl
 |_,_,_,.nil,e=>by cases e;rfl
 |_,x::r,bs,.cons h t,e=>by
  cases x with
  |bool b=>
   obtain⟨cs,e1,rfl⟩:=Option.map_eq_some_iff.mp (show (fw r).map (b::·)=some bs from e);cases h;rw[mO t e1];rfl
  |_=>cases e
theorem sj{K:Frag}{O:Addr->Prop}{H:Hp}:∀{vs:List V}{xs:List PyData}{bs:List Int},Reps K O H vs xs->fG xs=some bs->vs=bs.map V.int
 |_,_,_,.nil,e=>by cases e;rfl
 |_,x::r,bs,.cons h t,e=>by
  cases x with
  |int b=>
   obtain⟨cs,e1,rfl⟩:=Option.map_eq_some_iff.mp (show (fG r).map (b::·)=some bs from e);cases h;rw[sj t e1];rfl
  |_=>cases e
theorem kK{K:Frag}{O:Addr->Prop}{H:Hp}:∀{vs:List V}{xs:List PyData}{bs:List Str},Reps K O H vs xs->de xs=some bs->vs=bs.map V.str
 |_,_,_,.nil,e=>by cases e;rfl
 |_,x::r,bs,.cons h t,e=>by
  cases x with
  |str b=>
   obtain⟨cs,e1,rfl⟩:=Option.map_eq_some_iff.mp (show (de r).map (b::·)=some bs from e);cases h;rw[kK t e1];rfl
  |_=>cases e
def cU:List PyData->Option PyData
 |[.list xs]=>(fw xs).map fun bs=>.bool (bs.all id)
 |_=>none
theorem eR(hc:X.calm=true:=by rfl):dB X (.builtin "all") cU:=⟨_,Bb hc,fun O ts H T vs xs d Q hc h e q=>by
 unfold cU at e;split at e
 .obtain⟨bs,e1,rfl⟩:=Option.map_eq_some_iff.mp e
  obtain⟨v,rfl,g⟩:=cR h;obtain⟨a,vs,rfl,t,r⟩:=g.lst;rw[mO r e1] at t;exact⟨a,bs,rfl,t,q _ H (.refl _ _) hc (.bl _)⟩
 .cases e⟩
def lL:List PyData->Option PyData
 |[.list xs]=>(fG xs).map fun bs=>.int bs.sum
 |_=>none
theorem FU(hc:X.calm=true:=by rfl):dB X (.builtin "sum") lL:=⟨_,A8 hc,fun O ts H T vs xs d Q hc h e q=>by
 unfold lL at e;split at e
 .obtain⟨bs,e1,rfl⟩:=Option.map_eq_some_iff.mp e
  obtain⟨v,rfl,g⟩:=cR h;obtain⟨a,vs,rfl,t,r⟩:=g.lst;rw[sj r e1] at t;exact⟨a,bs,rfl,t,q _ H (.refl _ _) hc (.int _)⟩
 .cases e⟩
def Fk:PyData->PyData->Option PyData
 |.list xs,.int d=>(fG xs).map fun bs=>.int (K1.iS d bs)
 |_,_=>none
def oV:List PyData->Option PyData
 |[.int i]=>if i.natAbs.log2<1920 then some (.str (toString i)) else none
 |_=>none
theorem FV:dB X (.type "str") oV:=⟨_,xZ,fun O ts H T vs xs d Q hc h e q=>by
 unfold oV at e;split at e
 .split at e
  .rename_i hz
   cases e;obtain⟨v,rfl,g⟩:=cR h;cases g.int;exact⟨_,rfl,hz,q _ H (.refl _ _) hc (.str _)⟩
  .cases e
 .cases e⟩
def bY:List PyData->Option PyData
 |[.list xs]=>some (.tuple xs)
 |[.tuple xs]=>some (.tuple xs)
 |_=>none
theorem fW:dB X (.type "tuple") bY:=⟨_,xQ,fun O ts H T vs xs d Q hc h e q=>by
 unfold bY at e;split at e
 .cases e
  obtain⟨v,rfl,g⟩:=cR h;obtain⟨a,vs,rfl,t,r⟩:=g.lst;exact⟨a,vs,rfl,.inl ⟨t,fun p hp=>q _ _ (.new hp _) (hc.new hp _) (hc.newT hp r)⟩⟩
 .cases e
  obtain⟨v,rfl,g⟩:=cR h;obtain⟨a,vs,e1,t,r⟩:=g.tup;subst e1;exact⟨a,vs,rfl,.inr ⟨t.sq,q _ H (.refl _ _) hc (.tup t r)⟩⟩
 .cases e⟩
def iI:List PyData->Option PyData
 |[.list xs]=>some (.list xs)
 |[.tuple xs]=>some (.list xs)
 |_=>none
theorem ve:dB X (.type "list") iI:=⟨_,pV,fun O ts H T vs xs d Q hc h e q=>by
 unfold iI at e;split at e
 .cases e
  obtain⟨v,rfl,g⟩:=cR h;obtain⟨a,vs,rfl,t,r⟩:=g.lst;exact⟨a,vs,rfl,.inl t,fun p hp=>q _ _ (.new hp _) (hc.new hp _) (hc.newL hp r)⟩
 .cases e
  obtain⟨v,rfl,g⟩:=cR h;obtain⟨a,vs,rfl,t,r⟩:=g.tup;exact⟨a,vs,rfl,.inr t.sq,fun p hp=>q _ _ (.new hp _) (hc.new hp _) (hc.newL hp r)⟩
 .cases e⟩
theorem Ay:MtR X "str.join" (fun x vs H Q=>∃(z:Str) (l:Addr) (ys:List Str),x=.str z/\vs=[.ref l]/\SqL X.K H l (ys.map V.str)/\(ys.map (·.length)).sum+ys.length*z.length<=16777216/\Q (.str (Str.join z ys)) H):=by
 intro pins s σ H x vs v us Q I rx rv h;obtain⟨z,l,ys,rfl,rfl,hq,hz,q⟩:=h;obtain⟨t,rfl⟩:=rx;obtain⟨u,rfl,ru⟩:=vals1 rv;cases ru;obtain⟨its,rw',pl,_⟩:=I.list hq;refine join_list (ys:=ys) pl.isList (by simpa using yp rw') hz fun t' k=>⟨.str _,H,I.tok _,⟨t',?_⟩,q⟩;show Value.str (Builtin.Str.glued z ys) t'=_;rw[StrLaws.glued_eq_join]
def oJ:PyData->PyData->Option PyData
 |.str z,.list xs=>match de xs with
  |some ys=>if (ys.map (·.length)).sum+ys.length*z.length<=16777216 then some (.str (Str.join z ys)) else none
  |none=>none
 |_,_=>none
theorem CA{o e:Expr}{fo fe:FE}{apos cpos:Pos}(ho:DE X o fo)(he:DE X e fe)
  (hbase:attributeBase o "join" X.env (eval o X.env)=eval o X.env:=by rfl)
  (hfew:((backTo cpos (starEach [e] X.env)).all (fun x=>!x.1)&&(backToKw cpos (keywordEach [] X.env)).all (fun x=>x.1.isSome)
   && decide (([e]:List Expr).length+([]:List Keyword).length+(if ([]:List Keyword).isEmpty then 0 else 1)<30))=true:=by exact h6 rfl)
  (hline:(apos.endLine == cpos.line)=true:=by rfl) (hse:starEach [e] X.env=(false,eval e X.env)::starEach [] X.env:=by exact bu rfl) (hplain:(backTo cpos (starEach [] X.env)).any (·.1)=false:=by exact cg rfl) :
  DE X (.Call (.Attribute o "join" apos) [e] [] cpos) (af oJ fo fe):=by
 refine⟨?_⟩;refine br (iF PySem.F.plainAttrs_str PySem.F.slot_str_join PySem.F.type_str_join Ay ho.pe (cx he.pe cX hse) hbase hfew hline hse hplain) fun σ H Q=>?_;rintro⟨O,ts,ρ,T,w,T',hc,re,e,q⟩;obtain⟨w1,T1,e1,e⟩:=aL e;obtain⟨w2,T2,e2,e⟩:=aL e;obtain⟨x,y,d,h1,h2,h3,rfl,rfl⟩:=fZ e;unfold oJ at h3;split at h3
 .rename_i z xs
  split at h3
  .rename_i ys hy
   split at h3
   .rename_i hz
    cases h3;refine⟨O,ts,ρ,T,w1,T1,hc,re,e1,fun v1 H1 s1 hc1 r1=>?_⟩
    have ev:v1=.str z:=by
     cases w1 with
     |d x=>cases h1;cases (show Rep X.K O H1 v1 _ from r1);rfl
     | tp k=>exact(by
       have h1':(T'[k]?).bind hG=some (PyData.str z):=h1
       cases hk:T'[k]? with
       |none=>rw[hk] at h1';cases h1'
       |some xs=>
        rw[hk] at h1';have e2:(if isO xs=true then none else some (PyData.list xs))=some (PyData.str z):=h1'
        split at e2 <;> cases e2)
     |loc zs=>cases zs <;> cases h1
    subst ev;refine⟨rfl,O,ts,ρ,T1,w2,T',hc1,re.mono hc s1,e2,fun v2 H2 s2 hc2 r2=>?_⟩;obtain⟨a,vs,rfl,t,r⟩:=(hc2.view r2 h2).lst;rw[kK r hy] at t;exact⟨z,a,ys,rfl,rfl,t,hz,q _ H2 (s1.trans s2) hc2 (.str _)⟩
   .cases h3
  .cases h3
 .cases h3
end
mutual
def jG:PyData->Bool
 |.list _=>false
 |.tuple ds=>k6 ds
 |.dict kvs=>k7 kvs
 |.none | .bool _ | .int _ | .str _=>true
def k6:List PyData->Bool
 |[]=>true
 |d::r=>jG d&&k6 r
def k7:List (PyData×PyData)->Bool
 |[]=>true
 |(_,v)::r=>jG v&&k7 r
end
section
variable {X:Cx}{pins:List (Addr×Obj)}{σ:L2.St}{H:Hp}{s:Shared}{O:Addr->Prop}
theorem zv{h:Heap}{k:Key}{v:Value}(e:ej k v=true):Reads h v (c4 k) []:=by
 rcases dG e with⟨i,t,rfl,rfl⟩|⟨x,t,rfl,rfl⟩
 .exact .int i t
 .exact .str x t
mutual
theorem Rep.reads(I:Inv X pins σ H s):∀{v:V}{d:PyData}{u:Value},Rep X.K O H v d->RelV v u->∃as,Reads s.heap u d as/\(jG d=true->sysModules∉as)
 |_,_,_,.non,r=>by cases r;exact⟨_,.none,fun _=>by simp⟩
 |_,_,_,.bl b,r=>by cases r;exact⟨_,.bool b,fun _=>by simp⟩
 |_,_,_,.int i,r=>by obtain⟨t,rfl⟩:=r;exact⟨_,.int i t,fun _=>by simp⟩
 |_,_,_,.str x,r=>by obtain⟨t,rfl⟩:=r;exact⟨_,.str x t,fun _=>by simp⟩
 |_,_,_,.tup (a:=a) (vs:=vs) h rs,r=>by
  cases r;obtain⟨its,rv,⟨o,e,c,n,dd⟩,_⟩:=I.tuple h.sq;obtain⟨as,q,f⟩:=Reps.reads I rs rv;exact⟨as,.tuple e c dd (by simpa using q),f⟩
 |_,_,_,.lst (a:=a) (vs:=vs) h rs,r=>by
  cases r;obtain⟨its,rv,pl,_⟩:=I.list h.sq;obtain⟨o,n,e,c,_,dd⟩:=pl;obtain⟨as,q,f⟩:=Reps.reads I rs rv;exact⟨_,.list e c dd (by simpa using q),fun z=>by cases z⟩
 |_,_,_,.dct (a:=a) (kvs:=kvs) (ds:=ds) _ h rk,r=>by
  cases r;obtain⟨z,y,vs,kv,o,es,ep,e,ed,dd,_,ek,_⟩:=(show ObjOk X.prog X.w H s.heap a (.dK kvs) from(I.hok a _ h).2);obtain⟨bs,q1,q2,f⟩:=RepK.reads I rk kv ek;refine⟨_,.dict (kvs:=ds) (as:=[]) (bs:=bs) e ed.1 dd q1 q2,fun zz hm=>?_⟩
  rcases List.mem_cons.mp (by simpa using hm:sysModules∈a::bs) with q|q
  .rw[q] at y
   simp at y
  .exact f zz q
theorem Reps.reads(I:Inv X pins σ H s):∀{vs:List V}{ds:List PyData}{us:List Value},Reps X.K O H vs ds->Vals vs us->∃as,ReadsAll s.heap us ds as/\(k6 ds=true->sysModules∉as)
 |_,_,_,.nil,r=>by cases r;exact⟨_,.nil,fun _=>by simp⟩
 |_,_,_,.cons (d:=d) (ds:=ds) q t,r=>by
  cases r with
  |cons r1 r2=>
   obtain⟨as,h1,f1⟩:=Rep.reads I q r1;obtain⟨bs,h2,f2⟩:=Reps.reads I t r2;refine⟨as++bs,.cons h1 h2,fun z=>?_⟩;have z':(jG d&&k6 ds)=true:=z;rw[Bool.and_eq_true] at z';intro hm
   rcases List.mem_append.mp hm with hm|hm
   .exact f1 z'.1 hm
   .exact f2 z'.2 hm
theorem RepK.reads(I:Inv X pins σ H s):∀{kvs:List (Key×V)}{ds:List (PyData×PyData)}{vs:List (Key×Value)}{es:List DictEntry},RepK X.K O H kvs ds->KV kvs vs->Pairs (bF X.prog X.w) es vs ->
  ∃bs,ReadsAll s.heap (es.map (·.key)) (ds.map (·.1)) []/\ReadsAll s.heap (es.map (·.val)) (ds.map (·.2)) bs/\(k7 ds=true->sysModules∉bs)
 |_,_,_,_,.nil,r,ek=>by
  cases r;cases ek;exact⟨[],.nil,.nil,fun _=>by simp⟩
 |_,_,_,_,.cons (k:=k) (d:=d) (ds:=ds) q t,r,ek=>by
  cases r with
  |cons r1 r2=>
   cases ek with
   |cons e1 e1' e2=>
    obtain⟨as,h1,f1⟩:=Rep.reads I q r1.2;obtain⟨bs,h2,h3,f2⟩:=RepK.reads I t r2 e2;rw[←e1'] at h1;have k1:=zv (h:=s.heap) (show ej _ _=true from e1);rw[←r1.1] at k1;refine⟨as++bs,.cons (as:=[]) (bs:=[]) k1 h2,.cons h1 h3,fun z=>?_⟩;have z':(jG d&&k7 ds)=true:=z;rw[Bool.and_eq_true] at z';intro hm
    rcases List.mem_append.mp hm with hm|hm
    .exact f1 z'.1 hm
    .exact f2 z'.2 hm
end
end
section
variable {X:Cx}
end
structure Df(K:Frag)(name:Str)(st:Stmt):Prop where
 ex:∃(f:Addr) (oc:Value) (od an:Option Addr) (sl:Array (Option Value)) (kV dc pm cd ct:Value),PySem.W.nsIn K mainGlobals name=some (some (.ref f)) /\
  K.lookup f=some ⟨oc,od,.func (PySem.W.fnOf name name (dt st) (cz st) (bp st) .none kV dc pm an cd ct),sl⟩/\PySem.W.codeIn K cd name=true/\PySem.W.keepIn K (.ref f)=true
theorem FH{K:Frag}{name:Str}{st:Stmt}{f:Addr}{oc:Value}{od an:Option Addr}{sl:Array (Option Value)}{kV dc pm cd ct:Value}(a:PySem.W.nsIn K mainGlobals name=some (some (.ref f)))
  (l:K.lookup f=some ⟨oc,od,.func (PySem.W.fnOf name name (dt st) (cz st) (bp st) .none kV dc pm an cd ct),sl⟩) (c:PySem.W.codeIn K cd name=true) (k:PySem.W.keepIn K (.ref f)=true):Df K name st:=⟨f,oc,od,an,sl,kV,dc,pm,cd,ct,a,l,c,k⟩
theorem Df.fn{P:Program}{w:World}{K:Frag}{mg:Str->Option Value}{base h:Heap}{name:Str}{st:Stmt}{ps:List Str}{k:Nat}{sp:Sp}(d:Df K name st)(X:K.In h)(G:h.Ns mainGlobals mg)
  (hb:∀(kV doc pm:Value) (an:Option Addr) (cdv ct:Value) (us:List Value),us.length=ps.length->bindArgs (PySem.W.fnOf name name (dt st) (cz st) (bp st) .none kV doc pm an cdv ct) ⟨us,[]⟩=pure (ps.zip us))
  (ok:∀f fd,Fun K name name st f fd->FnOk P w K mg base CX0 k f fd ps sp):Fn P w K mg base name ps k sp:=by
 obtain⟨f,oc,od,an,sl,kV,dc,pm,cd,ct,a,l,c,kp⟩:=d.ex;have F:=uV (st:=st) l c kp;exact⟨f,_,ok f _ F,F.binds hb,kp,PySem.W.mg_of X G a⟩
theorem Co{P:Program}{w:World}{K:Frag}{mg:Str->Option Value}{base:Heap}{k n:Nat}{f:Addr}{fd:FuncData}{ps:List Str}:FnOk P w K mg base CX0 k f fd ps (spM K n fun _ _=>none):=by
 have no:∀vs H Q E,¬spM K n (fun _ _=>none) vs H Q E:=fun vs H Q E h=>by
  obtain⟨O,ts,T,ws,x,T',_,_,_,e,_⟩:=h;cases e
 exact⟨fun vs H Q E h=>absurd h (no vs H Q E),fun A outer s H args us vs Q E _ _ _ _ h=>absurd h (no vs H Q E)⟩
def ly(K:Frag):Sp:=fun vs H Q _=>∃(a:Addr) (ns:List Int),vs=[.ref a]/\SqL K H a (ns.map V.int)/\ns.length<=63/\∀H',Q (.bl true) H'
def jt(ns:List Int):PyData:=.list (ns.map .int)
theorem qV{K:Frag}{O:Addr->Prop}{H:Hp}:∀ns:List Int,Reps K O H (ns.map V.int) (ns.map PyData.int)
 |[]=>.nil
 |_::r=>.cons (.int _) (qV r)
section
variable {α β:Type}{ρ:Rho}{T:Tp}{f g:FE}{c c':FT}{s s':FS}{a:FA}{w w':W}{x y:PyData}
@[simp] theorem cD{b:α}{k:α->Tp->Option β}:bnd (some (b,T)) k=k b T:=rfl
@[simp] theorem IV{k:α->Tp->Option β}:bnd none k=none:=rfl
@[simp] theorem IW{p:Prop}[Decidable p]{u v:Option (α×Tp)}{k:α->Tp->Option β}:bnd (if p then u else v) k=if p then bnd u k else bnd v k:=by split <;> rfl
@[simp] theorem dX{N:Nat}{ws:List W}:aK N s ws T=if ei ws=true then bP (s (ws.map some++List.replicate (N-ws.length) none) T) else none:=rfl
@[simp] theorem dq:ei []=true:=rfl
@[simp] theorem dj{r:List W}:ei (.d x::r)=ei r:=rfl
@[simp] theorem GZ{i:Nat}{r:List W}:ei (.tp i::r)=ei r:=rfl
@[simp] theorem IQ{r:Rho}:bP (some ((.rt x,r),T))=some (x,T):=rfl
@[simp] theorem IS{r:Rho}:bP (some ((.nx,r),T))=some (.none,T):=rfl
@[simp] theorem IT{p:Prop}[Decidable p]{u v:Option ((Fl×Rho)×Tp)}:bP (if p then u else v)=if p then bP u else bP v:=by split <;> rfl
def iP(s':FS)(p:Fl×Rho)(T:Tp):Option ((Fl×Rho)×Tp):=match p with
 |(.nx,ρ1)=>s' ρ1 T
 |(fl,ρ1)=>some ((fl,ρ1),T)
@[simp] theorem iD:aj s s' ρ T=bnd (s ρ T) (iP s'):=rfl
@[simp] theorem HW{ρ1:Rho}:iP s' (.nx,ρ1) T=s' ρ1 T:=rfl
@[simp] theorem HV{ρ1:Rho}:iP s' (.rt x,ρ1) T=some ((.rt x,ρ1),T):=rfl
@[simp] theorem HY{ρ1:Rho}:iP s' (.bk,ρ1) T=some ((.bk,ρ1),T):=rfl
@[simp] theorem HX{ρ1:Rho}:iP s' (.ct,ρ1) T=some ((.ct,ρ1),T):=rfl
@[simp] theorem Ik:aH ρ T=some ((.nx,ρ),T):=rfl
def ifK(s s':FS)(ρ:Rho)(b:Bool)(T1:Tp):Option ((Fl×Rho)×Tp):=if b=true then s ρ T1 else s' ρ T1
@[simp] theorem oO:fIf c s s' ρ T=bnd (c ρ T) (ifK s s' ρ):=rfl
@[simp] theorem oh{b:Bool}:ifK s s' ρ b T=if b=true then s ρ T else s' ρ T:=rfl
def wj(ρ:Rho):W->Tp->Option ((Fl×Rho)×Tp):=fun w T1=>match w with
 |.d x=>some ((.rt x,ρ),T1)
 |_=>none
@[simp] theorem uX:ax f ρ T=bnd (f (b4 ρ) T) (wj ρ):=rfl
@[simp] theorem Ib:wj ρ (.d x) T=some ((.rt x,ρ),T):=rfl
@[simp] theorem IM:b4 []=[]:=rfl
@[simp] theorem II{r:Rho}:b4 (none::r)=none::b4 r:=rfl
@[simp] theorem IK{r:Rho}:b4 (some (.d x)::r)=some (.d x)::b4 r:=rfl
@[simp] theorem IH{i:Nat}{r:Rho}:b4 (some (.tp i)::r)=some (.tp i)::b4 r:=rfl
@[simp] theorem IJ{x:PyData}{r:Rho}:b4 (some (.loc x)::r)=some (.d x)::b4 r:=rfl
def fH(i:Nat)(ρ:Rho):W->Tp->Option ((Fl×Rho)×Tp):=fun w T1=>match w with
 |.d x=>some ((.nx,ρ.set i (some (.d x))),T1)
 |.tp k=>some ((.nx,ρ.set i (some (.tp k))),T1)
 |.loc _=>none
@[simp] theorem lj{i:Nat}:aG i f ρ T=bnd (f ρ T) (fH i ρ):=rfl
@[simp] theorem Cq{i:Nat}:fH i ρ (.d x) T=some ((.nx,ρ.set i (some (.d x))),T):=rfl
@[simp] theorem HR{i k:Nat}:fH i ρ (.tp k) T=some ((.nx,ρ.set i (some (.tp k))),T):=rfl
def vx(i:Nat)(ρ:Rho)(T:Tp):Option (List PyData)->Option ((Fl×Rho)×Tp)
 |some xs=>if xs.length<=1000 then some ((.nx,ρ.set i (some (.loc (.list xs)))),T) else none
 |none=>none
@[simp] theorem HS{i:Nat}:df i a ρ T=bnd (a ρ T) fun ws T1=>vx i ρ T1 (dA ws):=rfl
@[simp] theorem Hd{i:Nat}{xs:List PyData}:vx i ρ T (some xs)=if xs.length<=1000 then some ((.nx,ρ.set i (some (.loc (.list xs)))),T) else none:=rfl
def wO(i:Nat)(ρ:Rho)(x:PyData)(T:Tp)(o:Option (Option W)):Option ((Fl×Rho)×Tp):=match o with
 |some (some (.loc (.list xs)))=>if xs.length<sizeLine then some ((.nx,ρ.set i (some (.loc (.list (xs++[x]))))),T) else none
 |_=>none
def wN(i:Nat)(ρ:Rho):W->Tp->Option ((Fl×Rho)×Tp):=fun w T1=>match w with
 | .d x=>(match ρ[i]? with
  |some (some (.loc (.list xs)))=>if xs.length<sizeLine then some ((.nx,ρ.set i (some (.loc (.list (xs++[x]))))),T1) else none
  | _=>none)
 |_=>none
@[simp] theorem J0{i:Nat}:c5 i f ρ T=bnd (f ρ T) (wN i ρ):=rfl
@[simp] theorem IY{i:Nat}:wN i ρ (.d x) T=wO i ρ x T ρ[i]?:=rfl
@[simp] theorem IZ{i:Nat}{xs:List PyData}:wO i ρ x T (some (some (.loc (.list xs))))=if xs.length<sizeLine then some ((.nx,ρ.set i (some (.loc (.list (xs++[x]))))),T) else none:=rfl
@[simp] theorem J3{l u:FO}:fSl f l u ρ T=bnd (f ρ T) fun w T1=>bnd (l ρ T1) fun lo T2=>bnd (u ρ T2) fun hi T3=>op1 (fun x=>js x lo hi) T3 w:=rfl
@[simp] theorem Jt:b9 ρ T=some (none,T):=rfl
def pK:W->Tp->Option (Option Int×Tp):=fun w T1=>match w with
 |.d (.int i)=>some (some i,T1)
 |_=>none
@[simp] theorem Ke:fP f ρ T=bnd (f ρ T) pK:=rfl
@[simp] theorem J4{i:Int}:pK (.d (.int i)) T=some (some i,T):=rfl
@[simp] theorem Jl{z:Str}{lo hi:Option Int}:js (.str z) lo hi=if z.length<=sizeLine then some (.str (Txt.slice z lo hi)) else none:=rfl
@[simp] theorem Jk{xs:List PyData}{lo hi:Option Int}:js (.tuple xs) lo hi=some (.tuple (cB xs lo hi)):=rfl
@[simp] theorem Jm{xs:List PyData}{lo hi:Option Int}:js (.list xs) lo hi=some (.list (cB xs lo hi)):=rfl
@[simp] theorem HK{o:W}{r:Rho}:aa 0 (some o::r) T=some (o,T):=rfl
@[simp] theorem dI{i:Nat}{o:Option W}{r:Rho}:aa (i+1) (o::r) T=aa i r T:=rfl
@[simp] theorem HJ{o:Option W}{r:Rho}:aa 1 (o::r) T=aa 0 r T:=dI
@[simp] theorem HI{o:Option W}{r:Rho}:aa 2 (o::r) T=aa 1 r T:=dI
@[simp] theorem HH{o:Option W}{r:Rho}:aa 3 (o::r) T=aa 2 r T:=dI
@[simp] theorem HG{o:Option W}{r:Rho}:aa 4 (o::r) T=aa 3 r T:=dI
@[simp] theorem HF{o:Option W}{r:Rho}:aa 5 (o::r) T=aa 4 r T:=dI
@[simp] theorem HE{o:Option W}{r:Rho}:aa 6 (o::r) T=aa 5 r T:=dI
@[simp] theorem HD{o:Option W}{r:Rho}:aa 7 (o::r) T=aa 6 r T:=dI
@[simp] theorem HB{o:Option W}{r:Rho}:aa 8 (o::r) T=aa 7 r T:=dI
@[simp] theorem HA{o:Option W}{r:Rho}:aa 9 (o::r) T=aa 8 r T:=dI
@[simp] theorem Kf:fC x ρ T=some (.d x,T):=rfl
@[simp] theorem Hz:view T (.d x)=some x:=rfl
@[simp] theorem G7{i:Nat}:view T (.tp i)=(T[i]?).bind hG:=rfl
@[simp] theorem HZ{xs:List PyData}:hG xs=if isO xs=true then none else some (.list xs):=rfl
@[simp] theorem Hy{xs r:List PyData}:isO (.list xs::r)=false:=rfl
@[simp] theorem G8{xs:List PyData}:view T (.loc (.list xs))=some (.list xs):=rfl
@[simp] theorem GU{xs:List (PyData×PyData)}:view T (.loc (.dict xs))=some (.dict xs):=rfl
noncomputable def mkD(T:Tp)(o:Option PyData):Option (W×Tp):=match o with
 |some d=>some (.d d,T)
 |none=>none
@[simp] theorem Jz:mkD T (some x)=some (.d x,T):=rfl
@[simp] theorem Ip:mkD T none=none:=rfl
@[simp] theorem Iq{p:Prop}[Decidable p]{u v:Option PyData}:mkD T (if p then u else v)=if p then mkD T u else mkD T v:=by split <;> rfl
def wM(o:PyData->PyData->Option PyData)(g:FE)(ρ:Rho)(w1:W)(T1:Tp):Option (W×Tp):=bnd (g ρ T1) fun w2 T2=>op2 o T2 w1 w2
@[simp] theorem uZ{o:PyData->PyData->Option PyData}:af o f g ρ T=bnd (f ρ T) (wM o g ρ):=rfl
@[simp] theorem IX{o:PyData->PyData->Option PyData}:wM o g ρ w T=bnd (g ρ T) fun w2 T2=>op2 o T2 w w2:=rfl
@[simp] theorem Jr{o:PyData->PyData->Option PyData}:op2 o T (.d x) (.d y)=mkD T (o x y):=rfl
@[simp] theorem Ig{o:PyData->PyData->Option PyData}{zs xs:List PyData}{r:Tp}:op2 o ((.list zs::xs)::r) (.tp 0) (.d y)=mkD ((.list zs::xs)::r) (o (.list (.list zs::xs)) y):=rfl
@[simp] theorem J2{o:PyData->Option PyData}:fUn o f ρ T=bnd (f ρ T) fun w1 T1=>op1 o T1 w1:=rfl
@[simp] theorem Js{o:PyData->Option PyData}:op1 o T (.d x)=mkD T (o x):=rfl
@[simp] theorem JZ{b:Bool}:asB (.d (.bool b))=some b:=rfl
def jT:W->Tp->Option (Bool×Tp):=fun w T1=>match asB w with
 |some b=>some (b,T1)
 |none=>none
@[simp] theorem Eh:aD f ρ T=bnd (f ρ T) jT:=rfl
@[simp] theorem HL{b:Bool}:jT (.d (.bool b)) T=some (b,T):=rfl
@[simp] theorem Jg:aX f ρ T=bnd (f ρ T) fun w T1=>lK T1 w:=rfl
def wb(T:Tp)(o:Option Bool):Option (Bool×Tp):=match o with
 |some b=>some (b,T)
 |none=>none
@[simp] theorem HP:lK T (.d x)=wb T (lJ x):=rfl
@[simp] theorem HM{b:Bool}:wb T (some b)=some (b,T):=rfl
@[simp] theorem HN{b:Bool}:lJ (.bool b)=some b:=rfl
def v6(c':FT)(ρ:Rho)(b:Bool)(T1:Tp):Option (Bool×Tp):=if b=true then c' ρ T1 else some (false,T1)
@[simp] theorem Ja:eB c c' ρ T=bnd (c ρ T) (v6 c' ρ):=rfl
@[simp] theorem Hw{b:Bool}:v6 c' ρ b T=if b=true then c' ρ T else some (false,T):=rfl
def wy(c':FT)(ρ:Rho)(b:Bool)(T1:Tp):Option (Bool×Tp):=if b=true then some (true,T1) else c' ρ T1
@[simp] theorem Jp:bK c c' ρ T=bnd (c ρ T) (wy c' ρ):=rfl
@[simp] theorem Ie{b:Bool}:wy c' ρ b T=if b=true then some (true,T) else c' ρ T:=rfl
@[simp] theorem Ii:bH c ρ T=bnd (c ρ T) fun b T1=>some (!b,T1):=rfl
@[simp] theorem Hc:bq ρ T=some (true,T):=rfl
def wQ(g:FE)(ρ:Rho)(w:W)(T:Tp):Option (W×Tp):=match asB w with
 |some b=>if b=true then g ρ T else some (.d (.bool false),T)
 |none=>none
@[simp] theorem I0:bR f g ρ T=bnd (f ρ T) (wQ g ρ):=rfl
@[simp] theorem Jb{b:Bool}:wQ g ρ (.d (.bool b)) T=if b=true then g ρ T else some (.d (.bool false),T):=rfl
def orK(g:FE)(ρ:Rho)(w:W)(T:Tp):Option (W×Tp):=match asB w with
 |some b=>if b=true then some (.d (.bool true),T) else g ρ T
 |none=>none
@[simp] theorem Jo:ph f g ρ T=bnd (f ρ T) (orK g ρ):=rfl
@[simp] theorem Jq{b:Bool}:orK g ρ (.d (.bool b)) T=if b=true then some (.d (.bool true),T) else g ρ T:=rfl
def wD(w:W)(T:Tp):Option (W×Tp):=match asB w with
 |some b=>some (.d (.bool (!b)),T)
 |none=>none
@[simp] theorem Ih:iN f ρ T=bnd (f ρ T) wD:=rfl
@[simp] theorem Ij{b:Bool}:wD (.d (.bool b)) T=some (.d (.bool (!b)),T):=rfl
def wG(f g:FE)(ρ:Rho)(b:Bool)(T1:Tp):Option (W×Tp):=if b=true then f ρ T1 else g ρ T1
@[simp] theorem JO:cI c f g ρ T=bnd (c ρ T) (wG f g ρ):=rfl
@[simp] theorem IG{b:Bool}:wG f g ρ b T=if b=true then f ρ T else g ρ T:=rfl
def chK(o':PyData->PyData->Option PyData)(h:FE)(ρ:Rho)(w2 w:W)(T:Tp):Option (W×Tp):=match asB w with
 |some b=>if b=true then bnd (h ρ T) fun w3 T4=>op2 o' T4 w2 w3 else some (.d (.bool false),T)
 |none=>none
@[simp] theorem Hu{o o':PyData->PyData->Option PyData}{h:FE}:iB o o' f g h ρ T=bnd (f ρ T) fun w1 T1=>bnd (g ρ T1) fun w2 T2=>bnd (op2 o T2 w1 w2) (chK o' h ρ w2):=rfl
@[simp] theorem JX{o':PyData->PyData->Option PyData}{h:FE}{b:Bool}:chK o' h ρ w (.d (.bool b)) T=if b=true then bnd (h ρ T) fun w3 T4=>op2 o' T4 w w3 else some (.d (.bool false),T):=rfl
@[simp] theorem uY:ai ρ T=some ([],T):=rfl
def v4(a:FA)(ρ:Rho)(w:W)(T1:Tp):Option (List W×Tp):=bnd (a ρ T1) fun ws T2=>some (w::ws,T2)
@[simp] theorem tY:ae f a ρ T=bnd (f ρ T) (v4 a ρ):=rfl
@[simp] theorem su:v4 a ρ w T=bnd (a ρ T) fun ws T2=>some (w::ws,T2):=rfl
@[simp] theorem GT:views T []=some []:=rfl
def jR(x:PyData)(o:Option (List PyData)):Option (List PyData):=match o with
 |some xs=>some (x::xs)
 |none=>none
@[simp] theorem Ht{xs:List PyData}:jR x (some xs)=some (x::xs):=rfl
@[simp] theorem G6{r:List W}:views T (.d x::r)=jR x (views T r):=rfl
@[simp] theorem GS{xs:List PyData}{r:List W}:views T (.loc (.list xs)::r)=jR (.list xs) (views T r):=rfl
@[simp] theorem G5:dA []=some []:=rfl
@[simp] theorem Hs{r:List W}:dA (.d x::r)=jR x (dA r):=rfl
def sqK(mk:List PyData->PyData)(T:Tp):Option (List PyData)->Option (W×Tp)
 |some xs=>if xs.length<=1000 then some (.d (mk xs),T) else none
 |none=>none
@[simp] theorem tX{mk:List PyData->PyData}:aE mk a ρ T=bnd (a ρ T) fun ws T1=>sqK mk T1 (dA ws):=rfl
@[simp] theorem Jj{mk:List PyData->PyData}{xs:List PyData}:sqK mk T (some xs)=if xs.length<=1000 then some (.d (mk xs),T) else none:=rfl
def cbK(o:List PyData->Option PyData)(T:Tp)(v:Option (List PyData)):Option (W×Tp):=match v with
 | some xs=>(match o xs with
  |some d=>some (.d d,T)
  | none=>none)
 |none=>none
@[simp] theorem Kc{o:List PyData->Option PyData}:fCB o a ρ T=bnd (a ρ T) fun ws T1=>cbK o T1 (views T1 ws):=rfl
@[simp] theorem JY{o:List PyData->Option PyData}{xs:List PyData}:cbK o T (some xs)=mkD T (o xs):=rfl
@[simp] theorem IU{m:FnM}:aB m a ρ T=bnd (a ρ T) fun ws T1=>bnd (m ws T1) fun x T2=>some (.d x,T2):=rfl
@[simp] theorem kS{it:FI}:bo it c f ρ T=bnd (it ρ T) fun ds T1=>bnd (cH c f ρ ds T1) fun ys T2=>some (.d (.list ys),T2):=rfl
def itK(T:Tp)(o:Option (List PyData)):Option (List PyData×Tp):=match o with
 |some xs=>some (xs,T)
 |none=>none
def itW:W->Tp->Option (List PyData×Tp):=fun w T1=>match w with
 | .d x=>(match gO x with
  |some xs=>some (xs,T1)
  | none=>none)
 |_=>none
@[simp] theorem Cs:aZ f ρ T=bnd (f ρ T) itW:=rfl
@[simp] theorem Ej:itW (.d x) T=itK T (gO x):=rfl
@[simp] theorem Ek{xs:List PyData}:itK T (some xs)=some (xs,T):=rfl
@[simp] theorem zL{xs:List PyData}:gO (.list xs)=some xs:=rfl
@[simp] theorem G4{ds:List (PyData×PyData)}:gO (.dict ds)=some (ds.map (·.1)):=rfl
@[simp] theorem G2{xs:List PyData}:gO (.tuple xs)=some xs:=rfl
@[simp] theorem G3{z:Str}:gO (.str z)=if z.length<=sizeLine then some (signs z) else none:=rfl
def wg:W->Tp->Option (List PyData×Tp):=fun w T1=>match w with
 |.d (.int j)=>if cN j=true then some (bc 0 j.toNat,T1) else none
 |_=>none
@[simp] theorem Ia:bW f ρ T=bnd (f ρ T) wg:=rfl
@[simp] theorem H8{j:Int}:wg (.d (.int j)) T=if cN j=true then some (bc 0 j.toNat,T) else none:=rfl
@[simp] theorem jB{i:Nat}{it:FI}:bw i it s ρ T=bnd (it ρ T) fun ds T1=>forL i s ds ρ T1:=rfl
@[simp] theorem Ji{i j:Int}:cv (.int i) (.int j)=some (.int (i-j)):=rfl
@[simp] theorem Jy{i j:Int}:bZ (.int i) (.int j)=if 0<j then some (.int (i % j)) else none:=rfl
@[simp] theorem IP{i j:Int}:FD (.int i) (.int j)=if 0<j/\j<1073741824 then some (.int (i / j)) else none:=rfl
@[simp] theorem Jn{i j:Int}:jU (.int i) (.int j)=if 0<=j/\j<=1000000/\i.natAbs<2^64 then some (.int (i^j.toNat)) else none:=rfl
@[simp] theorem J7{i j:Int}:ltD (.int i) (.int j)=some (.bool (decide (i<j))):=rfl
@[simp] theorem J8{i j:Int}:leD (.int i) (.int j)=some (.bool (decide (i<=j))):=rfl
@[simp] theorem Ka{i j:Int}:gtD (.int i) (.int j)=some (.bool (decide (j<i))):=rfl
@[simp] theorem Kb{i j:Int}:geD (.int i) (.int j)=some (.bool (decide (j<=i))):=rfl
@[simp] theorem Jf{i j:Int}:aR (.int i) (.int j)=some (.int (i+j)):=rfl
@[simp] theorem Jd{u v:Str}:aR (.str u) (.str v)=if u.length+v.length<=sizeLine then some (.str (u++v)) else none:=rfl
@[simp] theorem Jc{u v:List PyData}:aR (.tuple u) (.tuple v)=if u.length+v.length<=sizeLine then some (.tuple (u++v)) else none:=rfl
@[simp] theorem Je{u v:List PyData}:aR (.list u) (.list v)=if u.length+v.length<=sizeLine then some (.list (u++v)) else none:=rfl
@[simp] theorem Io{i j:Int}:bS (.int i) (.int j)=if (-(2^64)<i/\i<2^64)\/(-(2^64)<j/\j<2^64) then some (.int (i*j)) else none:=rfl
@[simp] theorem Il{z:Str}{k:Int}:bS (.str z) (.int k)=if 0<=k/\k<=2000/\z.length<=1000 then some (.str (Txt.mul z k)) else none:=rfl
@[simp] theorem JV{i j:Int}:eqD (.int i) (.int j)=some (.bool (decide (i=j))):=rfl
@[simp] theorem JU{i j:Str}:eqD (.str i) (.str j)=some (.bool (decide (i=j))):=rfl
@[simp] theorem JW{i j:Bool}:eqD (.bool i) (.bool j)=some (.bool (decide (i=j))):=rfl
@[simp] theorem Jw{i j:Int}:neD (.int i) (.int j)=some (.bool (!decide (i=j))):=rfl
@[simp] theorem Jv{i j:Str}:neD (.str i) (.str j)=some (.bool (!decide (i=j))):=rfl
@[simp] theorem Jx{i j:Bool}:neD (.bool i) (.bool j)=some (.bool (!decide (i=j))):=rfl
@[simp] theorem J9:isD x .none=some (.bool (isNone x)):=by cases x <;> rfl
@[simp] theorem Hr{i j:Bool}:eN (.bool i) (.bool j)=some (.bool (i != j)):=rfl
@[simp] theorem Ju{i:Int}:bf (.int i)=some (.int (-i)):=rfl
@[simp] theorem JM{k:Kd}:bt k x=some (.bool (cS (kd x) k)):=rfl
@[simp] theorem JL{xs:List PyData}{i:Int}:ixD (.list xs) (.int i)=atI xs i:=rfl
@[simp] theorem JJ{xs:List PyData}{i:Int}:ixD (.tuple xs) (.int i)=atI xs i:=rfl
@[simp] theorem JK{z:Str}{i:Int}:ixD (.str z) (.int i)=if z.length<=sizeLine then (atI z.cps.toList i).map (fun c=>.str ⟨#[c]⟩) else none:=rfl
@[simp] theorem IA{xs:List PyData}:aT [.list xs]=some (.int xs.length):=rfl
@[simp] theorem Iy{xs:List PyData}:aT [.tuple xs]=some (.int xs.length):=rfl
@[simp] theorem Iz{z:Str}:aT [.str z]=if z.length<=sizeLine then some (.int z.length) else none:=rfl
@[simp] theorem J1{i:Int}:lT [.int i]=some (.int (if i<0 then -i else i)):=rfl
@[simp] theorem JB{i j:Int}:fB [.int i,.int j]=some (.int (if j>i then j else i)):=rfl
@[simp] theorem JA{i j:Int}:eP [.int i,.int j]=some (.int (if j<i then j else i)):=rfl
@[simp] theorem GW{xs:List PyData}:bY [.list xs]=some (.tuple xs):=rfl
@[simp] theorem GV{xs:List PyData}:bY [.tuple xs]=some (.tuple xs):=rfl
@[simp] theorem Hl{xs:List PyData}:iI [.list xs]=some (.list xs):=rfl
@[simp] theorem Hk{xs:List PyData}:iI [.tuple xs]=some (.list xs):=rfl
@[simp] theorem JG{i:Int}:kd (.int i)=.int:=rfl
@[simp] theorem JI{i:Bool}:kd (.bool i)=.bl:=rfl
@[simp] theorem JD{i:Str}:kd (.str i)=.str:=rfl
@[simp] theorem JC{i:List PyData}:kd (.tuple i)=.tup:=rfl
@[simp] theorem JF{i:List PyData}:kd (.list i)=.lst:=rfl
@[simp] theorem JH{i:List (PyData×PyData)}:kd (.dict i)=.dct:=rfl
@[simp] theorem JE:kd .none=.non:=rfl
end
theorem at0{α:Type}{a b c:α}:atI [a,b,c] 0=some a:=rfl
theorem at1{α:Type}{a b c:α}:atI [a,b,c] 1=some b:=rfl
theorem c9{e:FE}{ρ:Rho}{T:Tp}{g:PyData->PyData}:∀{ds:List PyData},(∀d∈ds,e (some (.d d)::ρ) T=some (.d (g d),T))->cH bq e ρ ds T=some (ds.map g,T)
 |[],_=>rfl
 |d::r,h=>by
  have ih:=c9 (ds:=r) fun x hx=>h x (List.mem_cons_of_mem _ hx);have h0:=h d List.mem_cons_self;unfold cH;simp[h0,ih]
theorem j6{c:FT}{ρ:Rho}{T:Tp}{p:PyData->Bool}:∀{ds:List PyData},(∀d∈ds,c (some (.d d)::ρ) T=some (p d,T))->cH c (aa 0) ρ ds T=some (ds.filter p,T)
 |[],_=>rfl
 |d::r,h=>by
  have ih:=j6 (ds:=r) fun x hx=>h x (List.mem_cons_of_mem _ hx);have h0:=h d List.mem_cons_self;unfold cH
  cases hp:p d with
  |false=>simp[h0,hp,ih]
  |true=>simp[h0,hp,ih]
theorem l5{α:Type}(p:α->Bool):∀l:List α,fw (l.map fun d=>.bool (p d))=some (l.map p)
 |[]=>rfl
 |d::r=>by
  show (fw (r.map fun d=>.bool (p d))).map (p d::·)=_;rw[l5 p r];rfl
theorem me{α:Type}(p:α->Int):∀l:List α,fG (l.map fun d=>.int (p d))=some (l.map p)
 |[]=>rfl
 |d::r=>by
  show (fG (r.map fun d=>.int (p d))).map (p d::·)=_;rw[me p r];rfl
theorem l6{α:Type}(p:α->Str):∀l:List α,de (l.map fun d=>.str (p d))=some (l.map p)
 |[]=>rfl
 |d::r=>by
  show (de (r.map fun d=>.str (p d))).map (p d::·)=_;rw[l6 p r];rfl
@[simp] theorem u3{α:Type}(p:α->Bool)(l:List α):cU [.list (l.map fun d=>.bool (p d))]=some (.bool (l.all p)):=by
 show (fw _).map (fun bs=>PyData.bool (bs.all id))=_;rw[l5,Option.map_some,List.all_map];rfl
@[simp] theorem Jh{α:Type}(p:α->Int)(l:List α):lL [.list (l.map fun d=>.int (p d))]=some (.int (l.map p).sum):=by
 show (fG _).map (fun bs=>PyData.int bs.sum)=_;rw[me,Option.map_some]
@[simp] theorem Ir{α:Type}(p:α->Int)(l:List α)(k:Int):Fk (.list (l.map fun d=>.int (p d))) (.int k)=some (.int (K1.iS k (l.map p))):=by
 show (fG _).map (fun bs=>PyData.int (K1.iS k bs))=_;rw[me,Option.map_some]
@[simp] theorem JN{x y:Str}:inD (.str x) (.str y)=some (.bool (lP y x)):=rfl
section
variable {X:Cx}
theorem zo:MtR X "str.startswith" (fun x vs H Q=>∃z y:Str,x=.str z/\vs=[.str y]/\Q (.bl (Txt.startswith z y)) H):=by
 intro pins s σ H x vs v us Q I rx rv h;obtain⟨z,y,rfl,rfl,q⟩:=h;obtain⟨t,rfl⟩:=rx;obtain⟨u,rfl,ru⟩:=vals1 rv;obtain⟨t',rfl⟩:=ru;exact call_gives PySem.F.slot_str_startswith (typeIs_str _ _ _) PySem.F.entry_str_startswith (PySem.F.args_str_startswith_2 _ _) (gives_str_startswith z y t t') ⟨.bl _,H,I,rfl,q⟩
def iu:PyData->PyData->Option PyData
 |.str z,.str y=>some (.bool (Txt.startswith z y))
 |_,_=>none
theorem z5{T:Tp}{w:W}{z:Str}(h:view T w=some (.str z)):w=.d (.str z):=by
 cases w with
 |d x=>cases h;rfl
 |tp k=>
  have h':(T[k]?).bind hG=some (PyData.str z):=h
  cases hk:T[k]? with
  |none=>rw[hk] at h';cases h'
  |some xs=>
   rw[hk] at h';have e2:(if isO xs=true then none else some (PyData.list xs))=some (PyData.str z):=h'
   split at e2 <;> cases e2
 |loc zs=>cases zs <;> cases h
theorem mh{o e:Expr}{fo fe:FE}{apos cpos:Pos}(ho:DE X o fo)(he:DE X e fe)
  (hbase:attributeBase o "startswith" X.env (eval o X.env)=eval o X.env:=by rfl)
  (hfew:((backTo cpos (starEach [e] X.env)).all (fun x=>!x.1)&&(backToKw cpos (keywordEach [] X.env)).all (fun x=>x.1.isSome)
   && decide (([e]:List Expr).length+([]:List Keyword).length+(if ([]:List Keyword).isEmpty then 0 else 1)<30))=true:=by exact h6 rfl)
  (hline:(apos.endLine == cpos.line)=true:=by rfl) (hse:starEach [e] X.env=(false,eval e X.env)::starEach [] X.env:=by exact bu rfl) (hplain:(backTo cpos (starEach [] X.env)).any (·.1)=false:=by exact cg rfl) :
  DE X (.Call (.Attribute o "startswith" apos) [e] [] cpos) (af iu fo fe):=by
 refine⟨?_⟩;refine br (iF PySem.F.plainAttrs_str PySem.F.slot_str_startswith PySem.F.type_str_startswith zo ho.pe (cx he.pe cX hse) hbase hfew hline hse hplain) fun σ H Q=>?_;rintro⟨O,ts,ρ,T,w,T',hc,re,e,q⟩;obtain⟨w1,T1,e1,e⟩:=aL e;obtain⟨w2,T2,e2,e⟩:=aL e;obtain⟨x,y,d,h1,h2,h3,rfl,rfl⟩:=fZ e;unfold iu at h3;split at h3
 .rename_i z y
  cases h3;have ew:=z5 h1;subst ew;refine⟨O,ts,ρ,T,_,T1,hc,re,e1,fun v1 H1 s1 hc1 r1=>?_⟩;cases (show Rep X.K O H1 v1 _ from r1);refine⟨rfl,O,ts,ρ,T1,w2,T',hc1,re.mono hc s1,e2,fun v2 H2 s2 hc2 r2=>?_⟩;cases (hc2.view r2 h2).str;exact⟨z,_,rfl,rfl,q _ H2 (s1.trans s2) hc2 (.bl _)⟩
 .cases h3
theorem zW:CallR X (.type "int") (fun xs H Q=>∃x n,xs=[.str x]/\PySem.intText? x=some n/\x.length<=640/\Q (.int n) H):=by
 intro pins s σ H xs us Q I r h;obtain⟨x,n,rfl,hn,hl,q⟩:=h;obtain⟨u,rfl,ru⟩:=vals1 r;obtain⟨t,rfl⟩:=ru;exact PySem.W.KIN.call_text hn hl ⟨.int n,H,I.tok _,⟨_,rfl⟩,q⟩
def intD:List PyData->Option PyData
 |[.int i]=>some (.int i)
 |[.bool b]=>some (.int (if b then 1 else 0))
 |[.str x]=>if x.length<=640 then (PySem.intText? x).map .int else none
 |_=>none
theorem oR:dB X (.type "int") intD:=⟨_,call_int1.or zW,fun O ts H T vs xs d Q hc h e q=>by
 unfold intD at e;split at e
 .cases e
  obtain⟨v,rfl,g⟩:=cR h;cases g.int;exact .inl (.inl ⟨_,rfl,q _ H (.refl _ _) hc (.int _)⟩)
 .cases e
  obtain⟨v,rfl,g⟩:=cR h;cases g.bl;exact .inl (.inr ⟨_,rfl,q _ H (.refl _ _) hc (.int _)⟩)
 .split at e
  .rename_i hz
   obtain⟨n,e1,rfl⟩:=Option.map_eq_some_iff.mp e;obtain⟨v,rfl,g⟩:=cR h;cases g.str;exact .inr ⟨_,n,rfl,e1,hz,q _ H (.refl _ _) hc (.int _)⟩
  .cases e
 .cases e⟩
end
@[simp] theorem GX{z y:Str}:iu (.str z) (.str y)=some (.bool (Txt.startswith z y)):=rfl
@[simp] theorem ID{x:Str}:intD [.str x]=if x.length<=640 then (PySem.intText? x).map .int else none:=rfl
@[simp] theorem IE{i:Int}:intD [.int i]=some (.int i):=rfl
@[simp] theorem IF{b:Bool}:intD [.bool b]=some (.int (if b then 1 else 0)):=rfl
def eqG(x y:PyData):Option PyData:=if SeqAt.shaped x=true/\SeqAt.shaped y=true then some (.bool (PyData.eqv x y)) else none
def neG(x y:PyData):Option PyData:=if SeqAt.shaped x=true/\SeqAt.shaped y=true then some (.bool (!PyData.eqv x y)) else none
section
variable {X:Cx}
theorem Vw.reads{pins:List (Addr×Obj)}{σ:L2.St}{H:Hp}{s:Shared}{O:Addr->Prop}{v:V}{d:PyData}{u:Value}(I:Inv X pins σ H s)(h:Vw X.K O H v d)(r:RelV v u):∃as,Reads s.heap u d as:=by
 cases h with
 |rep h=>obtain⟨as,rd,_⟩:=h.reads I r;exact⟨as,rd⟩
 |raw h hs=>
  cases r;obtain⟨its,rv,pl,_⟩:=I.list (SqL.of h);obtain⟨o,n,e,c,_,dd⟩:=pl;obtain⟨as,rd,_⟩:=hs.reads I rv;exact⟨_,.list e c dd (by simpa using rd)⟩
 |rawD h rk=>
  cases r;obtain⟨z,y,vs,kv,o,es,ep,e,ed,dd,_,ek,_⟩:=(show ObjOk X.prog X.w H s.heap _ (.dK _) from I.hok _ _ h);obtain⟨bs,q1,q2,f⟩:=RepK.reads I rk kv ek;exact⟨_,.dict (as:=[]) (bs:=bs) e ed.1 dd q1 q2⟩
theorem DK{k:Nat}(hr:Room k X.A):OpR X (compareOp .Eq) (fun x y H Q=>∃O d1 d2,Vw X.K O H x d1/\Vw X.K O H y d2/\SeqAt.shaped d1=true/\SeqAt.shaped d2=true/\Q (.bl (PyData.eqv d1 d2)) H):=by
 intro pins s σ H x y v u Q I rx ry h;obtain⟨O,d1,d2,h1,h2,s1,s2,q⟩:=h;obtain⟨as,r1⟩:=h1.reads I rx;obtain⟨bs,r2⟩:=h2.reads I ry;exact SeqAt.compareEq_shaped r1 r2 s1 s2 (by have:=hr.un;omega) ⟨.bl _,H,I,rfl,q⟩
theorem DD{k:Nat}(hr:Room k X.A):OpR X (compareOp .NotEq) (fun x y H Q=>∃O d1 d2,Vw X.K O H x d1/\Vw X.K O H y d2/\SeqAt.shaped d1=true/\SeqAt.shaped d2=true/\Q (.bl (!PyData.eqv d1 d2)) H):=by
 intro pins s σ H x y v u Q I rx ry h;obtain⟨O,d1,d2,h1,h2,s1,s2,q⟩:=h;obtain⟨as,r1⟩:=h1.reads I rx;obtain⟨bs,r2⟩:=h2.reads I ry;exact SeqAt.compareNe_shaped r1 r2 s1 s2 (by have:=hr.un;omega) ⟨.bl _,H,I,rfl,q⟩
theorem lD{k:Nat}(hr:Room k X.A):OpD X (compareOp .Eq) eqG:=⟨_,DK hr,fun O ts H T v1 v2 x y d Q hc h1 h2 e q=>by
 unfold eqG at e;split at e
 .rename_i h
  cases e;exact⟨O,x,y,h1,h2,h.1,h.2,q _ H (.refl _ _) hc (.bl _)⟩
 .cases e⟩
theorem vF{k:Nat}(hr:Room k X.A):OpD X (compareOp .NotEq) neG:=⟨_,DD hr,fun O ts H T v1 v2 x y d Q hc h1 h2 e q=>by
 unfold neG at e;split at e
 .rename_i h
  cases e;exact⟨O,x,y,h1,h2,h.1,h.2,q _ H (.refl _ _) hc (.bl _)⟩
 .cases e⟩
open Classical in
def jW(h:Heap)(x:PyData)(v:Value):Bool:=if e:∃p:PyData×List Addr,Reads h v p.1 p.2 then PyData.eqv e.choose.1 x else false
theorem tZ{h:Heap}{x d:PyData}{v:Value}{as:List Addr}(r:Reads h v d as):jW h x v=PyData.eqv d x:=by
 have e:∃p:PyData×List Addr,Reads h v p.1 p.2:=⟨(d,as),r⟩;unfold jW;rw[dif_pos e];have:=(PySem.Reads.unique e.choose_spec d as r).1;rw[this]
theorem sy{h:Heap}{x:PyData}:∀{vs:List Value}{ds:List PyData}{as:List Addr},ReadsAll h vs ds as->vs.any (jW h x)=ds.any fun d=>PyData.eqv d x
 |_,_,_,.nil=>rfl
 |_,_,_,.cons r rs=>by rw[List.any_cons,List.any_cons,tZ r,sy rs]
theorem readsAll_mem{h:Heap}:∀{vs:List Value}{ds:List PyData}{as:List Addr}{v:Value},ReadsAll h vs ds as->v∈vs->∃d bs,d∈ds/\Reads h v d bs
 |_,_,_,_,.cons r rs,hm=>by
  rcases List.mem_cons.mp hm with z|z
  .subst z;exact⟨_,_,List.mem_cons_self,r⟩
  .obtain⟨d,bs,h1,h2⟩:=readsAll_mem rs z
   exact⟨d,bs,List.mem_cons_of_mem _ h1,h2⟩
def inG:PyData->PyData->Option PyData
 |x,.tuple ys=>if SeqAt.shaped x=true/\ys.all SeqAt.shaped=true then some (.bool (ys.any fun y=>PyData.eqv y x)) else none
 |_,_=>none
theorem DJ{k:Nat}(hr:Room k X.A):OpR X (compareOp .In) (fun x y H Q=>∃O d1 a vs ds,Vw X.K O H x d1/\y=.ref a/\SqT X.K H a vs/\Reps X.K O H vs ds/\SeqAt.shaped d1=true/\ds.all SeqAt.shaped=true/\Q (.bl (ds.any fun y=>PyData.eqv y d1)) H):=by
 intro pins s σ H x y v u Q I rx ry h;obtain⟨O,d1,a,vs,ds,h1,rfl,h2,h3,s1,s2,q⟩:=h;cases ry;obtain⟨as,r1⟩:=h1.reads I rx;obtain⟨its,rv,p1,_⟩:=I.tuple h2;obtain⟨bs,r2,_⟩:=h3.reads I rv;refine SeqAt.in_tupleAt (jW s.heap d1) p1 (fun y hy=>?_) ?_
 .obtain⟨d,cs,hd,rd⟩:=readsAll_mem r2 (by simpa using hy)
  rw[tZ rd];have sd:=List.all_eq_true.mp s2 d hd;refine SeqAt.eqAt_reads d d1 _ s y v _ _ rd r1 (SeqAt.canLay_of_shaped sd) (SeqAt.canLay_of_shaped s1) (SeqAt.room_of_shaped sd ?_);have:=hr.un;show X.A.in1.units+64<cLine
  have e:X.A.in1.units<=X.A.units+1:=by simp[Around.in1]
  omega
 .have e:its.toArray.any (jW s.heap d1)=ds.any fun y=>PyData.eqv y d1:=by
   rw[←sy r2];simp
  rw[e];exact⟨.bl _,H,I,rfl,q⟩
theorem Fg{k:Nat}(hr:Room k X.A):OpD X (compareOp .In) inG:=⟨_,DJ hr,fun O ts H T v1 v2 x y d Q hc h1 h2 e q=>by
 unfold inG at e;split at e
 .split at e
  .rename_i h
   cases e;obtain⟨a,vs,rfl,t,r⟩:=h2.tup;exact⟨O,x,a,vs,_,h1,rfl,t.sq,r,h.1,h.2,q _ H (.refl _ _) hc (.bl _)⟩
  .cases e
 .cases e⟩
end
theorem zq(l:Addr)(items:Array Value)(n:Nat)(b:Addr)(items2:Array Value)(n2:Nat)(dd:Option Addr)(sl:Array (Option Value))(hc0:¬(!items.isEmpty&&Builtin.List.listTooLong (items.size+items2.size))=true)(hc1:items.size<=sizeLine)(hs2:items.size+items2.size<=sizeLine+1) :
  Meets (Builtin.«list.extend» ⟨[.ref l,.ref b],[]⟩) (fun _ R s=>s.heap.get? l=some { cls:=.type "list",dict:=none,data:=.seq items n,slots:=#[] }/\s.heap.get? b=some { cls:=.type "list",dict:=dd,data:=.seq items2 n2,slots:=sl }/\R (.ok (.ret Value.none)) { s with heap:=s.heap.update l (Obj.mapSeq fun x=>x++items2),toks:=s.toks }):=
 .of_wp fun prog w A R s h=>by
  obtain⟨hp,g,d,tk,os⟩:=s;obtain⟨hl,hb,h⟩:=h;have f1:=AutoSeq1.idx_int;have f2:=AutoSeq1.sub_tuple_tuple;have f3:=AutoSeq1.sub_list_list;have f4:=AutoSeq1.sub_tuple_list;have f5:=AutoSeq1.sub_list_tuple
  have hz':(items++items2).size<=sizeLine+1:=by rw[Array.size_append];exact hs2
  wp_walk using(wpAny_updateSeq hl rfl (hz:=hc1) (_hz':=hz')),wpAny_loadPart' hl,wpAny_loadPart' hb;exact⟨_,rfl,h⟩
section
variable {X:Cx}
theorem DR:MtM X "list.extend" (fun x vs H Q=>∃l b xs zs,x=.ref l/\vs=[.ref b]/\H l=some (.lst xs)/\SqL X.K H b zs/\xs.length+zs.length<=sizeLine/\Q .non (upd H l (.lst (xs++zs)))):=by
 intro pins s σ H x vs v us Q I rx rv h;obtain⟨l,b,xs,zs,rfl,rfl,hH,hB,hz,q⟩:=h;cases rx;obtain⟨u,rfl,ru⟩:=rv.one;cases ru;obtain⟨z,its,n,r,hl,e⟩:=I.lstM hH;obtain⟨its2,r2,pl,_⟩:=I.list hB;obtain⟨⟨cls2,dd2,data2,sl2⟩,n2,e2,c2,_,d2⟩:=pl;simp only at c2 d2;subst c2 d2;have hl2:=r2.length
 have hsz:its.toArray.size+its2.toArray.size<=sizeLine:=by rw[List.size_toArray,List.size_toArray];omega
 have hlong:¬(!its.toArray.isEmpty&&Builtin.List.listTooLong (its.toArray.size+its2.toArray.size))=true:=by
  rw[Aw hsz,Bool.and_false];exact Bool.false_ne_true
 refine call_meets F.slot_list_extend ⟨_,e,rfl⟩ F.entry_list_extend (F.args_list_extend_2 _ _)
  (zq l its.toArray n b its2.toArray n2 dd2 sl2 hlong (by rw[List.size_toArray];omega) (by omega)) ⟨e,e2,?_⟩
 refine⟨.non,_,I.lset (its':=its++its2) hH e (by simp) (r.append r2) ?_,rfl,q⟩;rw[List.length_append];omega
variable {pos:Pos}{e:Expr}{fe:FE}
def lQ(i:Nat)(f:FE):FS:=fun ρ T=>bnd (f ρ T) fun w T1=>match w,ρ[i]? with
 |.d (.list ys),some (some (.loc (.list xs)))=>if xs.length+ys.length<=sizeLine then some ((.nx,ρ.set i (some (.loc (.list (xs++ys))))),T1) else none
 |_,_=>none
theorem Es{i:Nat}{x:Str}{p apos:Pos}(he:DE X e fe)(hN:X.N[i]? = some x:=by rfl)(hv:Vis X.env.scope x:=by first|exact Or.inl rfl|exact Or.inr (Or.inl rfl)|exact Or.inr (Or.inr rfl))(hd:(x == ("__debug__" : Str))=false:=by decide)
  (hcd:(x == ("__classdict__" : Str))=false:=by decide) {cpos:Pos}
  (hbase:attributeBase (.Name x p) "extend" X.env (eval (.Name x p) X.env)=eval (.Name x p) X.env:=by rfl)
  (hfew:((backTo cpos (starEach [e] X.env)).all (fun x=>!x.1)&&(backToKw cpos (keywordEach [] X.env)).all (fun x=>x.1.isSome)
   && decide (([e]:List Expr).length+([]:List Keyword).length+(if ([]:List Keyword).isEmpty then 0 else 1)<30))=true:=by exact h6 rfl)
  (hline:(apos.endLine == cpos.line)=true:=by rfl) (hse:starEach [e] X.env=(false,eval e X.env)::starEach [] X.env:=by exact bu rfl) (hplain:(backTo cpos (starEach [] X.env)).any (·.1)=false:=by exact cg rfl)
  (hs:swapsWith (.Call (.Attribute (.Name x p) "extend" apos) [e] [] cpos) none pos.line X.env=pure false:=by rfl) :
  DS X (.Expr (.Call (.Attribute (.Name x p) "extend" apos) [e] [] cpos) pos) (lQ i fe):=by
 refine⟨?_⟩;refine cj (mZ (iF PySem.F.plainAttrs_list PySem.F.slot_list_extend PySem.F.type_list_extend DR (pv i hN hv hd hcd) (cx he.pe cX hse) hbase hfew hline hse hplain) hs) fun D σ H=>?_;rintro⟨O₀,H₀,F,ts,O,ρ,T,fl,ρ',T',rs,e,q⟩;obtain⟨w,T1,e1,e⟩:=aL e;split at e
 .rename_i ys xs h1
  split at e
  .rename_i h2
   cases e;obtain⟨v,k1,a,rfl,k2,k3,vs,k4,k5⟩:=rs.re i _ h1;refine⟨_,k1,.inl ⟨rfl,vs,SqL.of k4⟩,O,ts,ρ,T,_,_,rs.hc,rs.re,e1,fun u H1 s1 hc1 r1=>?_⟩;have rs1:=rs.step s1 hc1;have r1':Rep X.K O H1 u (.list ys):=r1
   cases r1' with
   |lst t r=>
    rename_i b us;exact⟨a,b,vs,us,rfl,rfl,s1 _ _ k3 k4,t.sq,by rw[k5.length,r.length];exact h2,q O _ _ (rs1.put (us:=[]) h1 k1 ((k5.mono (rs.hc.le s1)).append r))⟩
  .cases e
 .cases e
end
section
variable {X:Cx}{pos:Pos}{e:Expr}{f:FE}{x:Str}{p:Pos}{B:List (Str×Int)}
end
end D
namespace L2
open PySem PySem.Spec PyProof.Rows
open K1 (jk iS)
section
variable {prog:Program}{w:World}{A:Around}{R:Result->Shared->Prop}{it S:Addr}{fp wr:List Addr}{P:Nat->Value->Prop}{St:Nat->Heap->Prop}{ns:List Int}{kw:List (Str×Value)}
end
section
variable {X:Cx}
end
end L2
namespace D
open PySem PySem.Spec PyProof.Rows L2
section
variable {X:Cx}{pos:Pos}{e:Expr}{f:FE}{x:Str}{p:Pos}
variable {B:List (Str×Int)}
def kL:List Value->List Str->Bool
 |[],[]=>true
 |.str x _::r,y::s=>decide (x=y)&&kL r s
 |_,_=>false
def ir(look:Addr->Option Obj)(a:Addr)(ss:List Str):Bool:=match look a with
 |some ⟨.type n,_,.seq its _,_⟩=>decide (n="tuple")&&kL its.toList ss
 |_=>false
def wR(K:Frag)(mg:Str->Option Value)(x:Str)(ss:List Str):Prop:=∃a,mg x=some (.ref a)/\ir (fun b=>K.lookup b) a ss=true
theorem qR:∀{vs:List Value}{ss:List Str},kL vs ss=true->Vals (ss.map V.str) vs
 |[],[],_=>.nil
 |.str x t::r,y::s,h=>by
  have h':(decide (x=y)&&kL r s)=true:=h;rw[Bool.and_eq_true] at h';exact .cons ⟨t,by rw[of_decide_eq_true h'.1]⟩ (qR h'.2)
theorem l8{K:Frag}{O:Addr->Prop}{H:Hp}:∀ss:List Str,Reps K O H (ss.map V.str) (ss.map PyData.str)
 |[]=>.nil
 |x::r=>.cons (.str x) (l8 r)
theorem A5{ss:List Str}(hg:Gl X x)(ht:wR X.K X.mg x ss)(hz:ss.length<=sizeLine:=by decide)(hd:(x == ("__debug__" : Str))=false:=by decide):DE X (.Name x p) (fC (.tuple (ss.map PyData.str))):=by
 obtain⟨a,hx,hl⟩:=ht;refine⟨?_⟩;refine br (kM (v:=.ref a) hg hx rfl hd) (gM fun O H=>?_);unfold ir at hl;split at hl
 .rename_i n dd its c sl hk
  rw[Bool.and_eq_true] at hl;have rv:=qR hl.2;have hn:=of_decide_eq_true hl.1;subst hn;refine .tup (vs:=ss.map V.str) (.inr (.inr ⟨_,its,c,hk,rfl,rfl,?_,rv⟩)) (l8 ss);have:=rv.length;rw[List.length_map] at this;have e2:its.toList.length=its.size:=Array.length_toList;omega
 .cases hl
def oS(o:Obj)(ss:List Str):Bool:=ir (fun _=>some o) 0 ss
theorem y4{K:Frag}{a:Addr}{o:Obj}{ss:List Str}(h:K.lookup a=some o)(g:oS o ss=true):ir (fun b=>K.lookup b) a ss=true:=by
 unfold oS ir at g;unfold ir;dsimp only;rw[h];exact g
end
mutual
def bD:PyData->Bool
 |.tuple ds=>eO ds
 |.list _=>false
 |.dict _=>false
 |_=>true
def eO:List PyData->Bool
 |[]=>true
 |d::r=>bD d&&eO r
end
section
variable {K:Frag}{O:Addr->Prop}{H:Hp}
theorem TupAt.own(hm:∀b,O b->Mut (H b)){a:Addr}{vs:List V}(t:TupAt K (fun _=>False) H a vs):TupAt K O H a vs:=by
 rcases t with⟨_,t⟩|t
 .refine .inl ⟨fun z=>?_,t⟩
  rcases hm a z with⟨us,e⟩|⟨us,e⟩|⟨C,dx,us,e⟩ <;> rcases t with t|⟨o,t⟩ <;> (rw[e] at t;cases t)
 .exact .inr t
mutual
theorem Rep.own(hm:∀b,O b->Mut (H b)):∀{v:V}{d:PyData},Rep K (fun _=>False) H v d->bD d=true->Rep K O H v d
 |_,_,.non,_=>.non
 |_,_,.bl b,_=>.bl b
 |_,_,.int i,_=>.int i
 |_,_,.str x,_=>.str x
 |_,_,.tup t r,h=>.tup (t.own hm) (Reps.own hm r (by simpa[bD] using h))
 |_,_,.lst t r,h=>by simp[bD] at h
 |_,_,.dct n t r,h=>by simp[bD] at h
theorem Reps.own(hm:∀b,O b->Mut (H b)):∀{vs:List V}{ds:List PyData},Reps K (fun _=>False) H vs ds->eO ds=true->Reps K O H vs ds
 |_,_,.nil,_=>.nil
 |_,_,.cons (d:=d) (ds:=ds) r t,h=>by
  have h':(bD d&&eO ds)=true:=by simpa[eO] using h
  rw[Bool.and_eq_true] at h';exact .cons (Rep.own hm r h'.1) (Reps.own hm t h'.2)
end
end
def jV:List W->Bool
 |[]=>true
 |.tp _::_=>false
 |.loc (.dict _)::_=>false
 |_::r=>jV r
theorem pb{K:Frag}{O:Addr->Prop}{ts:List Addr}{H:Hp}:∀{vs:List V}{ws:List W},gi K O ts H vs ws->jV ws=true->gi K (fun _=>False) [] H vs (ws.map iT)
 |_,[],.nil,_=>.nil
 |_,.d x::r,.cons h t,e=>.cons (show Rep K (fun _=>False) H _ x from Rep.mono (fun a o n e=>⟨fun z=>z,e⟩) h) (pb t e)
 |_,.tp _::_,.cons _ _,e=>by cases e
 |_,.loc x::r,.cons h t,e=>by
  have le:Le O H (fun _=>False) H:=fun a o n e=>⟨fun z=>z,e⟩;obtain⟨a,rfl,_,_,h3⟩:=h
  cases x with
  |list xs=>obtain⟨vs,h1,h2⟩:=h3;exact .cons (.lst (.inl ⟨fun z=>z,.inl h1⟩) (h2.mono le)) (pb t e)
  |dict xs=>cases e
  |_=>cases h3
def gP(m:FnM)(g:FA):FE:=fun ρ T=>bnd (g ρ T) fun ws T1=>if jV ws=true then (match m (ws.map iT) [] with
 |some (x,_)=>if bD x=true then some (.d x,T1) else none
 | none=>none) else none
theorem mN{X:Cx}{name:Str}{ps:List Str}{k:Nat}{m:FnM}{e:Expr}{es:List Expr}{g:FA}{p pos:Pos}(F:Fn X.prog X.w X.K X.mg X.base name ps k (spM X.K ps.length m))(hr:Room k X.A)(hg:Gl X name)(ha:DA X (e::es) g)(hl:iU g ps.length)(hdb:(name == ("__debug__" : Str))=false:=by decide)
  (he:starEach (e::es) X.env=(false,eval e X.env)::starEach es X.env:=by exact bu rfl) (hpl:(backTo pos (starEach es X.env)).any (·.1)=false:=by exact cg rfl):DE X (.Call (.Name name p) (e::es) [] pos) (gP m g):=by
 refine⟨?_⟩;refine br (oy F hr hg ha.pe hdb he hpl) fun σ H Q=>?_;rintro⟨O,ts,ρ,T,w,T',hc,re,e,q⟩;obtain⟨ws,T1,e1,e⟩:=aL e;split at e
 .rename_i hn
  split at e
  .rename_i x T2 e2
   split at e
   .rename_i hx
    cases e;refine⟨O,ts,ρ,T,ws,_,hc,re,e1,fun vs H1 s1 hc1 r1=>?_⟩;refine⟨fun _=>False,[],[],ws.map iT,x,T2,⟨fun b hb=>(by cases hb),fun b hb=>hb.elim,List.nodup_nil,rfl,fun i a xs e1 _=>by simp at e1⟩,by rw[List.append_nil];exact pb r1 hn,by rw[List.length_map];exact hl _ _ _ _ e1,e2,fun v H2 s2 hc2 r2=>?_⟩;have s2':SameX ts H1 H2:=fun b o _ q=>s2 b o (by simp) q
    have hm:∀b,O b->Mut (H2 b):=fun b hb=>by
     exact(hc1.trk b hb).to fun u z=>s2 b _ (by simp) z
    have hc2':=hc1.step s2' fun b hb=>by
     obtain⟨u,z⟩:=(hc1.trk b (hc1.own b hb)).ex;rw[z];exact s2 b _ (by simp) z
    exact q v H2 (s1.trans s2') hc2' (Rep.own hm r2 hx)
   .cases e
  .cases e
 .cases e
def aO(ds:List (PyData×PyData))(s:Str):Option PyData:=match ds with
 |[]=>none
 |(.str k,d)::r=>if k=s then some d else aO r s
 |_::r=>aO r s
theorem d9{K:Frag}{O:Addr->Prop}{H:Hp}{s:Str}:∀{kvs:List (Key×V)}{ds:List (PyData×PyData)},RepK K O H kvs ds->(aO ds s=none/\bJ kvs (Sum.inr s:Key)=none)\/∃v d,aO ds s=some d/\bJ kvs (Sum.inr s:Key)=some v/\Rep K O H v d
 |_,_,.nil=>.inl ⟨rfl,rfl⟩
 |_,_,.cons (k:=.inl i) (v:=v) (d:=d) (kvs:=kvs) (ds:=ds) r t=>by
  have e:bJ (((Sum.inl i:Key),v)::kvs) (Sum.inr s:Key)=bJ kvs (Sum.inr s:Key):=by simp[bJ,List.find?_cons]
  rw[e];show (aO ds s=none/\_)\/∃v d,aO ds s=some d/\_;exact d9 (s:=s) t
 |_,_,.cons (k:=.inr k) (v:=v) (d:=d) (kvs:=kvs) (ds:=ds) r t=>by
  by_cases hk:k=s
  .subst hk
   exact .inr ⟨v,d,by show (if k=k then some d else aO ds k)=some d;rw[if_pos rfl],by simp[bJ,List.find?_cons],r⟩
  .have e:bJ (((Sum.inr k:Key),v)::kvs) (Sum.inr s:Key)=bJ kvs (Sum.inr s:Key):=by simp[bJ,List.find?_cons,hk]
   have e2:aO ((c4 (Sum.inr k:Key),d)::ds) s=aO ds s:=by show (if k=s then some d else aO ds s)=_;rw[if_neg hk]
   rw[e,e2];exact d9 (s:=s) t
theorem DGet.rd{H:Hp}{a:Addr}{kvs:List (Key×V)}{k:Key}(e:Rd H a (.dK kvs)):DGet H a (kV k) (bJ kvs k):=.inl ⟨kvs,k,e,rfl,rfl⟩
def et:PyData->PyData->Option PyData
 |.str s,.dict ds=>some (.bool (aO ds s).isSome)
 |_,_=>none
def cA:PyData->PyData->Option PyData
 |.dict ds,.str s=>aO ds s
 |_,_=>none
section
variable {X:Cx}{pos:Pos}{k:Nat}
theorem gc{k:Nat}{A:Around}(hr:Room k A):A.units+1<cLine:=by have:=hr.un;omega
theorem Ep{a b:Expr}{f g:FE}(hr:Room k X.A)(ha:DE X a f)(hb:DE X b g)(h1:behindInMarks .In b=false:=by first|exact nY _|with_unfolding_all rfl):DT X (.Compare a [.In] [b] pos) (aD (af et f g)):=by
 refine⟨?_⟩;refine ju (Do (Dz (gc hr) ha.pe hb.pe) h1) fun σ H Q h=>?_;have h:=mS h;revert h;rintro⟨O,ts,ρ,T,w,T',hc,re,e,q⟩;obtain⟨w1,T1,e1,e⟩:=aL e;obtain⟨w2,T2,e2,e⟩:=aL e;obtain⟨x,y,d,h1,h2,h3,rfl,rfl⟩:=fZ e;refine⟨O,ts,ρ,T,w1,T1,hc,re,e1,fun v1 H1 s1 hc1 r1=>?_⟩;refine⟨O,ts,ρ,T1,w2,T',hc1,re.mono hc s1,e2,fun v2 H2 s2 hc2 r2=>?_⟩;have k1:=hc2.view (r1.mono hc1 s2) h1;have k2:=hc2.view r2 h2;unfold et at h3;split at h3
 .rename_i s ds
  cases h3;cases k1.str;obtain⟨a,kvs,rfl,t,r⟩:=k2.dct;refine⟨a,_,rfl,DGet.rd (k:=Sum.inr s) t,?_⟩
  have e:(bJ kvs (Sum.inr s:Key)).isSome=(aO ds s).isSome:=by
   rcases d9 (s:=s) r with⟨z1,z2⟩|⟨v,d,z1,z2,_⟩ <;> rw[z1,z2] <;> rfl
  rw[e];exact q _ H2 (s1.trans s2) hc2 (.bl _)
 .cases h3
theorem lr{a b:Expr}{f g:FE}(hr:Room k X.A)(ha:DE X a f)(hb:DE X b g)(hs:pF b:=by exact fun _ _=>rfl):DE X (.Subscript a b pos) (af cA f g):=by
 refine⟨?_⟩;refine br (BR (gc hr) ha.pe hb.pe hs) fun σ H Q=>?_;rintro⟨O,ts,ρ,T,w,T',hc,re,e,q⟩;obtain⟨w1,T1,e1,e⟩:=aL e;obtain⟨w2,T2,e2,e⟩:=aL e;obtain⟨x,y,d,h1,h2,h3,rfl,rfl⟩:=fZ e;refine⟨O,ts,ρ,T,w1,T1,hc,re,e1,fun v1 H1 s1 hc1 r1=>?_⟩;refine⟨O,ts,ρ,T1,w2,T',hc1,re.mono hc s1,e2,fun v2 H2 s2 hc2 r2=>?_⟩;have k1:=hc2.view (r1.mono hc1 s2) h1;have k2:=hc2.view r2 h2;unfold cA at h3;split at h3
 .rename_i ds s
  cases k2.str;obtain⟨a,kvs,rfl,t,r⟩:=k1.dct
  rcases d9 (s:=s) r with⟨z1,z2⟩|⟨v,d',z1,z2,rv⟩
  .rw[z1] at h3;cases h3
  .rw[z1] at h3
   cases h3;exact⟨a,v,rfl,by rw[←z2];exact DGet.rd (k:=Sum.inr s) t,q v H2 (s1.trans s2) hc2 rv⟩
 .cases h3
end
section
variable {K:Frag}{O₀:Addr->Prop}{H₀:Hp}{F:List ((Addr->Prop)×Hp)}{ts:List Addr}{O:Addr->Prop}{H H1:Hp}{σ:L2.St}{ρ:Rho}{T T1:Tp}
theorem RS.lay{p:Addr}{o:HO}(r:RS K O₀ H₀ F ts O H σ ρ T)(hp:H p=none)(hm:Mut (some o)):RS K O₀ H₀ F ts (fun b=>O b\/b=p) (upd H p o) σ ρ T:=by
 have le:Le O H (fun b=>O b\/b=p) (upd H p o):=fun a o n e=>by
  have z:a≠p:=cV e hp;exact⟨fun q=>q.elim n z,by rw[aQ z];exact e⟩
 refine⟨⟨fun b hb=>.inl (r.hc.own b hb),fun b hb=>?_,r.hc.nd,r.hc.len,fun j a ys e1 e2=>?_⟩,fun j w e=>?_,fun b hb=>.inl (r.sub b hb),r.ots,r.same.trans (.new hp _),r.fresh,r.dist,fun f hf=>(r.frs f hf).trans le,r.len⟩
 .by_cases z:b=p
  .subst z;rw[bG];exact hm
  .rw[aQ z]
   exact r.hc.trk b (hb.resolve_right z)
 .exact(r.hc.tape j a ys e1 e2).mono (fun o' h1=>by rw[aQ (cV h1 hp)];exact h1) le
 .obtain⟨x,h1,h2⟩:=r.re j w e
  refine⟨x,h1,?_⟩
  cases w with
  |d x=>exact Rep.mono le h2
  |tp k=>exact h2
  |loc ys=>
   obtain⟨a,e1,h1,h2,h3⟩:=h2;exact⟨a,e1,.inl h1,h2,h3.mono (fun o' q=>by rw[aQ (cV q hp)];exact q) le⟩
theorem RS.take{i:Nat}{p:Addr}{o:HO}{y:PyData}(r:RS K O₀ H₀ F ts O H σ ρ T)(oa:O p)(nt:p∉ts)(h0:H₀ p=none/\¬O₀ p)(nh:∀(j:Nat) (ys:PyData),ρ[j]? = some (some (W.loc ys))->σ[j]? = some (some (V.ref p))->False)(hm:Mut (some o))(rv:Le O H O (upd H p o)->OwnAt K O (upd H p o) p y) :
  RS K O₀ H₀ F ts O (upd H p o) (σ.set i (some (.ref p))) (ρ.set i (some (.loc y))) T:=by
 have le:Le O H O (upd H p o):=fun b o n e=>⟨n,by rw[aQ (show b≠p from fun z=>n (by rw[z];exact oa))];exact e⟩
 have at_i:∀{w:W},(ρ.set i (some w))[i]? = some (some w)\/(ρ.set i (some w))[i]? = none:=fun {w}=>by
  by_cases hl:i<ρ.length
  .exact .inl (List.getElem?_set_self hl)
  .exact .inr (List.getElem?_eq_none (by simp;omega))
 refine⟨⟨r.hc.own,fun b hb=>?_,r.hc.nd,r.hc.len,fun j a ys e1 e2=>?_⟩,fun j w e=>?_,r.sub,r.ots,fun b o n e=>?_,fun j ys a e1 e2=>?_,fun j k ys zs v e1 e2 e3 e4=>?_,fun f hf=>(r.frs f hf).trans le,by simp[r.len]⟩
 .by_cases z:b=p
  .subst z;rw[bG];exact hm
  .rw[aQ z];exact r.hc.trk b hb
 .exact(r.hc.tape j a ys e1 e2).mono (fun o' h1=>by rw[aQ (show a≠p from fun z=>nt (by rw[←z];exact List.mem_of_getElem? e1))];exact h1) le
 .by_cases z:i=j
  .subst z
   have hl:i<ρ.length:=by
    have:=(List.getElem?_eq_some_iff.mp e).1;simpa using this
   rw[List.getElem?_set_self hl] at e;cases e;exact⟨.ref p,by rw[List.getElem?_set_self (by rw[r.len];exact hl)],p,rfl,oa,nt,rv le⟩
  .rw[List.getElem?_set_ne z] at e
   obtain⟨x,h1,h2⟩:=r.re j w e;refine⟨x,by rw[List.getElem?_set_ne z];exact h1,?_⟩
   cases w with
   |d x=>exact Rep.mono le h2
   |tp k=>exact h2
   |loc zs=>
    obtain⟨b,eb,k1,k2,k3⟩:=h2;have n:b≠p:=fun q=>nh j zs e (by rw[h1,eb,q]);exact⟨b,eb,k1,k2,k3.mono (fun o' q=>by rw[aQ n];exact q) le⟩
 .have:=r.same b o n e
  rw[aQ (show b≠p from fun z=>by rw[z,h0.1] at e;cases e)];exact this
 .by_cases z:i=j
  .subst z
   have hl:i<ρ.length:=by
    have:=(List.getElem?_eq_some_iff.mp e1).1;simpa using this
   rw[List.getElem?_set_self (by rw[r.len];exact hl)] at e2;cases e2;exact h0
  .rw[List.getElem?_set_ne z] at e1 e2
   exact r.fresh j ys a e1 e2
 .by_cases z:i=j
  .by_cases z':i=k
   .rw[←z,←z']
   .exfalso
    subst z
    have hl:i<ρ.length:=by
     have:=(List.getElem?_eq_some_iff.mp e1).1;simpa using this
    rw[List.getElem?_set_self (by rw[r.len];exact hl)] at e3;cases e3;rw[List.getElem?_set_ne z'] at e2 e4;exact nh k zs e2 e4
  .by_cases z':i=k
   .exfalso
    subst z'
    have hl:i<ρ.length:=by
     have:=(List.getElem?_eq_some_iff.mp e2).1;simpa using this
    rw[List.getElem?_set_self (by rw[r.len];exact hl)] at e4;cases e4;rw[List.getElem?_set_ne z] at e1 e3;exact nh j ys e1 e3
   .rw[List.getElem?_set_ne z] at e1 e3
    rw[List.getElem?_set_ne z'] at e2 e4;exact r.dist j k ys zs v e1 e2 e3 e4
end
section
variable {X:Cx}{pos:Pos}
def jM(i:Nat)(k1 k2:Str)(f g:FE):FS:=fun ρ T=>bnd (f ρ T) fun w1 T1=>bnd (g ρ T1) fun w2 T2=>match w1,w2 with
 |.d x,.d y=>if k1=k2 then none else some ((.nx,ρ.set i (some (.loc (.dict [(.str k1,x),(.str k2,y)])))),T2)
 |_,_=>none
theorem t6{i:Nat}{x:Str}{pos' dpos kp1 kp2:Pos}{k1 k2:Str}{j1 j2}{e1 e2:Expr}{f g:FE}(hN:X.N.Nodup)(he1:DE X e1 f)(he2:DE X e2 g)(hi:X.N[i]? = some x:=by rfl)(hx:Loc X.env.scope x:=by first|exact Or.inl rfl|exact Or.inr rfl)
  (hs:swapsWith (.Dict [some (.Constant (.str k1) j1 kp1),some (.Constant (.str k2) j2 kp2)] [e1,e2] dpos) (some (.Name x pos')) pos.line X.env=pure false:=by rfl) (hf:X.fn x=true\/X.env.scope.names.lookup x=some .local:=by first|exact .inl rfl|exact .inr rfl|assumption) :
  DS X (.Assign [.Name x pos'] (.Dict [some (.Constant (.str k1) j1 kp1),some (.Constant (.str k2) j2 kp2)] [e1,e2] dpos) pos) (jM i k1 k2 f g):=by
 refine⟨?_⟩;refine cj (fX hN hi hx (BQ (rY nT he1.pe (rY nT he2.pe BK)) rfl rfl (by simp) (by simp)) hs hf) fun D σ H=>?_;rintro⟨O₀,H₀,F,ts,O,ρ,T,fl,ρ',T',rs,e,q⟩;obtain⟨w1,T1,z1,e⟩:=aL e;obtain⟨w2,T2,z2,e⟩:=aL e
 obtain⟨x1,rfl⟩:∃x,w1=.d x:=by
  cases w1 with
  |d x=>exact⟨x,rfl⟩
  |tp k=>cases e
  |loc k=>cases e
 obtain⟨y1,rfl⟩:∃x,w2=.d x:=by
  cases w2 with
  |d x=>exact⟨x,rfl⟩
  |tp k=>cases e
  |loc k=>cases e
 intro p hp;have nO:=rs.hc.fresh hp;have nt:p∉ts:=fun z=>nO (rs.hc.own p z)
 have h00:H₀ p=none:=by
  cases e:H₀ p with
  |none=>rfl
  |some o=>rw[rs.same p o nt e] at hp;cases hp
 have h0:H₀ p=none/\¬O₀ p:=⟨h00,fun z=>nO (rs.sub p z)⟩
 have nh:∀(j:Nat) (ys:PyData),ρ[j]? = some (some (W.loc ys))->σ[j]? = some (some (V.ref p))->False:=fun j ys q1 q2=>by
  obtain⟨v,h1,a,ea,h2,h3,h4⟩:=rs.re j _ q1;rw[q2] at h1;cases h1;cases ea;obtain⟨o',h5⟩:=h4.some;rw[hp] at h5;cases h5
 have rs0:=rs.lay (o:=.dK []) hp (.inr (.inl ⟨_,rfl⟩));refine⟨_,ts,ρ,T,_,T1,rs0.hc,rs0.re,z1,fun v1 H1 s1 hc1 r1=>?_⟩;have rs1:=rs0.step s1 hc1;refine⟨_,ts,ρ,T1,_,T2,rs1.hc,rs1.re,z2,fun v2 H2 s2 hc2 r2=>?_⟩;have rs2:=rs1.step s2 hc2
 by_cases hne:k1=k2
 .have e':(if k1=k2 then none else some ((Fl.nx,ρ.set i (some (.loc (.dict [(.str k1,x1),(.str k2,y1)])))),T2))=some ((fl,ρ'),T'):=e
  rw[if_pos hne] at e';cases e'
 have e':(if k1=k2 then none else some ((Fl.nx,ρ.set i (some (.loc (.dict [(.str k1,x1),(.str k2,y1)])))),T2))=some ((fl,ρ'),T'):=e;rw[if_neg hne] at e';cases e';have hp2:H2 p=some (.dK []):=s2 p _ nt (s1 p _ nt bG);refine⟨hp2,[(.inr k1,v1),(.inr k2,v2)],rfl,by simp,?_⟩
 have hm:gJ [] [((Sum.inr k1:Key),v1),((Sum.inr k2:Key),v2)]=[(.inr k1,v1),(.inr k2,v2)]:=by
  simp[gJ,putK,hne]
 rw[hm];have r1':Rep X.K (fun b=>O b\/b=p) H2 v1 x1:=RepW.mono (w:=.d x1) r1 hc1 s2;exact q _ _ _ (rs2.take (.inr rfl) nt h0 nh (.inr (.inl ⟨_,rfl⟩)) fun le=>⟨_,bG,.cons (k:=.inr k1) (Rep.mono le r1') (.cons (k:=.inr k2) (Rep.mono le r2) .nil)⟩)
def cW(ds:List (PyData×PyData))(s:Str)(x:PyData):List (PyData×PyData):=match ds with
 |[]=>[]
 |(.str k,d)::r=>if k=s then (.str k,x)::cW r s x else (.str k,d)::cW r s x
 |p::r=>p::cW r s x
theorem ko{K:Frag}{O:Addr->Prop}{H:Hp}{s:Str}{v:V}{x:PyData}(rx:Rep K O H v x):∀{kvs:List (Key×V)}{ds:List (PyData×PyData)},RepK K O H kvs ds->RepK K O H (kvs.map fun kv=>if kv.1=(Sum.inr s:Key) then (kv.1,v) else kv) (cW ds s x)
 |_,_,.nil=>.nil
 |_,_,.cons (k:=.inl i) r t=>by
  rw[List.map_cons];rw[if_neg (by intro z;cases z)];exact .cons (k:=.inl i) r (ko rx t)
 |_,_,.cons (k:=.inr k) (v:=u) (d:=d) (kvs:=kvs) (ds:=ds) r t=>by
  rw[List.map_cons];have ih:=ko (s:=s) rx t;show RepK K O H _ (if k=s then (.str k,x)::cW ds s x else (.str k,d)::cW ds s x)
  by_cases hk:k=s
  .rw[if_pos hk,if_pos (by rw[hk])]
   exact .cons (k:=.inr k) rx ih
  .rw[if_neg hk,if_neg (fun z=>hk (Sum.inr.inj z))]
   exact .cons (k:=.inr k) r ih
def lF(i:Nat)(fk fv:FE):FS:=fun ρ T=>bnd (fv ρ T) fun w T1=>match ρ[i]? with
 |some (some (.loc (.dict ds)))=>bnd (fk ρ T1) fun k T3=>match w,k with
  |.d x,.d (.str s)=>if (aO ds s).isSome=true/\ds.length<=1000 then some ((.nx,ρ.set i (some (.loc (.dict (cW ds s x))))),T3) else none
  |_,_=>none
 |_=>none
theorem mz{K:Frag}{O:Addr->Prop}{H:Hp}:∀{kvs:List (Key×V)}{ds:List (PyData×PyData)},RepK K O H kvs ds->kvs.length=ds.length
 |_,_,.nil=>rfl
 |_,_,.cons _ t=>congrArg (· + 1) (mz t)
theorem qM{kvs:List (Key×V)}{k:Key}(h:(bJ kvs k).isSome=true):(kvs.any fun kv=>decide (kv.1=k))=true:=by
 unfold bJ at h;rw[Option.isSome_map] at h;rw[List.any_eq_true];obtain⟨p,hp⟩:=Option.isSome_iff_exists.mp h;exact⟨p,List.mem_of_find?_eq_some hp,by have:=List.find?_some hp;simpa using this⟩
theorem Cw{i:Nat}{x:Str}{kx e:Expr}{fk fv:FE}{p pos':Pos}{k:Nat}(hr:Room k X.A)(hk:DE X kx fk)(he:DE X e fv)(hN:X.N[i]? = some x:=by rfl)(hv:Vis X.env.scope x:=by first|exact Or.inl rfl|exact Or.inr (Or.inl rfl)|exact Or.inr (Or.inr rfl))(hd:(x == ("__debug__" : Str))=false:=by decide)
  (hcd:(x == ("__classdict__" : Str))=false:=by decide) (hs:swapsWith e (some (.Subscript (.Name x p) kx pos')) pos.line X.env=pure false:=by rfl):DS X (.Assign [.Subscript (.Name x p) kx pos'] e pos) (lF i fk fv):=by
 refine⟨?_⟩;refine cj (tF (gc hr) (pv i hN hv hd hcd) hk.pe he.pe hs) fun D σ H=>?_;rintro⟨O₀,H₀,F,ts,O,ρ,T,fl,ρ',T',rs,e,q⟩;obtain⟨w,T1,e1,e⟩:=aL e;refine⟨O,ts,ρ,T,w,T1,rs.hc,rs.re,e1,fun v H1 s1 hc1 r1=>?_⟩;have rs1:=rs.step s1 hc1;split at e
 .rename_i ds c3
  obtain⟨wk,T3,e3,e⟩:=aL e;split at e
  .rename_i xv s _
   split at e
   .rename_i hcnd
    cases e;obtain⟨c1,c2⟩:=hcnd;obtain⟨u,k1,a,rfl,k2,k3,kvs,k4,k5⟩:=rs1.re i _ c3;refine⟨_,k1,O,ts,ρ,T1,_,_,rs1.hc,rs1.re,e3,fun y H3 s3 hc3 r3=>?_⟩;have rs3:=rs1.step s3 hc3;cases (show Rep X.K O H3 y (.str s) from r3);have k4':H3 a=some (.dK kvs):=s3 _ _ k3 k4;have k5':RepK X.K O H3 kvs ds:=k5.mono (hc1.le s3)
    have hany:(kvs.any fun kv=>decide (kv.1=(Sum.inr s:Key)))=true:=qM (by
     rcases d9 (s:=s) k5' with⟨z1,z2⟩|⟨v',d',z1,z2,_⟩
     .rw[z1] at c1;cases c1
     .rw[z2];rfl)
    have hput:putK kvs (Sum.inr s:Key) v=kvs.map (fun kv=>if kv.1=(Sum.inr s:Key) then (kv.1,v) else kv):=by
     unfold putK;rw[if_pos hany]
    have hlen:kvs.length<sizeLine:=by
     rw[mz k5'];exact Nat.lt_of_le_of_lt c2 (by decide)
    have rx:Rep X.K O H3 v xv:=RepW.mono (w:=.d xv) r1 hc1 s3;refine⟨a,_,rfl,DPut.k (k:=(Sum.inr s:Key)) k4' hlen,?_⟩;rw[hput];exact q O σ _ (rs3.putO c3 k1 (.inr (.inl ⟨_,rfl⟩)) fun le=>⟨_,bG,ko (Rep.mono le rx) (k5'.mono le)⟩)
   .cases e
  .cases e
 .cases e
end
def dP(B:List (Str×Str)):List (Str×PyProof.Rows.KTD.Dat):=B.map fun p=>(p.1,.flat (.str p.2))
def wU(K:Frag)(mg:Str->Option Value)(x:Str)(B:List (Str×Str)):Prop:=∃a,mg x=some (.ref a)/\PyProof.Rows.KTD.tabLook (PyProof.Rows.KTD.datLooks fun b=>K.lookup b) (fun b=>K.lookup b) a (dP B)=true
def atS(B:List (Str×Str)):PyData->Option PyData
 |.str s=>(B.find? fun p=>decide (s=p.1)).map fun p=>.str p.2
 |_=>none
theorem qE(s:Str):∀B:List (Str×Str),PyProof.Rows.KTD.datumAt s (dP B)=(B.find? fun p=>decide (s=p.1)).map fun p=>.flat (.str p.2)
 |[]=>rfl
 |(x,d)::B=>by
  show (if decide (s=x)=true then some _ else PyProof.Rows.KTD.datumAt s (dP B))=_;rw[qE s B,List.find?_cons]
  cases decide (s=x) <;> rfl
section
variable {X:Cx}{pos:Pos}{e:Expr}{f:FE}{x:Str}{p:Pos}{B:List (Str×Str)}
theorem qD{h:Heap}{P:Value->Prop}{s:Str}:∀{B:List (Str×Str)}{d:Str×Str},(B.find? fun p=>decide (s=p.1))=some d->(∀t,P (.str d.2 t))->PyProof.Rows.KTD.EachL h s P (dP B)
 |[],d,e,_=>by cases e
 |(x,i)::B,d,e,hp=>by
  rw[List.find?_cons] at e
  by_cases hx:s=x
  .have:decide (s=x)=true:=decide_eq_true hx
   simp only[this] at e;cases e;exact PyProof.Rows.KTD.eachL_hit hx (PyProof.Rows.KTD.opened_str hp)
  .have:decide (s=x)=false:=decide_eq_false hx
   simp only[this] at e;exact PyProof.Rows.KTD.eachL_miss hx (qD e hp)
theorem B3{a:Addr}(hl:PyProof.Rows.KTD.tabLook (PyProof.Rows.KTD.datLooks fun b=>X.K.lookup b) (fun b=>X.K.lookup b) a (dP B)=true):IxR X (fun x y H Q=>∃s p,x=.ref a/\y=.str s/\(B.find? fun p=>decide (s=p.1))=some p/\Q (.str p.2) H):=by
 intro value slice pins s σ H x y v u Q I rx ry h hs;obtain⟨z,d,rfl,rfl,hf,q⟩:=h;obtain⟨t,rfl⟩:=ry;cases rx
 have hk:PyProof.Rows.KTD.inKeys z (dP B)=true:=by
  rw[←PyProof.Rows.KTD.isSome_datumAt,qE,hf];rfl
 have hp:((dP B).all fun p=>PyProof.Rows.KTD.plain p.2)=true:=by
  rw[List.all_eq_true];intro p hp;obtain⟨q,_,rfl⟩:=List.mem_map.mp hp;rfl
 exact PyProof.Rows.KTD.item_textA (h₀:=s.heap) ⟨PySem.W.kt_text_in I.kIn hl,fun _ _ e=>e⟩ hp hk (qD hf fun t=>⟨.str d.2,H,I.tok _,⟨t,rfl⟩,q⟩) hs
theorem Ew(ht:wU X.K X.mg x B)(hg:Gl X x)(he:DE X e f)(hd:(x == ("__debug__" : Str))=false:=by decide)(hs:nG e:=by exact fun _ _=>rfl):DE X (.Subscript (.Name x p) e pos) (fUn (atS B) f):=by
 obtain⟨a,hx,hl⟩:=ht;refine⟨?_⟩;refine br (vC (B3 hl) (kM (v:=.ref a) hg hx rfl hd) he.pe hs) fun σ H Q=>?_;rintro⟨O,ts,ρ,T,w,T',hc,re,e,q⟩;obtain⟨w1,T1,e1,e⟩:=aL e;obtain⟨x,d,h1,h3,rfl,rfl⟩:=gH e;refine⟨O,ts,ρ,T,w1,T',hc,re,e1,fun v1 H1 s1 hc1 r1=>?_⟩;have vw:=hc1.view r1 h1;unfold atS at h3;split at h3
 .obtain⟨p,hp,rfl⟩:=Option.map_eq_some_iff.mp h3
  cases vw.str;exact⟨_,p,rfl,rfl,hp,q _ H1 s1 hc1 (.str _)⟩
 .cases h3
def ou(a:Addr)(o:Obj)(B:List (Str×Str)):Bool:=PyProof.Rows.KTD.tabLook (PyProof.Rows.KTD.datLooks fun _=>none) (fun _=>some o) a (dP B)
theorem qq{g g':Addr->Option Obj}:∀(es:List DictEntry) (B:List (Str×Str)),PyProof.Rows.KTD.rowsLook (PyProof.Rows.KTD.datLooks g) es (dP B)=PyProof.Rows.KTD.rowsLook (PyProof.Rows.KTD.datLooks g') es (dP B)
 |[],[]=>rfl
 |[],(_,_)::_=>rfl
 |_::_,[]=>rfl
 |e::es,(x,i)::B=>by
  have ih:=qq (g:=g) (g':=g') es B;unfold dP at ih ⊢;rw[List.map_cons];unfold PyProof.Rows.KTD.rowsLook;rw[ih];rfl
theorem yo{K:Frag}{a:Addr}{o:Obj}(h:K.lookup a=some o)(g:ou a o B=true):PyProof.Rows.KTD.tabLook (PyProof.Rows.KTD.datLooks fun b=>K.lookup b) (fun b=>K.lookup b) a (dP B)=true:=by
 unfold ou PyProof.Rows.KTD.tabLook at g;unfold PyProof.Rows.KTD.tabLook;dsimp only at g ⊢;rw[h];rw[←g];dsimp only
 cases o.data <;> first|rfl|(dsimp only;rw[qq (g':=fun _=>none)])
end
section
variable {K:Frag}{O:Addr->Prop}{ts:List Addr}{H H':Hp}{T:Tp}{n:Nat}{a C:Addr}{ps:List PyData}
end
section
variable {X:Cx}{C:Addr}{o e:Expr}{f m:Str}{pos pos' apos:Pos}{fo fe:FE}
structure Mth(P:Program)(w:World)(K:Frag)(mg:Str->Option Value)(base:Heap)(C:Addr)(m:Str)(ps:List Str)(k:Nat)(sp:Sp):Prop where
 ex:∃f fd,FnOk P w K mg base CX0 k f fd ps sp/\Binds K fd ps []/\Meth K C m f
variable {ps:List Str}{k:Nat}{mm:FnM}{g:FA}{es:List Expr}{pl:Sem Bool}
def vV:FS:=fun _ _=>none
theorem Cv{st:Stmt}:DS X st vV:=⟨fun _ _ _ _ _ _ h=>by
 obtain⟨O₀,H₀,F,ts,O,ρ,T,fl,ρ',T',rs,e,q⟩:=h
 cases e⟩
end
def jI(T:Tp):Option (Tp×List PyData):=match T.getLast? with
 |some xs=>some (T.dropLast,xs)
 |none=>none
theorem AG{T T1:Tp}{ys:List PyData}(h:jI T=some (T1,ys)):T=T1++[ys]:=by
 unfold jI at h;split at h
 .rename_i xs e
  cases h;obtain⟨zs,hl⟩:=List.getLast?_eq_some_iff.mp e;rw[hl];simp
 .cases h
section
variable {X:Cx}{C f:Addr}{e:Expr}{fe:FE}{fr:FS}{rest:List Stmt}{cn x:Str}{p pos pos' cpos:Pos}{ps:List Str}{k i:Nat}{m:FnM}{fd:FuncData}
end
end D
namespace L2
open PySem PySem.Spec PyProof.Rows
section
variable {X:Cx}
end
end L2
namespace D
open PySem PySem.Spec PyProof.Rows L2
section
variable {X:Cx}{pos:Pos}
structure Ini(P:Program)(w:World)(K:Frag)(mg:Str->Option Value)(base:Heap)(C:Addr)(ps:List Str)(k:Nat)(sp:Sp):Prop where
 ex:∃f fd,FnOk P w K mg base CX0 k f fd ps sp/\L2.Binds K fd ps []/\Mk K C f
structure DfM(K:Frag)(C:Addr)(name qual:Str)(st:Stmt):Prop where
 ex:∃(f:Addr) (oc:Value) (od an:Option Addr) (sl:Array (Option Value)) (kV dc pm cd ct:Value),PySem.W.findIn K (.ref C) name=some (some (.ref f)) /\
  K.lookup f=some ⟨oc,od,.func (PySem.W.fnOf name qual (dt st) (cz st) (bp st) .none kV dc pm an cd ct),sl⟩/\PySem.W.codeIn K cd qual=true/\PySem.W.keepIn K (.ref f)=true/\PySem.W.isFn K (.ref f)=true
theorem qP{P:Program}{w:World}:∀{kvs:List (Key×V)}{vs:List (Key×Value)}{us:List Value},KV kvs vs->us.length=vs.length->(∀(j:Nat) (v:Value),us[j]? = some v->∃k x,vs[j]? = some (k,x)/\(bF P w).is k v=true)->Vals (kvs.map fun p=>kV p.1) us
 |[],[],[],_,_,_=>.nil
 |_::_,[],_,r,_,_=>by cases r
 |[],_::_,_,r,_,_=>by cases r
 |_,[],_::_,_,h,_=>by simp at h
 |_,_::_,[],_,h,_=>by simp at h
 |(k,v)::kvs,(k',x)::vs,u::us,r,h,f=>by
  cases r with
  |cons r1 r2=>
   refine .cons ?_ (qP (P:=P) (w:=w) r2 (by simpa using h) fun j v e=>?_)
   .obtain⟨k2,x2,e2,e3⟩:=f 0 u rfl
    cases e2;have:k=k':=r1.1;subst this;exact keyV e3
   .obtain⟨k2,x2,e2,e3⟩:=f (j+1) v (by simpa using e)
    exact⟨k2,x2,by simpa using e2,e3⟩
def iJ(ds:List (PyData×PyData)):List PyData:=ds.map (·.1)
theorem qU{K:Frag}{O:Addr->Prop}{H:Hp}{O':Addr->Prop}{H':Hp}:∀{kvs:List (Key×V)}{ds:List (PyData×PyData)},RepK K O H kvs ds->Reps K O' H' (kvs.map fun p=>kV p.1) (iJ ds)
 |_,_,.nil=>.nil
 |_,_,.cons (k:=k) _ t=>.cons (mW k) (qU t)
def uU:PyData->PyData->Option PyData
 |.dict ds,.str s=>some ((aO ds s).getD .none)
 |_,_=>none
def vS(T0:Tp)(w1 w2:W)(T:Tp):Option (W×Tp):=match view T0 w1 with
 |some (.dict _)=>op2 uU T w1 w2
 |_=>none
def jO(f g:FE):FE:=fun ρ T=>bnd (f ρ T) fun w1 T1=>bnd (g ρ T1) fun w2 T2=>vS T1 w1 w2 T2
theorem Ea{H:Hp}{a:Addr}{kvs:List (Key×V)}(r:Rd H a (.dK kvs)):IsD H a:=.inl ⟨kvs,r⟩
theorem CB{k:Nat}{o e:Expr}{f g:FE}{apos cpos:Pos}(hr:Room k X.A)(ho:DE X o f)(he:DE X e g)
  (m:M1 X o "get" apos e cpos:=by exact⟨rfl,h6 rfl,rfl,by rfl⟩):DE X (.Call (.Attribute o "get" apos) [e] [] cpos) (jO f g):=by
 refine⟨?_⟩;refine br (Ap (gc hr) ho.pe he.pe m) fun σ H Q=>?_;rintro⟨O,ts,ρ,T,w,T',hc,re,e,q⟩;obtain⟨w1,T1,e1,e⟩:=aL e;obtain⟨w2,T2,e2,e⟩:=aL e;unfold vS at e;split at e
 .rename_i ds0 hv0
  obtain⟨x,y,d,h1,h2,h3,rfl,rfl⟩:=fZ e;refine⟨O,ts,ρ,T,w1,T1,hc,re,e1,fun v1 H1 s1 hc1 r1=>?_⟩;obtain⟨a,kvs0,rfl,t0,_⟩:=(hc1.view r1 hv0).dct;refine⟨a,rfl,Ea t0,O,ts,ρ,T1,w2,T',hc1,re.mono hc s1,e2,fun v2 H2 s2 hc2 r2=>?_⟩;have k1:=hc2.view (r1.mono hc1 s2) h1;have k2:=hc2.view r2 h2;unfold uU at h3;split at h3
  .rename_i ds s
   cases k2.str;obtain⟨a',kvs,ea,t,r⟩:=k1.dct;cases ea;cases h3;refine⟨_,DGet.rd (k:=Sum.inr s) t,?_⟩
   rcases d9 (s:=s) r with⟨z1,z2⟩|⟨v,d',z1,z2,rv⟩
   .rw[z2]
    exact q _ H2 (s1.trans s2) hc2 (by rw[z1];exact .non)
   .rw[z2]
    exact q _ H2 (s1.trans s2) hc2 (by rw[z1];exact rv)
  .cases h3
 .cases e
end
theorem uM:∀a b:List Nat,ltCps a b=false->ltCps b a=false->a=b
 |[],[],_,_=>rfl
 |[],_::_,h,_=>by simp[ltCps] at h
 |_::_,[],_,h=>by simp[ltCps] at h
 |x::r,y::t,h,g=>by
  simp[ltCps] at h g
  have:x=y:=by omega
  subst this;rw[uM r t (by simpa using h) (by simpa using g)]
theorem tL:∀a b:List Nat,ltCps a b=true->ltCps b a=false
 |[],[],h=>by simp[ltCps] at h
 |[],_::_,_=>rfl
 |_::_,[],h=>by simp[ltCps] at h
 |x::r,y::t,h=>by
  simp[ltCps] at h ⊢
  rcases h with h|h
  .omega
  .refine⟨by omega,fun e=>?_⟩
   exact tL r t h.2
theorem rh:∀a b c:List Nat,ltCps b a=false->ltCps c b=false->ltCps c a=false
 |a,[],c,h,g=>by
  cases a with
  |nil=>exact g
  |cons x r=>simp[ltCps] at h
 |[],b,c,h,g=>by cases c <;> rfl
 |x::r,y::t,[],h,g=>by simp[ltCps] at g
 |x::r,y::t,z::u,h,g=>by
  simp[ltCps] at h g ⊢;refine⟨by omega,fun e=>?_⟩;subst e
  by_cases q:z=y
  .subst q
   exact rh r t u (h.2 rfl) (g.2 rfl)
  .exfalso
   omega
def leS(a b:Str):Bool:=!ltCps b.cps.toList a.cps.toList
theorem B2(a b:Str):leS a b=true\/leS b a=true:=by
 unfold leS
 cases h:ltCps b.cps.toList a.cps.toList with
 |false=>exact .inl rfl
 |true=>
  refine .inr ?_
  cases g:ltCps a.cps.toList b.cps.toList with
  |false=>rfl
  |true=>
   exfalso;have:=tL _ _ h;rw[g] at this;cases this
theorem AC{a b:Str}(h:leS a b=true)(g:leS b a=true):a=b:=by
 unfold leS at h g;have:=uM a.cps.toList b.cps.toList (by simpa using g) (by simpa using h);cases a;cases b;simp at this;rw[this]
theorem rj{a b c:Str}(h:leS a b=true)(g:leS b c=true):leS a c=true:=by
 unfold leS at *;have:=rh a.cps.toList b.cps.toList c.cps.toList (by simpa using h) (by simpa using g);rw[this];rfl
def hZ(x:Str):List Str->List Str
 |[]=>[x]
 |y::r=>if leS x y=true then x::y::r else y::hZ x r
def ck:List Str->List Str
 |[]=>[]
 |x::r=>hZ x (ck r)
theorem mf(x:Str):∀l:List Str,(hZ x l).Perm (x::l)
 |[]=>.refl _
 |y::r=>by
  unfold hZ;split
  .exact .refl _
  .exact((mf x r).cons y).trans (.swap _ _ _)
theorem ic:∀l:List Str,(ck l).Perm l
 |[]=>.refl _
 |x::r=>(mf x _).trans ((ic r).cons x)
theorem qg(x:Str):∀l:List Str,l.Pairwise (fun a b=>leS a b=true)->(hZ x l).Pairwise (fun a b=>leS a b=true)
 |[],_=>by simp[hZ]
 |y::r,h=>by
  obtain⟨h1,h2⟩:=List.pairwise_cons.mp h;unfold hZ;split
  .rename_i hx
   refine List.pairwise_cons.mpr ⟨fun z hz=>?_,h⟩
   rcases List.mem_cons.mp hz with e|e
   .rw[e];exact hx
   .exact rj hx (h1 z e)
  .rename_i hx
   refine List.pairwise_cons.mpr ⟨fun z hz=>?_,qg x r h2⟩
   rcases List.mem_cons.mp ((mf x r).mem_iff.mp hz) with e|e
   .rw[e];exact(B2 x y).resolve_left hx
   .exact h1 z e
theorem pP:∀l:List Str,(ck l).Pairwise (fun a b=>leS a b=true)
 |[]=>.nil
 |x::r=>qg x _ (pP r)
theorem pW:∀{a b:List Str},a.Perm b->a.Pairwise (fun a b=>leS a b=true)->b.Pairwise (fun a b=>leS a b=true)->a=b
 |[],b,p,_,_=>(List.nil_perm.mp p).symm
 |x::r,[],p,_,_=>absurd (List.perm_nil.mp p) (by simp)
 |x::r,y::t,p,h,g=>by
  obtain⟨h1,h2⟩:=List.pairwise_cons.mp h;obtain⟨g1,g2⟩:=List.pairwise_cons.mp g
  have e:x=y:=by
   rcases List.mem_cons.mp (p.mem_iff.mp List.mem_cons_self) with e|e
   .exact e
   .rcases List.mem_cons.mp (p.mem_iff.mpr List.mem_cons_self) with e' | e'
    .exact e'.symm
    .exact AC (h1 y e') (g1 x e)
  subst e;rw[pW (List.perm_cons _ |>.mp p) h2 g2]
theorem qT:∀(x:Str) (l:List Str),risingS x l=true->(x::l).Pairwise (fun a b=>leS a b=true)
 |x,[],_=>by simp
 |x,y::r,h=>by
  have h':leS x y=true/\risingS y r=true:=by
   unfold leS;simpa[risingS] using h
  have ih:=qT y r h'.2;refine List.pairwise_cons.mpr ⟨fun z hz=>?_,ih⟩
  rcases List.mem_cons.mp hz with e|e
  .rw[e];exact h'.1
  .exact rj h'.1 ((List.pairwise_cons.mp ih).1 z e)
theorem yr{l:List Str}(h:sortedS l=true):l.Pairwise (fun a b=>leS a b=true):=by
 cases l with
 |nil=>exact .nil
 |cons x r=>exact qT x r h
theorem ms:∀{ss:List Str}{us:List Value},Vals (ss.map V.str) us->StrsAre us ss
 |[],_,h=>by cases h;exact .nil
 |x::r,_,h=>by
  cases h with
  |cons h1 h2=>
   obtain⟨t,rfl⟩:=h1;exact .cons x t (ms h2)
theorem qm:∀{us:List Value}{ss:List Str},StrsAre us ss->Vals (ss.map V.str) us
 |_,_,.nil=>.nil
 |_,_,.cons y t r=>.cons ⟨t,rfl⟩ (qm r)
section
variable {X:Cx}{pos:Pos}
def lz(o:Option (List Str)):Option PyData:=match o with
 |some ss=>if ss.length<64 then some (.list ((ck ss).map .str)) else none
 |none=>none
end
theorem zD{prog:Program}{w:World}{A:Around}{E:Value->Shared->Prop}{s:Shared}{Q:Int->Shared->Prop}(h:Q (PySem.reduceHash 4238894112) { s with toks:=s.toks+1 }):wpAny (model prog w) A (pyHash .none) Q E s:=by
 show wpAny (model prog w) A (pyHashByItsType .none) Q E s;refine PySem.W.pyHash_slot (T:="NoneType") (by first|rfl|trivial|exact⟨_,rfl⟩|simp[Shared.TypeIs]) PySem.F.slot_NoneType_hash PySem.F.entry_NoneType_hash (PySem.F.args_NoneType_hash_1 _) rfl (.inl rfl) ?_;unfold PySem.Builtin.«NoneType.__hash__»;refine wpAny_bind ?_;unfold slotArgs;simp only[];rw[if_neg (by decide),if_neg (by decide)];refine wpAny_pure ?_;unfold retInt;refine wpAny_bind ?_
 first
  |exact wpAny_mkInt (wpAny_pure ⟨_,_,rfl,h⟩)
  |exact wpAny_mkInt (wpAny_ret ⟨_,_,rfl,h⟩)
def wB:Option Key->Value->Bool
 |none,.none=>true
 |none,_=>false
 |some k,v=>ej k v
def okH(w:World):Option Key->Int
 |none=>PySem.reduceHash 4238894112
 |some k=>wF w k
theorem d8{k:Option Key}{v:Value}(h:wB k v=true):(k=none/\v=.none)\/(∃i t,k=some (.inl i)/\v=.int i t)\/∃x t,k=some (.inr x)/\v=.str x t:=by
 cases k with
 |none=>cases v <;> first|exact .inl ⟨rfl,rfl⟩|cases h
 |some k=>
  rcases dG (show ej k v=true from h) with⟨i,t,rfl,rfl⟩|⟨x,t,rfl,rfl⟩
  .exact .inr (.inl ⟨i,t,rfl,rfl⟩)
  .exact .inr (.inr ⟨x,t,rfl,rfl⟩)
theorem sH(k:Key):decide ((none:Option Key)=some k)=false:=decide_eq_false (fun q=>nomatch q)
theorem rA(k:Key):decide (some k=(none:Option Key))=false:=decide_eq_false (fun q=>nomatch q)
theorem kI(a b:Key):decide (some a=some b)=decide (a=b):=by
 by_cases h:a=b
 .subst h;simp
 .rw[decide_eq_false h,decide_eq_false (fun q=>h (Option.some.inj q))]
def m7(prog:Program)(w:World):PySem.KeyKind prog w (Option Key) where
 is:=wB
 hash:=okH w
 inj:=fun v a b ha hb=>by
  rcases d8 ha with⟨rfl,rfl⟩|⟨i,t,rfl,rfl⟩|⟨x,t,rfl,rfl⟩
  .rcases d8 hb with⟨rfl,_⟩|⟨j,u,rfl,e⟩|⟨y,u,rfl,e⟩
   .rfl
   .exact nomatch e
   .exact nomatch e
  .rcases d8 hb with⟨rfl,e⟩|⟨j,u,rfl,e⟩|⟨y,u,rfl,e⟩
   .exact nomatch e
   .injection e with e1 _;rw[e1]
   .exact nomatch e
  .rcases d8 hb with⟨rfl,e⟩|⟨j,u,rfl,e⟩|⟨y,u,rfl,e⟩
   .exact nomatch e
   .exact nomatch e
   .injection e with e1 _;rw[e1]
 byValue:=fun k v h=>by
  rcases d8 h with⟨rfl,rfl⟩|⟨i,t,rfl,rfl⟩|⟨x,t,rfl,rfl⟩ <;> rfl
 pyHash:=fun hv h=>by
  rcases d8 hv with⟨rfl,rfl⟩|⟨i,t,rfl,rfl⟩|⟨x,t,rfl,rfl⟩
  .exact zD h
  .exact wpAny_pyHash_int h
  .exact wpAny_pyHash_str h
 eqBool:=fun hu hv h=>by
  rcases d8 hu with⟨rfl,rfl⟩|⟨i,t,rfl,rfl⟩|⟨x,t,rfl,rfl⟩
  .rcases d8 hv with⟨rfl,rfl⟩|⟨j,u,rfl,rfl⟩|⟨y,u,rfl,rfl⟩
   .rw[show decide ((none:Option Key)=none)=true by simp] at h;exact SeqAt.EqAt.same .none _ _ _ _ h
   .rw[sH] at h;exact SeqAt.EqAt.none_int j u _ _ _ _ h
   .rw[sH] at h;exact SeqAt.EqAt.none_str y u _ _ _ _ h
  .rcases d8 hv with⟨rfl,rfl⟩|⟨j,u,rfl,rfl⟩|⟨y,u,rfl,rfl⟩
   .rw[rA] at h;exact SeqAt.EqAt.int_none i t _ _ _ _ h
   .rw[kI,uR] at h;exact wpAny_eqBool_int h
   .rw[kI,uQ] at h;exact SeqAt.EqAt.int_str i t y u _ _ _ _ h
  .rcases d8 hv with⟨rfl,rfl⟩|⟨j,u,rfl,rfl⟩|⟨y,u,rfl,rfl⟩
   .rw[rA] at h;exact SeqAt.EqAt.str_none x t _ _ _ _ h
   .rw[kI,uP] at h;exact SeqAt.EqAt.str_int x t j u _ _ _ _ h
   .rw[kI,uO] at h;exact wpAny_eqBool_str h
 «strs»:=fun k x t v h=>by
  rcases d8 h with⟨rfl,e⟩|⟨i,u,rfl,e⟩|⟨y,u,rfl,e⟩
  .exact nomatch e
  .exact nomatch e
  .injection e with e1 _
   subst e1
   cases v <;> rfl
theorem qW{P:Program}{w:World}:∀{es:List DictEntry}{vs:List (Key×Value)},Pairs (bF P w) es vs->Pairs (m7 P w) es (vs.map fun p=>(some p.1,p.2))
 |_,_,.nil=>.nil
 |_,_,.cons h1 h2 t=>.cons h1 h2 (qW t)
theorem A2{P:Program}{w:World}{h:Heap}{a:Addr}{vs:List (Key×Value)}(d:h.DictOf (bF P w) a vs):h.DictOf (m7 P w) a (vs.map fun p=>(some p.1,p.2)):=by
 obtain⟨o,es,ep,e1,e2,e3,e4,e5,e6⟩:=d;refine⟨o,es,ep,e1,e2,e3,fun e he=>?_,qW e5,?_⟩
 .obtain⟨k,k1,k2⟩:=e4 e he
  exact⟨some k,k1,k2⟩
 .rw[List.map_map]
  show (vs.map fun p=>some p.1).Nodup
  have:(vs.map fun p=>some p.1)=(vs.map (·.1)).map some:=by rw[List.map_map];rfl
  rw[this];exact List.pairwise_map.mpr (List.Pairwise.imp (fun h q=>h (Option.some.inj q)) e6)
theorem rO:∀(vs:List (Key×Value)),valueAt (vs.map fun p=>((some p.1:Option Key),p.2)) none=none
 |[]=>rfl
 |p::r=>by
  have:=rO r;unfold valueAt at this ⊢;rw[List.map_cons,List.find?_cons];simpa using this
section
variable {X:Cx}
theorem yw:OpR X (compareOp .In) (fun x y H Q=>∃a kvs,x=.non/\y=.ref a/\Rd H a (.dK kvs)/\Q (.bl false) H):=by
 intro pins s σ H x y v u Q I rx ry h;obtain⟨a,kvs,rfl,rfl,e,q⟩:=h;cases (show v=Value.none from rx);cases (show u=Value.ref a from ry);obtain⟨z,hd,vs,rel,dd⟩:=dz I.hok e;refine wpAny_in_of (knd:=m7 X.prog X.w) (k:=none) rfl hd (A2 dd).mapOf ?_;rw[rO];exact⟨.bl false,H,I.tok _,rfl,q⟩
theorem DL{k:Nat}(hr:Room k X.A):OpR X (compareOp .In) (fun x y H Q=>∃a kvs s,x=.str s/\y=.ref a/\Rd H a (.dK kvs)/\Q (.bl (bJ kvs (Sum.inr s:Key)).isSome) H):=by
 intro pins s σ H x y v u Q I rx ry h;obtain⟨a,kvs,z,rfl,rfl,e,q⟩:=h;cases (show u=Value.ref a from ry);exact wL (gc hr) I (DGet.rd (k:=Sum.inr z) e) (show RelV (kV (Sum.inr z)) v from rx) fun s' I'=>⟨.bl _,H,I',rfl,q⟩
theorem zi{k:Nat}(hr:Room k X.A):OpR X (compareOp .NotIn) (fun x y H Q=>∃a kvs s,x=.str s/\y=.ref a/\Rd H a (.dK kvs)/\Q (.bl (!(bJ kvs (Sum.inr s:Key)).isSome)) H):=by
 intro pins s σ H x y v u Q I rx ry h;obtain⟨a,kvs,z,rfl,rfl,e,q⟩:=h;cases (show u=Value.ref a from ry);exact CF (gc hr) I (DGet.rd (k:=Sum.inr z) e) (show RelV (kV (Sum.inr z)) v from rx) fun s' I'=>⟨.bl _,H,I',rfl,q⟩
theorem D8{k:Nat}(hr:Room k X.A):IxR X (fun x y H Q=>∃a kvs s v,x=.ref a/\y=.str s/\Rd H a (.dK kvs)/\bJ kvs (Sum.inr s:Key)=some v/\Q v H):=by
 intro value slice pins s σ H x y v u Q I rx ry h hs;obtain⟨a,kvs,z,v0,rfl,rfl,e,l,q⟩:=h;cases (show v=Value.ref a from rx)
 have g:DGet H a (kV (Sum.inr z)) (some v0):=by rw[←l];exact DGet.rd e
 unfold subscriptTail;refine wpAny_bind ?_;rw[getitemInPython_of_ne (lX I g).not_modules];refine wpAny_bind (wpAny_specialOf (lX I g) PySem.F.slot_dict_getitem.lookup ?_)
 have fin:wpAny (model X.prog X.w) X.A (subscripted slice false (Value.ref a) u) (fun r s₃=>wpAny (model X.prog X.w) X.A (letTemporaryGo value (Value.ref a) r >>= fun _=>pure r) (EP X pins σ Q) X.xe s₃) X.xe s:=by
  rw[hs];exact wpAny_operating (rB (gc hr) I g (show RelV (kV (Sum.inr z)) u from ry) fun w' s' I' rw'=>wpAny_bind (wpAny_letTemporaryGo (wpAny_pure ⟨v0,H,I',rw',q⟩)))
 first
  |exact wpAny_pure (wpAny_bind fin)
  |exact wpAny_bind (wpAny_pure (wpAny_bind fin))
  |exact wpAny_bind fin
def inK(s:PyData)(ds:List (PyData×PyData)):Option Bool:=match s with
 |.str s=>some (aO ds s).isSome
 |.none=>some false
 |_=>none
def inB(x y:PyData):Option Bool:=match y with
 |.dict ds=>inK x ds
 |y=>inS x y
def inA(x y:PyData):Option PyData:=(inB x y).map .bool
def gI(x y:PyData):Option PyData:=match x,y with
 |.str s,.dict ds=>some (.bool (!(aO ds s).isSome))
 |_,.dict _=>none
 |x,y=>(inS x y).map fun b=>.bool (!b)
theorem dQ{k:Nat}(hr:Room k X.A):OpD X (compareOp .In) inA:=⟨_,(op_in_str.or qX).or ((DL hr).or yw),fun O ts H T v1 v2 x y d Q hc h1 h2 e q=>by
 unfold inA at e
 by_cases hd:∃ds,y=.dict ds
 .obtain⟨ds,rfl⟩:=hd
  obtain⟨a,kvs,rfl,t,r⟩:=h2.dct;obtain⟨b,hb,rfl⟩:=Option.map_eq_some_iff.mp e;have hb':inK x ds=some b:=hb;unfold inK at hb';split at hb'
  .rename_i s
   cases hb';cases h1.str;refine .inr (.inl ⟨a,kvs,s,rfl,rfl,t,?_⟩)
   have e:(bJ kvs (Sum.inr s:Key)).isSome=(aO ds s).isSome:=by
    rcases d9 (s:=s) r with⟨z1,z2⟩|⟨v,d,z1,z2,_⟩ <;> rw[z1,z2] <;> rfl
   rw[e];exact q _ H (.refl _ _) hc (.bl _)
  .cases hb'
   cases h1.non;exact .inr (.inr ⟨a,kvs,rfl,rfl,t,q _ H (.refl _ _) hc (.bl _)⟩)
  .cases hb'
 .have e':(inS x y).map .bool=some d:=by
   cases y with
   |dict ds=>exact absurd ⟨ds,rfl⟩ hd
   |_=>exact e
  exact .inl (kY false O ts H T v1 v2 x y d Q hc h1 h2 e' q)⟩
theorem mB{k:Nat}(hr:Room k X.A):OpD X (compareOp .NotIn) gI:=⟨_,(op_notin_str.or pR).or (zi hr),fun O ts H T v1 v2 x y d Q hc h1 h2 e q=>by
 by_cases hd:∃ds,y=.dict ds
 .obtain⟨ds,rfl⟩:=hd
  obtain⟨a,kvs,rfl,t,r⟩:=h2.dct
  cases x with
  |str s=>
   cases e;cases h1.str;refine .inr ⟨a,kvs,s,rfl,rfl,t,?_⟩
   have e:(bJ kvs (Sum.inr s:Key)).isSome=(aO ds s).isSome:=by
    rcases d9 (s:=s) r with⟨z1,z2⟩|⟨v,d,z1,z2,_⟩ <;> rw[z1,z2] <;> rfl
   rw[e];exact q _ H (.refl _ _) hc (.bl _)
  |_=>cases e
 .have e':((inS x y).map fun b=>.bool (!b))=some d:=by
   cases y with
   |dict ds=>exact absurd ⟨ds,rfl⟩ hd
   |_=>cases x <;> exact e
  exact .inl (kY true O ts H T v1 v2 x y d Q hc h1 h2 e' q)⟩
def ixA(x y:PyData):Option PyData:=match x,y with
 |.dict ds,.str s=>aO ds s
 |.dict _,_=>none
 |x,y=>ixD x y
theorem cM{k:Nat}(hr:Room k X.A):IxD X ixA:=by
 obtain⟨r0,h0,s0⟩:=az (X:=X);refine⟨_,h0.or (D8 hr),fun O ts H T v1 v2 x y d Q hc h1 h2 e q=>?_⟩
 by_cases hd:∃ds,x=.dict ds
 .obtain⟨ds,rfl⟩:=hd
  obtain⟨a,kvs,rfl,t,r⟩:=h1.dct
  cases y with
  |str s=>
   have e':aO ds s=some d:=e;cases h2.str
   rcases d9 (s:=s) r with⟨z1,z2⟩|⟨v,d',z1,z2,rv⟩
   .rw[z1] at e';cases e'
   .rw[z1] at e'
    cases e';exact .inr ⟨a,kvs,s,v,rfl,rfl,t,z2,q _ H (.refl _ _) hc rv⟩
  |_=>cases e
 .refine .inl (s0 O ts H T v1 v2 x y d Q hc h1 h2 ?_ q)
  cases x with
  |dict ds=>exact absurd ⟨ds,rfl⟩ hd
  |_=>exact e
end
section
variable {X:Cx}{pins:List (Addr×Obj)}{σ:L2.St}{H H2:Hp}{s s2:Shared}
theorem AI(I:Inv X pins σ H s){a:Addr}{kvs:List (Key×V)}{o:Obj}(e:H a=some (.dK kvs))(I2:Inv X pins σ H2 s2)(e2:H2 a=some (.frz o (.dK kvs))):Inv X pins σ (upd H2 a (.dK kvs)) s2:=by
 have U:∀{b:Addr}{u:HO},H2 b=some u->(∀o ks,u≠.frz o ks)->upd H2 a (.dK kvs) b=some u:=fun {b u} q n=>by
  rw[aQ (fun z=>by subst z;rw[e2] at q;cases q;exact n _ _ rfl)];exact q
 have N:∀{b:Addr},H2 b=none->upd H2 a (.dK kvs) b=none:=fun {b} q=>by
  rw[aQ (fun z=>by subst z;rw[e2] at q;cases q)];exact q
 have hok:HOk X.prog X.w (upd H2 a (.dK kvs)) s2.heap:=fun b u q=>by
  by_cases hb:b=a
  .subst hb
   rw[bG] at q;cases q;exact ObjOk.stay (I2.hok b _ e2).2 (fun _ _ _ q=>q) (fun c q=>U q (fun _ _ z=>nomatch z)) fun c xs q=>U q (fun _ _ z=>nomatch z)
  .rw[aQ hb] at q
   exact(I2.hok b u q).stay (fun _ _ _ q=>q) (fun c q=>U q (fun _ _ z=>nomatch z)) fun c xs q=>U q (fun _ _ z=>nomatch z)
 refine⟨I2.ok,I2.os,I2.bare,⟨I2.base.keep,I2.base.slot,fun b ob q n hx=>N (I2.base.free b ob q n hx),I2.base.there,fun b xs q=>U (I2.base.tups b xs q) (fun _ _ z=>nomatch z),fun b ob u q=>?_,fun b ps q=>?_⟩,I2.loc,I2.cell,N I2.free,fun x c q=>N (I2.freeC x c q),fun p hp=>?_,hok,I2.len⟩
 .have h1:=I.base.frzs b ob u q
  rw[aQ (fun z=>by subst z;rw[e] at h1;cases h1)];exact I2.base.frzs b ob u q
 .obtain⟨more,h1⟩:=I2.base.tbls b ps q
  exact⟨more,U h1 (fun _ _ z=>nomatch z)⟩
 .obtain⟨k1,k2,k3⟩:=I2.pin p hp
  exact⟨k1,N k2,k3⟩
end
inductive Ln(P:Hp->VK->Prop):Hp->VK->Prop where
 |done {H:Hp}{Q:VK}:P H Q->Ln P H Q
 |frz {H:Hp}{Q:VK}{a:Addr}{kvs:List (Key×V)}:H a=some (.dK kvs)->(∀o,Ln P (upd H a (.frz o (.dK kvs))) (fun v H2=>H2 a=some (.frz o (.dK kvs))/\Q v (upd H2 a (.dK kvs))))->Ln P H Q
theorem E3{X:Cx}{e:Expr}{t:TE}(h:PE X e t):PE X e (fun σ H Q=>Ln (t σ) H Q):=fun pins s σ H Q I q=>by
 have key:∀{H:Hp}{Q:VK},Ln (t σ) H Q->Inv X pins σ H s->wpAny (model X.prog X.w) X.A (eval e X.env) (EP X pins σ Q) X.xe s:=by
  intro H Q q
  induction q with
  |done q=>exact fun I=>h pins s σ _ _ I q
  |frz ea _ ih=>
   intro I;obtain⟨o,I'⟩:=tS I ea;refine thn (ih o I') fun u s' ⟨v,H2,I2,r,e2,q2⟩=>?_;exact⟨v,_,AI I ea I2 e2,r,q2⟩
 exact key q I
section
variable {K:Frag}
theorem TupAt.keep{H H':Hp}(h:∀b o,H b=some o->(∀ks,o≠.dK ks)->(∀ob ks,o≠.frz ob (.dK ks))->H' b=some o){a:Addr}{vs:List V}(t:TupAt K (fun _=>False) H a vs):TupAt K (fun _=>False) H' a vs:=by
 rcases t with⟨n,t|⟨o,t⟩⟩|t
 .exact .inl ⟨n,.inl (h _ _ t (fun _ z=>nomatch z) (fun _ _ z=>nomatch z))⟩
 .exact .inl ⟨n,.inr ⟨o,h _ _ t (fun _ z=>nomatch z) (fun _ _ z=>nomatch z)⟩⟩
 .exact .inr t
mutual
theorem Rep.keep{H H':Hp}(h:∀b o,H b=some o->(∀ks,o≠.dK ks)->(∀ob ks,o≠.frz ob (.dK ks))->H' b=some o):∀{v:V}{d:PyData},Rep K (fun _=>False) H v d->bD d=true->Rep K (fun _=>False) H' v d
 |_,_,.non,_=>.non
 |_,_,.bl b,_=>.bl b
 |_,_,.int i,_=>.int i
 |_,_,.str x,_=>.str x
 |_,_,.tup t r,e=>.tup (t.keep h) (Reps.keep h r (by simpa[bD] using e))
 |_,_,.lst t r,e=>by simp[bD] at e
 |_,_,.dct n t r,e=>by simp[bD] at e
theorem Reps.keep{H H':Hp}(h:∀b o,H b=some o->(∀ks,o≠.dK ks)->(∀ob ks,o≠.frz ob (.dK ks))->H' b=some o):∀{vs:List V}{ds:List PyData},Reps K (fun _=>False) H vs ds->eO ds=true->Reps K (fun _=>False) H' vs ds
 |_,_,.nil,_=>.nil
 |_,_,.cons (d:=d) (ds:=ds) r t,e=>by
  have e':(bD d&&eO ds)=true:=by simpa[eO] using e
  rw[Bool.and_eq_true] at e';exact .cons (Rep.keep h r e'.1) (Reps.keep h t e'.2)
end
end
def jH:W->Option W
 |.d x=>some (.d x)
 |.loc x=>some (.d x)
 |.tp _=>none
def fE(ρ:Rho):Rho:=ρ.map fun o=>o.bind jH
def Fz(O:Addr->Prop)(H0 H:Hp):Prop:=∀b,H b=H0 b\/∃kvs o,O b/\H0 b=some (.dK kvs)/\H b=some (.frz o (.dK kvs))
section
variable {K:Frag}{O:Addr->Prop}{ts:List Addr}{H0 H:Hp}{T:Tp}{σ:L2.St}{ρ:Rho}
theorem AA(re:RelE K O ts H0 σ ρ)(fz:Fz O H0 H)(all:∀(j:Nat) (a:Addr) (ds:List (PyData×PyData)),ρ[j]? = some (some (.loc (.dict ds)))->σ[j]? = some (some (.ref a))->∃o kvs,H a=some (.frz o (.dK kvs))):RelE K (fun _=>False) [] H σ (fE ρ):=by
 have le:Le O H0 (fun _=>False) H:=fun b o n e=>⟨fun z=>z,by
  rcases fz b with q|⟨_,_,q,_,_⟩
  .rw[q];exact e
  .exact absurd q n⟩
 intro i w e;unfold fE at e;rw[List.getElem?_map] at e
 cases hu:ρ[i]? with
 |none=>rw[hu] at e;cases e
 |some u=>
  cases u with
  |none=>rw[hu] at e;cases e
  |some u=>
   rw[hu] at e;have e':jH u=some w:=Option.some.inj e;obtain⟨v,h1,h2⟩:=re i u hu
   cases u with
   |d x=>cases e';exact⟨v,h1,Rep.mono le h2⟩
   |tp k=>cases e'
   |loc x=>
    cases e';obtain⟨a,rfl,k1,k2,k3⟩:=h2;refine⟨_,h1,?_⟩
    cases x with
    |list xs=>
     obtain⟨vs,k3,k4⟩:=k3;refine .lst (.inl ⟨fun z=>z,.inl ?_⟩) (k4.mono le)
     rcases fz a with q|⟨_,_,_,q,_⟩
     .rw[q];exact k3
     .rw[k3] at q;cases q
    |dict ds=>
     obtain⟨kvs,k3,k4⟩:=k3;obtain⟨o,kvs',h3⟩:=all i a ds hu h1
     rcases fz a with q|⟨kvs2,o2,_,q,q2⟩
     .rw[q,k3] at h3;cases h3
     .rw[k3] at q
      cases q;exact .dct (fun z=>z) q2 (k4.mono le)
    |_=>cases k3
theorem kP{P:Hp->VK->Prop}{x:PyData}(hx:bD x=true)(re:RelE K O ts H0 σ ρ)(fin:∀H Q,RelE K (fun _=>False) [] H σ (fE ρ)->(∀v H2,SameX [] H H2->Rep K (fun _=>False) H2 v x->Q v H2)->P H Q):∀(k:Nat) {H:Hp}{Q:VK},Fz O H0 H ->
  (∀(j:Nat) (a:Addr) (ds:List (PyData×PyData)),k<=j->ρ[j]? = some (some (.loc (.dict ds)))->σ[j]? = some (some (.ref a))->∃o kvs,H a=some (.frz o (.dK kvs)))->(∀v H2,SameX [] H H2->Rep K (fun _=>False) H2 v x->Q v H2)->Ln P H Q
 |0,H,Q,fz,all,q=>.done (fin H Q (AA re fz fun j a ds=>all j a ds (Nat.zero_le _)) q)
 |k+1,H,Q,fz,all,q=>by
  by_cases h:∃ds,ρ[k]? = some (some (.loc (.dict ds)))
  .obtain⟨ds,h⟩:=h
   obtain⟨v,h1,a,rfl,k1,k2,kvs,k3,k4⟩:=re k _ h
   rcases fz a with z|⟨kvs2,o2,_,z,z2⟩
   .rw[k3] at z
    refine .frz z fun o=>kP hx re fin k (fun b=>?_) (fun j b es hj e1 e2=>?_) (fun v H2 s2 r=>?_)
    .by_cases hb:b=a
     .subst hb;exact .inr ⟨kvs,o,k1,k3,bG⟩
     .rw[aQ hb];exact fz b
    .by_cases hb:b=a
     .subst hb;exact⟨o,kvs,bG⟩
     .rw[aQ hb]
      by_cases hk:k=j
      .subst hk;rw[h1] at e2;cases e2;exact absurd rfl hb
      .exact all j b es (by omega) e1 e2
    .have ha:H2 a=some (.frz o (.dK kvs)):=s2 a _ (by simp) bG
     refine⟨ha,q v _ (fun b ob _ e=>?_) (Rep.keep (fun b ob e n1 n2=>?_) r hx)⟩
     .by_cases hb:b=a
      .subst hb;rw[z] at e;cases e;exact bG
      .rw[aQ hb]
       exact s2 b ob (by simp) (by rw[aQ hb];exact e)
     .have hb:b≠a:=fun z=>by subst z;rw[ha] at e;cases e;exact n2 _ _ rfl
      rw[aQ hb];exact e
   .refine kP hx re fin k fz (fun j b es hj e1 e2=>?_) q
    by_cases hk:k=j
    .subst hk;rw[h1] at e2;cases e2;exact⟨o2,kvs2,z2⟩
    .exact all j b es (by omega) e1 e2
  .refine kP hx re fin k fz (fun j b es hj e1 e2=>?_) q
   by_cases hk:k=j
   .subst hk;exact absurd ⟨es,e1⟩ h
   .exact all j b es (by omega) e1 e2
end
def f7(T:Tp)(o:Option (W×Tp)):Option (W×Tp):=match o with
 |some (.d x,_)=>if bD x=true then some (.d x,T) else none
 |_=>none
def eA(f:FE):FE:=fun ρ T=>f7 T (f (fE ρ) [])
theorem uf{X:Cx}{e:Expr}{f:FE}(he:DE X e f):DE X e (eA f):=by
 refine⟨br (E3 he.pe) fun σ H Q=>?_⟩;rintro⟨O,ts,ρ,T,w,T',hc,re,e,q⟩;unfold eA f7 at e;split at e
 .rename_i x T1 h1
  split at e
  .rename_i hx
   cases e;refine kP hx re (fun H1 Q1 re1 q1=>⟨fun _=>False,[],fE ρ,[],.d x,T1,⟨fun b hb=>(by cases hb),fun b hb=>hb.elim,List.nodup_nil,rfl,fun i a xs e1 _=>by simp at e1⟩,re1,h1,fun v H2 s2 _ r2=>q1 v H2 s2 r2⟩) ρ.length (fun b=>.inl rfl) (fun j a ds hj e1 _=>?_) (fun v H2 s2 r2=>?_)
   .rw[List.getElem?_eq_none hj] at e1;cases e1
   .have s2':SameX ts H H2:=fun b o _ q=>s2 b o (by simp) q
    have hm:∀b,O b->Mut (H2 b):=fun b hb=>(hc.trk b hb).to fun u z=>s2 b _ (by simp) z
    have hc2:=hc.step s2' fun b hb=>by
     obtain⟨u,z⟩:=(hc.trk b (hc.own b hb)).ex;rw[z];exact s2 b _ (by simp) z
    exact q v H2 s2' hc2 (Rep.own hm r2 hx)
  .cases e
 .cases e
section
variable {X:Cx}{pos:Pos}{e:Expr}{fe:FE}
def bV(i:Nat):FS:=fun ρ T=>some ((.nx,ρ.set i (some (.loc (.dict [])))),T)
theorem eL{i:Nat}{x:Str}{pos' dpos:Pos}(hN:X.N.Nodup)(hi:X.N[i]? = some x:=by rfl)(hx:Loc X.env.scope x:=by first|exact Or.inl rfl|exact Or.inr rfl)
  (hs:swapsWith (.Dict [] [] dpos) (some (.Name x pos')) pos.line X.env=pure false:=by rfl) (hf:X.fn x=true\/X.env.scope.names.lookup x=some .local:=by first|exact .inl rfl|exact .inr rfl|assumption):DS X (.Assign [.Name x pos'] (.Dict [] [] dpos) pos) (bV i):=by
 refine⟨?_⟩;refine cj (fX hN hi hx Ao hs hf) fun D σ H=>?_;rintro⟨O₀,H₀,F,ts,O,ρ,T,fl,ρ',T',rs,e,q⟩;cases e;intro p hp;exact q _ _ _ (rs.ownO hp (.inr (.inl ⟨_,rfl⟩)) fun le=>⟨[],bG,.nil⟩)
theorem yV:CallR X (.type "dict") (fun xs H Q=>∃a kvs,xs=[V.ref a]/\Rd H a (.dK kvs)/\∀p,H p=none->Q (.ref p) (upd H p (.dK kvs))):=by
 intro pins s σ H xs us Q I r h;obtain⟨a,kvs,rfl,ha,q⟩:=h;obtain⟨u,rfl,ru⟩:=vals1 r;cases ru;exact A7 I ha fun p s' hp I'=>⟨.ref p,_,I',rfl,q p hp⟩
def pj(o:Option PyData):Option (List (PyData×PyData)):=match o with
 |some (.dict ds)=>some ds
 |_=>none
def uv(i:Nat)(ρ:Rho)(o:Option (List (PyData×PyData)))(T:Tp):Option ((Fl×Rho)×Tp):=match o with
 |some ds=>some ((.nx,ρ.set i (some (.loc (.dict ds)))),T)
 |none=>none
def jz(i:Nat)(f:FE):FS:=fun ρ T=>bnd (f ρ T) fun w T1=>uv i ρ (pj (view T1 w)) T1
theorem CD{o:Option PyData}{ds:List (PyData×PyData)}(h:pj o=some ds):o=some (.dict ds):=by
 unfold pj at h;split at h
 .cases h;rfl
 .cases h
theorem sE{i:Nat}{x:Str}{p pos' cpos:Pos}(hm:X.mg "dict"=none)(hN:X.N.Nodup)(he:DE X e fe)(hi:X.N[i]? = some x:=by rfl)(hx:Loc X.env.scope x:=by first|exact Or.inl rfl|exact Or.inr rfl)(hg:Gl X "dict":=by rfl)
  (hse:starEach [e] X.env=(false,eval e X.env)::starEach [] X.env:=by exact bu rfl) (hpl:(backTo cpos (starEach [] X.env)).any (·.1)=false:=by exact cg rfl)
  (hs:swapsWith (.Call (.Name "dict" p) [e] [] cpos) (some (.Name x pos')) pos.line X.env=pure false:=by rfl) (hf:X.fn x=true\/X.env.scope.names.lookup x=some .local:=by first|exact .inl rfl|exact .inr rfl|assumption) :
  DS X (.Assign [.Name x pos'] (.Call (.Name "dict" p) [e] [] cpos) pos) (jz i fe):=by
 refine⟨?_⟩;refine cj (fX hN hi hx (l9 yV hg hm boot_dict (cx he.pe cX hse) (by decide) (by decide) hse hpl) hs hf) fun D σ H=>?_;rintro⟨O₀,H₀,F,ts,O,ρ,T,fl,ρ',T',rs,e,q⟩;obtain⟨w,T1,e1,e⟩:=aL e;unfold uv at e;split at e
 .rename_i ds hd
  cases e;have hv:=CD hd;refine⟨O,ts,ρ,T,w,_,rs.hc,rs.re,e1,fun v H1 s1 hc1 r1=>?_⟩;obtain⟨a,kvs,rfl,t,r⟩:=(hc1.view r1 hv).dct;exact⟨a,kvs,rfl,t,fun p hp=>q _ _ _ ((rs.step s1 hc1).ownO (xs:=.dict ds) hp (.inr (.inl ⟨_,rfl⟩)) fun le=>⟨kvs,bG,r.mono le⟩)⟩
 .cases e
def putN(ds:List (PyData×PyData))(s:Str)(x:PyData):List (PyData×PyData):=if (aO ds s).isSome=true then cW ds s x else ds++[(.str s,x)]
theorem RepK.app{K:Frag}{O:Addr->Prop}{H:Hp}{s:Str}{v:V}{x:PyData}(rx:Rep K O H v x):∀{kvs:List (Key×V)}{ds:List (PyData×PyData)},RepK K O H kvs ds->RepK K O H (kvs++[(Sum.inr s,v)]) (ds++[(.str s,x)])
 |_,_,.nil=>.cons (k:=Sum.inr s) rx .nil
 |_,_,.cons r t=>.cons r (RepK.app rx t)
theorem BB{K:Frag}{O:Addr->Prop}{H:Hp}{s:Str}{v:V}{x:PyData}(rx:Rep K O H v x){kvs:List (Key×V)}{ds:List (PyData×PyData)}(r:RepK K O H kvs ds):RepK K O H (putK kvs (Sum.inr s) v) (putN ds s x):=by
 unfold putN
 rcases d9 (s:=s) r with⟨z1,z2⟩|⟨v',d',z1,z2,_⟩
 .rw[z1,if_neg (by simp),Af v z2]
  exact r.app rx
 .rw[z1,if_pos (show (some d').isSome=true by rfl)]
  have hany:(kvs.any fun kv=>decide (kv.1=(Sum.inr s:Key)))=true:=qM (by rw[z2];rfl);unfold putK;rw[if_pos hany];exact ko rx r
def lB(i:Nat)(ρ:Rho)(ds:List (PyData×PyData))(w k:W)(T:Tp):Option ((Fl×Rho)×Tp):=match w,k with
 |.d x,.d (.str s)=>if ds.length<=1000 then some ((.nx,ρ.set i (some (.loc (.dict (putN ds s x))))),T) else none
 |_,_=>none
def lA(i:Nat)(fk:FE)(ρ:Rho)(w:W)(T:Tp)(o:Option (Option W)):Option ((Fl×Rho)×Tp):=match o with
 |some (some (.loc (.dict ds)))=>bnd (fk ρ T) (lB i ρ ds w)
 |_=>none
def bj(i:Nat)(fk fv:FE):FS:=fun ρ T=>bnd (fv ρ T) fun w T1=>lA i fk ρ w T1 ρ[i]?
theorem cQ{i:Nat}{x:Str}{kx:Expr}{fk fv:FE}{p pos':Pos}{k:Nat}(hr:Room k X.A)(hk:DE X kx fk)(he:DE X e fv)(hN:X.N[i]? = some x:=by rfl)(hv:Vis X.env.scope x:=by first|exact Or.inl rfl|exact Or.inr (Or.inl rfl)|exact Or.inr (Or.inr rfl))(hd:(x == ("__debug__" : Str))=false:=by decide)
  (hcd:(x == ("__classdict__" : Str))=false:=by decide) (hs:swapsWith e (some (.Subscript (.Name x p) kx pos')) pos.line X.env=pure false:=by rfl):DS X (.Assign [.Subscript (.Name x p) kx pos'] e pos) (bj i fk fv):=by
 refine⟨?_⟩;refine cj (tF (gc hr) (pv i hN hv hd hcd) hk.pe he.pe hs) fun D σ H=>?_;rintro⟨O₀,H₀,F,ts,O,ρ,T,fl,ρ',T',rs,e,q⟩;obtain⟨w,T1,e1,e⟩:=aL e;refine⟨O,ts,ρ,T,w,T1,rs.hc,rs.re,e1,fun v H1 s1 hc1 r1=>?_⟩;have rs1:=rs.step s1 hc1;unfold lA at e;split at e
 .rename_i ds c3
  obtain⟨wk,T3,e3,e⟩:=aL e;unfold lB at e;split at e
  .rename_i xv s _
   split at e
   .rename_i c2
    cases e;obtain⟨u,k1,a,rfl,k2,k3,kvs,k4,k5⟩:=rs1.re i _ c3;refine⟨_,k1,O,ts,ρ,T1,_,_,rs1.hc,rs1.re,e3,fun y H3 s3 hc3 r3=>?_⟩;have rs3:=rs1.step s3 hc3;cases (show Rep X.K O H3 y (.str s) from r3);have k4':H3 a=some (.dK kvs):=s3 _ _ k3 k4;have k5':RepK X.K O H3 kvs ds:=k5.mono (hc1.le s3)
    have hlen:kvs.length<sizeLine:=by
     rw[mz k5'];exact Nat.lt_of_le_of_lt c2 (by decide)
    have rx:Rep X.K O H3 v xv:=RepW.mono (w:=.d xv) r1 hc1 s3;refine⟨a,_,rfl,DPut.k (k:=(Sum.inr s:Key)) k4' hlen,?_⟩;exact q O σ _ (rs3.putO c3 k1 (.inr (.inl ⟨_,rfl⟩)) fun le=>⟨_,bG,BB (Rep.mono le rx) (k5'.mono le)⟩)
   .cases e
  .cases e
 .cases e
end
def vY(n:Nat):W->Option W
 |.tp k=>if k<n then some (.tp k) else none
 |w=>some w
def iO(n:Nat)(ρ:Rho):Rho:=ρ.map fun o=>o.bind (vY n)
def iw(n:Nat)(o:Option ((Fl×Rho)×Tp)):Option ((Fl×Rho)×Tp):=match o with
 | some ((fl,ρ'),T3)=>(match jI T3 with
  |some (T4,_)=>if T4.length=n then some ((fl,iO n ρ'),T4) else none
  | none=>none)
 |none=>none
def openK(i:Nat)(fr:FS)(ρ:Rho)(o:Option (List PyData))(T1:Tp):Option ((Fl×Rho)×Tp):=match o with
 |some xs=>if xs.length<=1000 then iw T1.length (fr (ρ.set i (some (.tp T1.length))) (T1++[xs])) else none
 |none=>none
def jA(i:Nat)(g:FA)(fr:FS):FS:=fun ρ T=>bnd (g ρ T) fun ws T1=>openK i fr ρ (dA ws) T1
section
variable {K:Frag}{O₀:Addr->Prop}{H₀:Hp}{F:List ((Addr->Prop)×Hp)}{ts:List Addr}{O:Addr->Prop}{H:Hp}{σ:L2.St}{ρ:Rho}{T:Tp}
theorem RS.openR{i:Nat}{p:Addr}{vs:List V}{xs:List PyData}(r:RS K O₀ H₀ F ts O H σ ρ T)(hp:H p=none)(rv:Reps K O H vs xs) :
  RS K (fun b=>O₀ b\/b=p) H₀ F (ts++[p]) (fun b=>O b\/b=p) (upd H p (.lst vs)) (σ.set i (some (.ref p))) (ρ.set i (some (.tp T.length))) (T++[xs]):=by
 have nO:=r.hc.fresh hp;have nt:p∉ts:=fun z=>nO (r.hc.own _ z)
 have le:Le O H (fun b=>O b\/b=p) (upd H p (.lst vs)):=fun a o n e=>by
  have z1:a≠p:=cV e hp;exact⟨fun q=>q.elim n z1,by rw[aQ z1];exact e⟩
 have hw:∀ys,W.tp T.length≠.loc ys:=fun _ z=>nomatch z
 refine⟨⟨fun b hb=>?_,fun b hb=>?_,?_,by simp[r.hc.len],fun j b zs q1 q2=>?_⟩,fun j w e=>?_,fun b hb=>hb.elim (fun z=>.inl (r.sub b z)) .inr,fun b hb=>?_,fun b o n e=>?_,fun j xs a e1 e2=>?_,fun j k xs ys v e1 e2 e3 e4=>?_,fun f hf=>(r.frs f hf).trans le,by simp[r.len]⟩
 .rcases List.mem_append.mp hb with z|z
  .exact .inl (r.hc.own b z)
  .exact .inr (List.mem_singleton.mp z)
 .by_cases z:b=p
  .rw[z,bG];exact .inl ⟨_,rfl⟩
  .rw[aQ z];exact r.hc.trk b (hb.resolve_right z)
 .rw[List.nodup_append]
  exact⟨r.hc.nd,by simp,fun b hb c hc z=>nt (by rw[←List.mem_singleton.mp hc,←z];exact hb)⟩
 .by_cases hj:j<ts.length
  .rw[List.getElem?_append_left hj] at q1
   rw[List.getElem?_append_left (by rw[←r.hc.len];exact hj)] at q2;exact(r.hc.tape j b zs q1 q2).mono (fun o h1=>by rw[aQ (cV h1 hp)];exact h1) le
  .have hj2:j=ts.length:=by
    have:=(List.getElem?_eq_some_iff.mp q1).1;simp at this;omega
   subst hj2
   have e1:b=p:=by simpa using q1.symm
   have e2:zs=xs:=by rw[r.hc.len] at q2;simpa using q2.symm
   subst e1 e2;exact .inl ⟨rv.notO,vs,bG,rv.mono le⟩
 .by_cases z:i=j
  .subst z
   have hl:i<ρ.length:=by
    have:=(List.getElem?_eq_some_iff.mp e).1;simpa using this
   rw[List.getElem?_set_self hl] at e;cases e;exact⟨.ref p,by rw[List.getElem?_set_self (by rw[r.len];exact hl)],p,by rw[←r.hc.len];simp,rfl⟩
  .rw[List.getElem?_set_ne z] at e
   obtain⟨x,h1,h2⟩:=r.re j w e;refine⟨x,by rw[List.getElem?_set_ne z];exact h1,?_⟩
   cases w with
   |d y=>exact Rep.mono le h2
   |tp k=>
    obtain⟨a,k1,k2⟩:=h2;exact⟨a,by rw[List.getElem?_append_left (List.getElem?_eq_some_iff.mp k1).1];exact k1,k2⟩
   |loc ys=>
    obtain⟨a,e1,m1,m2,m3⟩:=h2;have na:a≠p:=fun z=>nO (z ▸ m1);refine⟨a,e1,.inl m1,fun z=>?_,m3.mono (fun o' q=>by rw[aQ na];exact q) le⟩
    rcases List.mem_append.mp z with z|z
    .exact m2 z
    .exact na (List.mem_singleton.mp z)
 .rcases List.mem_append.mp hb with z|z
  .exact .inl (r.ots b z)
  .exact .inr (List.mem_singleton.mp z)
 .have nb:b∉ts:=fun z=>n (List.mem_append_left _ z)
  have e1:=r.same b o nb e;rw[aQ (cV e1 hp)];exact e1
 .obtain⟨n,e⟩:=fm hw e1
  rw[List.getElem?_set_ne (Ne.symm n)] at e2;obtain⟨f1,f2⟩:=r.fresh j xs a e e2;refine⟨f1,fun z=>z.elim f2 fun z=>?_⟩;obtain⟨v,h1,a',ea,m1,_⟩:=r.re j _ e;rw[e2] at h1;cases h1;cases ea;exact nO (z ▸ m1)
 .obtain⟨n1,e1⟩:=fm hw e1
  obtain⟨n2,e2⟩:=fm hw e2;rw[List.getElem?_set_ne (Ne.symm n1)] at e3;rw[List.getElem?_set_ne (Ne.symm n2)] at e4;exact r.dist j k xs ys v e1 e2 e3 e4
theorem RS.closeR{p:Addr}{row:List PyData}(ots:∀b∈ts,O₀ b)(nt:p∉ts)(h0:H₀ p=none)(n0:¬O₀ p)(r:RS K (fun b=>O₀ b\/b=p) H₀ F (ts++[p]) O H σ ρ (T++[row])):RS K O₀ H₀ F ts O H σ (iO T.length ρ) T:=by
 have lenT:ts.length=T.length:=by have:=r.hc.len;simp at this;exact this
 have at_:∀{j:Nat}{w:W},(iO T.length ρ)[j]? = some (some w)->ρ[j]? = some (some w)/\∀k,w=.tp k->k<T.length:=fun {j w} e=>by
  unfold iO at e;rw[List.getElem?_map] at e
  cases hu:ρ[j]? with
  |none=>rw[hu] at e;cases e
  |some u=>
   cases u with
   |none=>rw[hu] at e;cases e
   |some u=>
    rw[hu] at e;have e':vY T.length u=some w:=Option.some.inj e
    cases u with
    |d x=>cases e';exact⟨rfl,fun k z=>nomatch z⟩
    |loc x=>cases e';exact⟨rfl,fun k z=>nomatch z⟩
    |tp k=>
     have e2:(if k<T.length then some (W.tp k) else none)=some w:=e';split at e2
     .rename_i hk
      cases e2;exact⟨rfl,fun k' z=>by cases z;exact hk⟩
     .cases e2
 refine⟨⟨fun b hb=>r.hc.own b (List.mem_append_left _ hb),r.hc.trk,(List.nodup_append.mp r.hc.nd).1,lenT,fun j b zs q1 q2=>?_⟩,fun j w e=>?_,fun b hb=>r.sub b (.inl hb),ots,fun b o n e=>?_,fun j xs a e1 e2=>?_,fun j k xs ys v e1 e2 e3 e4=>?_,r.frs,by simp[iO,r.len]⟩
 .have hj:j<ts.length:=(List.getElem?_eq_some_iff.mp q1).1
  exact r.hc.tape j b zs (by rw[List.getElem?_append_left hj];exact q1) (by rw[List.getElem?_append_left (by rw[←lenT];exact hj)];exact q2)
 .obtain⟨e1,hk⟩:=at_ e
  obtain⟨v,h1,h2⟩:=r.re j w e1;refine⟨v,h1,?_⟩
  cases w with
  |d x=>exact h2
  |tp k=>
   obtain⟨a,k1,k2⟩:=h2;have:=hk k rfl;exact⟨a,by rw[List.getElem?_append_left (by rw[lenT];exact this)] at k1;exact k1,k2⟩
  |loc x=>
   obtain⟨a,k1,k2,k3,k4⟩:=h2;exact⟨a,k1,k2,fun z=>k3 (List.mem_append_left _ z),k4⟩
 .refine r.same b o (fun z=>?_) e
  rcases List.mem_append.mp z with z|z
  .exact n z
  .rw[List.mem_singleton.mp z,h0] at e;cases e
 .obtain⟨f1,f2⟩:=r.fresh j xs a (at_ e1).1 e2
  exact⟨f1,fun z=>f2 (.inl z)⟩
 .exact r.dist j k xs ys v (at_ e1).1 (at_ e2).1 e3 e4
end
section
variable {X:Cx}{pos:Pos}{rest:List Stmt}{fr:FS}
theorem BW{i:Nat}{p:Addr}{vs:List V}{xs:List PyData}{D:Ends}{O₀:Addr->Prop}{H₀:Hp}{F:List ((Addr->Prop)×Hp)}{ts:List Addr}{O:Addr->Prop}{H:Hp}{σ:L2.St}{ρ:Rho}{T:Tp}{fl:Fl}{ρ':Rho}{T':Tp}
  (rs:RS X.K O₀ H₀ F ts O H σ ρ T) (hp:H p=none) (rv:Reps X.K O H vs xs) (e:iw T.length (fr (ρ.set i (some (.tp T.length))) (T++[xs]))=some ((fl,ρ'),T')) (q:v8 X.K O₀ H₀ F ts D ρ' T' fl):oG X.K fr D (σ.set i (some (.ref p))) (upd H p (.lst vs)):=by
 have nO:=rs.hc.fresh hp;have nt:p∉ts:=fun z=>nO (rs.hc.own _ z)
 have h0:H₀ p=none:=by
  cases e:H₀ p with
  |none=>rfl
  |some o=>rw[rs.same p o nt e] at hp;cases hp
 have n0:¬O₀ p:=fun z=>nO (rs.sub p z);have rs1:=rs.openR (i:=i) hp rv;generalize hE:fr (ρ.set i (some (.tp T.length))) (T++[xs])=E at e;unfold iw at e;split at e
 .rename_i fl1 ρ1 T3
  split at e
  .rename_i T4 row hT
   split at e
   .rename_i hlen
    have eT:=AG hT;subst eT;cases e;have lb:∀{G:Hp},Le (fun b=>O₀ b\/b=p) G O₀ G:=fun a o n e=>⟨fun z=>n (.inl z),e⟩
    have lenB:∀{G:Hp}{B:Addr->Prop},HC X.K B (ts++[p]) G (T'++[row])->ts.length=T'.length:=fun h=>by have:=h.len;simp at this;exact this
    have sameB:∀{G:Hp},SameX (ts++[p]) H₀ G->SameX ts H₀ G:=fun s b o n e=>s b o (fun z=>by
     rcases List.mem_append.mp z with z|z
     .exact n z
     .rw[List.mem_singleton.mp z,h0] at e;cases e) e
    refine⟨_,H₀,F,ts++[p],_,_,_,fl,ρ1,T'++[row],rs1,hE,?_⟩;have lenE:T.length=T'.length:=hlen.symm
    cases fl with
    |nx=>exact fun O' σ' H' r=>q O' σ' H' (by rw[lenE];exact RS.closeR rs.ots nt h0 n0 r)
    |bk=>exact fun O' σ' H' r=>q O' σ' H' (by rw[lenE];exact RS.closeR rs.ots nt h0 n0 r)
    |ct=>exact fun O' σ' H' r=>q O' σ' H' (by rw[lenE];exact RS.closeR rs.ots nt h0 n0 r)
    |rt y=>
     intro v H' s1 c1 r1;refine q v H' (sameB s1) ⟨rs.ots,fun b hb=>c1.trk b (.inl hb),rs.hc.nd,lenB c1,fun j b zs q1 q2=>?_⟩ (Rep.mono lb r1);have hj:j<ts.length:=(List.getElem?_eq_some_iff.mp q1).1;exact(c1.tape j b zs (by rw[List.getElem?_append_left hj];exact q1) (by rw[List.getElem?_append_left (by rw[←lenB c1];exact hj)];exact q2)).mono (fun _ h=>h) lb
    |ro y=>
     intro A v H' s1 hA c1 o1;have lb2:Le (fun b=>(O₀ b\/b=p)\/A b) H' (fun b=>O₀ b\/A b) H':=fun b o n e=>⟨fun z=>n (z.elim (fun z=>.inl (.inl z)) .inr),e⟩;refine q A v H' (sameB s1) (fun b hb=>⟨(hA b hb).1,fun z=>(hA b hb).2 (.inl z)⟩) ⟨fun b hb=>.inl (rs.ots b hb),fun b hb=>c1.trk b (hb.elim (fun z=>.inl (.inl z)) .inr),rs.hc.nd,lenB c1,fun j b zs q1 q2=>?_⟩ (OwnV.mono lb2 o1);have hj:j<ts.length:=(List.getElem?_eq_some_iff.mp q1).1;exact(c1.tape j b zs (by rw[List.getElem?_append_left hj];exact q1) (by rw[List.getElem?_append_left (by rw[←lenB c1];exact hj)];exact q2)).mono (fun _ h=>h) lb2
   .cases e
  .cases e
 .cases e
theorem zN{i:Nat}{x:Str}{pos' lpos:Pos}{es:List Expr}{g:FA}(hN:X.N.Nodup)(he:DA X es g)(hrest:DSs X rest fr)(hi:X.N[i]? = some x:=by rfl)(hx:Loc X.env.scope x:=by first|exact Or.inl rfl|exact Or.inr rfl)
  (hs:swapsWith (.List es lpos) (some (.Name x pos')) pos.line X.env=pure false:=by rfl) (hf:X.fn x=true\/X.env.scope.names.lookup x=some .local:=by first|exact .inl rfl|exact .inr rfl|assumption):DSs X (.Assign [.Name x pos'] (.List es lpos) pos::rest) (jA i g fr):=by
 refine⟨?_⟩;refine mY (rW (fX hN hi hx (nU he.pe) hs hf) hrest.pe) fun D σ H=>?_;rintro⟨O₀,H₀,F,ts,O,ρ,T,fl,ρ',T',rs,e,q⟩;obtain⟨ws,T1,e1,e⟩:=aL e;refine⟨O,ts,ρ,T,ws,T1,rs.hc,rs.re,e1,fun vs H1 s1 hc1 r1=>?_⟩;unfold openK at e;split at e
 .rename_i xs h1
  split at e
  .rename_i h2
   have rv:=jd r1 h1;exact⟨kQ (by rw[rv.length];exact h2),fun p hp=>BW (rs.step s1 hc1) hp rv e q⟩
  .cases e
 .cases e
end
theorem zM:entryFor table "dict_itemiterator.__iter__"=some PySem.Builtin.«dict_keyiterator.__iter__»:=by kernel_rfl
theorem yz(v:Value):Meets (PySem.Builtin.«dict_keyiterator.__iter__» { pos:=[v] }) (fun _ R s=>R (.ok (.ret v)) s):=by
 intro prog w A R s h;unfold PySem.Builtin.«dict_keyiterator.__iter__»;refine wpAny_bind ?_;unfold slotArgs;simp only[];rw[if_neg (by simp),if_neg (by simp)];exact wpAny_pure (wpAny_pure h)
def Iti(a:Addr)(o:Obj)(kvs:List (Key×V)):It:=⟨fun i H=>H a=some (.frz o (.dK kvs))/\i<kvs.length,fun i H x H'=>∃p k v,H p=none/\kvs[i]? = some (k,v)/\x=.ref p/\H'=upd H p (.tup [kV k,v]),fun i H=>H a=some (.frz o (.dK kvs))/\i=kvs.length⟩
theorem D5{kvs:List (Key×V)}{vs:List (Key×Value)}:∀{i:Nat},KV kvs vs->i<kvs.length->∃k v u,kvs[i]? = some (k,v)/\vs[i]? = some (k,u)/\RelV v u:=by
 intro i r h
 induction r generalizing i with
 |nil=>simp at h
 |cons r1 r2 ih=>
  cases i with
  |zero=>
   rename_i p q _ _;refine⟨p.1,p.2,q.2,rfl,?_,r1.2⟩;rw[r1.1];rfl
  |succ i=>
   obtain⟨k,v,u,h1,h2,h3⟩:=ih (i:=i) (by simpa using h);exact⟨k,v,u,by simpa using h1,by simpa using h2,h3⟩
theorem ym{P:Program}{w:World}{K:Frag}{elts:List Expr}{x1:Nat}{tpos:Pos}(a it:Addr)(o:Obj)(kvs:List (Key×V)) :
  Turn P w K (.Tuple elts x1 tpos) (Iti a o kvs) [it] it (fun i h=>∃ok ov,IsItemIter h it a i kvs.length (gm o) ok ov) where
 mem:=by simp
 obj:=fun i h st b hb=>by
  have e:b=it:=by simpa using hb
  subst e;obtain⟨ok,ov,st⟩:=st
  exact⟨_,st,fun v z=>by
   have z':Data.fields _=Data.cell v:=z
   cases z'⟩
 keep:=fun i h h' ⟨ok,ov,st⟩ k=>⟨ok,ov,k it (by simp) _ st⟩
 item:=by
  intro X hP hw hK hc i pins s σ H E I hf st hg;subst hP hw hK;obtain⟨ok,ov,st⟩:=st;obtain⟨hg1,hg2⟩:=hg;obtain⟨z,y,vs,kv,dd⟩:=gz I.hok hg1;obtain⟨f0,f1,f2,f3,f4,f5⟩:=hf it (by simp);have hl:=kv.length;obtain⟨k,v0,u0,q1,q2,q3⟩:=D5 kv hg2;rw[hl] at st;refine wpAny_pyNext_items_item (knd:=bF X.prog X.w) st dd q2 fun key h' hk st' hT hsz hkeep=>?_;refine⟨.ref s.heap.objs.size,rfl,wpAny_letOwnedTupleGo_items st' fun h'' st'' hsb=>?_⟩;have hit:it<s.heap.objs.size:=Heap.lt_size st;have hne:s.heap.objs.size≠it:=Nat.ne_of_gt hit;have hn:H s.heap.objs.size=none:=I.hok.fresh (Nat.le_refl _);have T1:IsTup (s.heap.push { cls:=.type "tuple",data:=.seq #[key,u0] }) s.heap.objs.size #[key,u0]:=IsTup.new ..
  have I1:Inv X pins σ (upd H s.heap.objs.size (.tup [kV k,v0])) { s with heap:=s.heap.push { cls:=.type "tuple",data:=.seq #[key,u0] } }:=
   I.laid (t':=s.toks) (o:=.tup [kV k,v0]) (fun b ob e=>Heap.get?_push_of_some _ e) (Nat.le_refl _) ⟨by show 2<=sizeLine;decide,[key,u0],.cons (keyV hk) (.cons q3 .nil),T1⟩
  have K:∀b ob,b≠it->(s.heap.push { cls:=.type "tuple",data:=.seq #[key,u0] }).get? b=some ob->h''.get? b=some ob:=fun b ob hb e=>by
   by_cases hbs:b=s.heap.objs.size
   .subst hbs
    rw[Heap.get?_push_size _ (by rfl)] at e;cases e;exact(hsb.2 _ hb).trans hT
   .have e0:s.heap.get? b=some ob:=by
     rw[←Heap.get?_push_ne _ _ _ hbs];exact e
    exact(hsb.2 b hb).trans (hkeep b ob hb e0)
  have I2:Inv X pins σ (upd H s.heap.objs.size (.tup [kV k,v0])) { s with heap:=h'' }:=Inv.turned (s:={ s with heap:=s.heap.push { cls:=.type "tuple",data:=.seq #[key,u0] } }) (t':=s.toks) (h':=h'') (it:=it) I1 K (by rw[aQ (Ne.symm hne)];exact f0) f1 f3 f4 f5;refine⟨.ref s.heap.objs.size,_,I2,rfl,⟨s.heap.objs.size,k,v0,hn,q1,rfl,rfl⟩,⟨_,_,by rw[hl];exact st''⟩,fun b hb=>?_⟩
  have e:b=it:=by simpa using hb
  subst e;rw[aQ (Ne.symm hne)];exact f0
 done:=by
  intro X hP hw hK hc i pins s σ H E I hf st hg;subst hP hw hK;obtain⟨ok,ov,st⟩:=st;obtain⟨hg1,hg2⟩:=hg;obtain⟨z,y,vs,kv,dd⟩:=gz I.hok hg1;obtain⟨f0,f1,f2,f3,f4,f5⟩:=hf it (by simp);have hl:=kv.length;rw[hl] at st;exact wpAny_pyNext_items_end (knd:=bF X.prog X.w) (I.ok.hd hc) st dd (by rw[List.getElem?_eq_none_iff];omega) fun h' eb=>⟨rfl,I.turned (t':=s.toks) (fun b ob hb e=>eb b ob hb e) f0 f1 f3 f4 f5⟩
 self:=fun A i s Q E ⟨ok,ov,st⟩ h=>by
  have ty:s.TypeIs (.ref it) "dict_itemiterator":=⟨_,st,rfl⟩;refine wpAny_pyIter_slot ty PySem.F.slot_dict_itemiterator_iter ?_;exact call_meets PySem.F.slot_dict_itemiterator_iter ty zM (PySem.F.args_dict_itemiterator_iter_1 _) (yz _) ⟨"dict_itemiterator",_,ty,PySem.F.slot_dict_itemiterator_next.lookup,h⟩
section
variable {X:Cx}{pos:Pos}
def Ed(tl:TE):TI:=fun σ H R=>tl σ H fun x H1=>∃a o kvs,x=.ref a/\H1 a=some (.frz o (.dK kvs))/\(kvs.length<=sizeLine->R (Iti a o kvs) H1)
theorem Ak{ob:Expr}{tl:TE}{elts:List Expr}{x1:Nat}{tpos apos cpos:Pos}(ho:PE X ob tl)(hbase:attributeBase ob "items" X.env (eval ob X.env)=eval ob X.env:=by rfl)(hline:(apos.endLine == cpos.line)=true:=by rfl) :
  PI X (.Tuple elts x1 tpos) (.Call (.Attribute ob "items" apos) [] [] cpos) (Ed tl):=by
 intro pins s σ H R I h;refine wpAny_Call_method0_late hbase hline (thn (ho pins s σ H _ I h) fun v s1 ⟨x,H1,I1,r1,a,o,kvs,ex,ha,q⟩=>?_);subst ex;cases (show v=Value.ref a from r1);obtain⟨z,y,vs,kv,dd⟩:=gz I1.hok ha;have dOf:=dd.dictOf;obtain⟨od,_,_,eo,ex,_⟩:=id dOf;refine⟨"dict","dict.items",PySem.F.plainAttrs_dict,PySem.F.slot_dict_items,PySem.F.type_dict_items,⟨od,eo,ex.1⟩,fun b e2=>by cases e2;exact⟨od,eo,ex.2.1⟩,Calls.callWith_builtin rfl (PySem.evalArgs_none ?_)⟩;refine call_meetsIn PySem.F.slot_dict_items ⟨od,eo,ex.1⟩ PySem.F.entry_dict_items (PySem.F.args_dict_items_1 _) (meets_dict_items (bF X.prog X.w) a y) ⟨⟨vs,dOf⟩,?_⟩;have I2:Inv X pins σ H1 { s1 with heap:=s1.heap.push { cls:=.type "dict_items",data:=.fields #[.ref a] } }:=I1.kept (t':=s1.toks) fun b ob e=>Heap.get?_push_of_some _ e;obtain⟨z2,y2,vs2,kv2,dd2⟩:=gz I2.hok ha;refine wpAny_pyIter_items (knd:=bF X.prog X.w) (kvs:=vs2) (ep:=gm o) ⟨_,Heap.get?_push_size _ (by rfl),rfl,rfl⟩ dd2 ?_
 have fk:∀b∈[(s1.heap.push { cls:=.type "dict_items",data:=.fields #[.ref a] }).objs.size],dC X pins H1 b:=fun b hb=>by
  have e:b=(s1.heap.push { cls:=.type "dict_items",data:=.fields #[.ref a] }).objs.size:=List.mem_singleton.mp hb;subst e;exact I2.fpOk (Nat.le_refl _) (I2.hok.fresh (Nat.le_refl _))
 exact⟨_,[_],_,_,H1,rfl,I2.kept (t':=s1.toks) fun b ob e=>Heap.get?_push_of_some _ e,ym a _ o kvs,⟨.none,.none,by rw[kv2.length];exact Heap.get?_push_size _ (by rfl)⟩,fk,q z⟩
def eU(i j:Nat)(body:FS):List (PyData×PyData)->FS
 |[]=>aH
 |d::r=>fun ρ T=>bnd (body ((ρ.set i (some (.d d.1))).set j (some (.d d.2))) T) fun p T1=>match p with
  |(.nx,ρ1)=>eU i j body r ρ1 T1
  |(.ct,ρ1)=>eU i j body r ρ1 T1
  |(.bk,ρ1)=>some ((.nx,ρ1),T1)
  |(.rt x,ρ1)=>some ((.rt x,ρ1),T1)
  |(.ro x,ρ1)=>some ((.ro x,ρ1),T1)
def vU(i j:Nat)(body:FS)(ρ:Rho)(w:W)(T:Tp):Option ((Fl×Rho)×Tp):=match w with
 |.d (.dict ds)=>eU i j body ds ρ T
 |_=>none
def jP(i j:Nat)(f:FE)(body:FS):FS:=fun ρ T=>bnd (f ρ T) (vU i j body ρ)
theorem tj{K:Frag}{O:Addr->Prop}{H:Hp}:∀{kvs:List (Key×V)}{ds:List (PyData×PyData)}{i:Nat}{k:Key}{v:V},RepK K O H kvs ds->kvs[i]? = some (k,v)->∃d,ds[i]? = some (c4 k,d)/\Rep K O H v d
 |_,_,_,_,_,.nil,e=>by simp at e
 |_,_,0,_,_,.cons r _,e=>by simp at e;obtain⟨rfl,rfl⟩:=e;exact⟨_,rfl,r⟩
 |_,_,i+1,k,v,.cons _ t,e=>by
  obtain⟨d,h1,h2⟩:=tj (i:=i) t (by simpa using e);exact⟨d,by simpa using h1,h2⟩
theorem t7{i j:Nat}{x y:Str}{ob:Expr}{f:FE}{g:FS}{body:List Stmt}{k:Nat}{px py tpos apos cpos:Pos}(hN:X.N.Nodup)(ho:DE X ob f)(hb:DSs X body g)(hi:X.N[i]? = some x:=by rfl)(hj:X.N[j]? = some y:=by rfl)(hx:Loc X.env.scope x:=by first|exact Or.inl rfl|exact Or.inr rfl)(hy:Loc X.env.scope y:=by first|exact Or.inl rfl|exact Or.inr rfl)
  (hf:X.fn x=true\/X.env.scope.names.lookup x=some .local:=by first|exact .inl rfl|exact .inr rfl|assumption) (hf':X.fn y=true\/X.env.scope.names.lookup y=some .local:=by first|exact .inl rfl|exact .inr rfl|assumption) (hp:PassesOwn (model X.prog X.w) X.A X.env X.xe:=by exact PassesOwn.never) (hc:X.calm=true:=by rfl)
  (hbase:attributeBase ob "items" X.env (eval ob X.env)=eval ob X.env:=by rfl) (hline:(apos.endLine == cpos.line)=true:=by rfl) (hs:∀v,foldedSetIterable (.Call (.Attribute ob "items" apos) [] [] cpos) X.env v=pure v:=by intro _;rfl) :
  DS X (.For (.Tuple [.Name x px,.Name y py] k tpos) (.Call (.Attribute ob "items" apos) [] [] cpos) body [] pos) (jP i j f g):=by
 refine⟨?_⟩;refine cj (uB hp hc (Ak ho.pe hbase hline) (Dq hc (ip (gC hN hi hx hf) (ip (gC hN hj hy hf') tG))) hb.pe hs) fun D σ H=>?_;rintro⟨O₀,H₀,F,ts,O,ρ,T,fl,ρ',T',rs,e,q⟩;obtain⟨w,T1,e1,e⟩:=aL e;unfold vU at e;split at e
 .rename_i ds
  refine⟨O,ts,ρ,T,_,T1,rs.hc,rs.re,e1,fun v H1 s1 hc1 r1=>?_⟩;have r1':Rep X.K O H1 v (.dict ds):=r1
  cases r1' with
  |@dct a o kvs _ nO ha rk=>
   refine⟨a,o,kvs,rfl,ha,fun hz=>?_⟩;have hlen:=kj rk;refine⟨fun n m σ H=>m=ds.length-n/\n<=ds.length/\∃O' ρk Tk,RS X.K O₀ H₀ ((O,H1)::F) ts O' H σ ρk Tk/\eU i j g (ds.drop n) ρk Tk=some ((fl,ρ'),T'),⟨_,rfl,Nat.zero_le _,O,ρ,T1,(rs.step s1 hc1).more,e⟩,?_⟩;rintro n m σ2 H2 ⟨rfl,hk,O',ρk,Tk,rs2,ek⟩;have le:=rs2.frs _ List.mem_cons_self;have ha2:=le a _ nO ha
   by_cases hlt:n<ds.length
   .refine .inr ⟨⟨ha2.2,by omega⟩,fun σ3 H3=>∃O' ρk Tk,RS X.K O₀ H₀ ((O,H1)::F) ts O' H3 σ3 ρk Tk/\eU i j g (ds.drop (n+1)) ρk Tk=some ((fl,ρ'),T'),fun σ3 H3 nn=>⟨ds.length-(n+1),by omega,rfl,hlt,nn⟩,fun v H3 yy=>?_⟩
    obtain⟨p,k',v',hpn,hkv,rfl,rfl⟩:=yy;obtain⟨d,hd,rd⟩:=tj rk hkv
    have hdr:ds.drop n=(c4 k',d)::ds.drop (n+1):=by
     rw[List.drop_eq_getElem_cons hlt];have:=(List.getElem?_eq_some_iff.mp hd).2;rw[this]
    rw[hdr] at ek;obtain⟨⟨fl1,ρ1⟩,T3,e3,ek⟩:=aL ek;have rs3:=rs2.step (.new hpn (.tup [kV k',v'])) (rs2.hc.new hpn _);have rd3:Rep X.K O' (upd H2 p (.tup [kV k',v'])) v' d:=Rep.mono (le.trans (rs2.hc.leNew hpn _)) rd;refine⟨p,_,rfl,SqT.of bG,rfl,_,_,rfl,_,_,rfl,rfl,O₀,H₀,(O,H1)::F,ts,O',_,Tk,fl1,ρ1,T3,(rs3.set (i:=i) (w:=.d (c4 k')) (mW k') (fun _ z=>nomatch z)).set (i:=j) (w:=.d d) rd3 (fun _ z=>nomatch z),e3,?_⟩
    cases fl1 with
    |nx=>exact fun O3 σ3 H3 rs3=>⟨O3,ρ1,T3,rs3,ek⟩
    |ct=>exact fun O3 σ3 H3 rs3=>⟨O3,ρ1,T3,rs3,ek⟩
    |bk=>
     cases ek;exact fun O3 σ3 H3 rs3=>q O3 σ3 H3 rs3.less
    |rt x=>
     cases ek;exact q
    |ro x=>
     cases ek;exact q
   .have e:n=ds.length:=by omega
    subst e;rw[List.drop_eq_nil_of_le (Nat.le_refl _)] at ek;cases ek;exact .inl ⟨⟨ha2.2,hlen.symm⟩,q O' σ2 H2 rs2.less⟩
 .cases e
end
section
variable {X:Cx}
def hV(k:Kd):Bool:=decide (k=.tup)||decide (k=.lst)
theorem g7(K:Frag)(a:Kd):PySem.W.kitAny K (.type a.name) [.type "tuple",.type "list"]=some (hV a):=by
 have h1:=ft a .tup (by decide);have h2:=ft a .lst (by decide);have e1:PySem.W.kitOne K (.type a.name) (.type "tuple")=some (cS a .tup):=h1;have e2:PySem.W.kitOne K (.type a.name) (.type "list")=some (cS a .lst):=h2
 cases a <;> (simp only[PySem.W.kitAny,e1,e2];rfl)
theorem yU:CallR X (.builtin "isinstance") (fun xs H Q=>∃(x:V) (tp:Addr) (O:Addr->Prop) (d:PyData),xs=[x,.ref tp]/\Vw X.K O H x d/\H tp=some (.tup [.ty "tuple",.ty "list"])/\Q (.bl (hV (kd d))) H):=by
 intro pins s σ H xs us Q I r h;obtain⟨x,tp,O,d,rfl,vw,ht,q⟩:=h;obtain⟨u,w',rfl,ru,rw'⟩:=vals2 r;cases (show w'=Value.ref tp from rw');have fin:∀tk,EP X pins σ Q (.bool (hV (kd d))) { s with toks:=tk }:=fun tk=>⟨.bl _,H,I.tok _,rfl,q⟩;obtain⟨_,its,rv,⟨dd,c,n,sl⟩,e0,e1,m,e2⟩:=(show ObjOk X.prog X.w H s.heap tp (.tup [.ty "tuple",.ty "list"]) from I.hok tp _ ht);obtain⟨u1,u2,rfl,r1,r2⟩:=vals2 rv;cases (show u1=Value.type "tuple" from r1);cases (show u2=Value.type "list" from r2);dsimp only at e1 e2;subst e1 e2
 cases d with
 |none=>cases vw.non;cases (show u=Value.none from ru);exact PySem.W.kia_tup PySem.W.kitx_none I.kIn True.intro e0 (g7 X.K .non) (fun z=>nomatch z) fin
 |bool b=>cases vw.bl;cases (show u=Value.bool b from ru);exact PySem.W.kia_tup PySem.W.kitx_bool I.kIn True.intro e0 (g7 X.K .bl) (fun z=>nomatch z) fin
 |int i=>cases vw.int;obtain⟨t,e⟩:=(show ∃t,u=Value.int i t from ru);cases e;exact PySem.W.kia_tup PySem.W.kitx_int I.kIn True.intro e0 (g7 X.K .int) (fun z=>nomatch z) fin
 |str z=>cases vw.str;obtain⟨t,e⟩:=(show ∃t,u=Value.str z t from ru);cases e;exact PySem.W.kia_tup PySem.W.kitx_str I.kIn True.intro e0 (g7 X.K .str) (fun z=>nomatch z) fin
 |list ds=>
  obtain⟨a,vs,rfl,t,r⟩:=vw.lst;cases (show u=Value.ref a from ru);obtain⟨its,_,pl,_⟩:=I.list t;obtain⟨o,n,e,c1,_⟩:=pl;exact PySem.W.kia_tup PySem.W.kitx_list I.kIn ⟨o,e,c1⟩ e0 (g7 X.K .lst) (fun z=>nomatch z) fin
 |tuple ds=>
  obtain⟨a,vs,rfl,t,r⟩:=vw.tup;cases (show u=Value.ref a from ru);obtain⟨its,_,pl,_⟩:=I.tuple t.sq;obtain⟨o,e,c1,_⟩:=pl;exact PySem.W.kia_tup PySem.W.kitx_tuple I.kIn ⟨o,e,c1⟩ e0 (g7 X.K .tup) (fun z=>nomatch z) fin
 |dict ds=>
  obtain⟨a,vs,rfl,t,r⟩:=vw.dct;cases (show u=Value.ref a from ru);obtain⟨_,_,_,_,o,_,_,e,c1,_⟩:=dz I.hok t;exact PySem.W.kia_tup PySem.W.kitx_dict I.kIn ⟨o,e,c1.1⟩ e0 (g7 X.K .dct) (fun z=>nomatch z) fin
def jJ(x:PyData):Option PyData:=some (.bool (hV (kd x)))
theorem A4{e:Expr}{f:FE}{p1 p2 p' pos tpos:Pos}{k:Nat}(hi:X.mg "isinstance"=none)(he:DE X e f)(hm1:X.mg "tuple"=none)(hm2:X.mg "list"=none)(hg:Gl X "isinstance":=by rfl)(hT1:Gl X "tuple":=by rfl)(hT2:Gl X "list":=by rfl)
  (hs:starEach [e,.Tuple [.Name "tuple" p1,.Name "list" p2] k tpos] X.env=(false,eval e X.env)::starEach [.Tuple [.Name "tuple" p1,.Name "list" p2] k tpos] X.env:=by exact bu rfl)
  (hs2:starEach [.Tuple [.Name "tuple" p1,.Name "list" p2] k tpos] X.env=(false,eval (.Tuple [.Name "tuple" p1,.Name "list" p2] k tpos) X.env)::starEach [] X.env:=by exact bu rfl)
  (hs3:starEach [.Name "tuple" p1,.Name "list" p2] X.env=(false,eval (.Name "tuple" p1) X.env)::starEach [.Name "list" p2] X.env:=by exact bu rfl) (hs4:starEach [.Name "list" p2] X.env=(false,eval (.Name "list" p2) X.env)::starEach [] X.env:=by exact bu rfl)
  (hpl:(backTo pos (starEach [.Tuple [.Name "tuple" p1,.Name "list" p2] k tpos] X.env)).any (·.1)=false:=by exact cg rfl) :
  DE X (.Call (.Name "isinstance" p') [e,.Tuple [.Name "tuple" p1,.Name "list" p2] k tpos] [] pos) (fUn jJ f):=by
 refine⟨?_⟩;refine br (kG yU hg hi PyProof.Rows.boot_isinstance (cx he.pe (cx (uF (cx (m6 (v:=.ty "tuple") hT1 hm1 boot_tuple rfl) (cx (m6 (v:=.ty "list") hT2 hm2 boot_list rfl) cX hs4) hs3)) cX hs2) hs) (by decide) (by decide) hs hpl) fun σ H Q=>?_;rintro⟨O,ts,ρ,T,w,T',hc,re,e,q⟩;obtain⟨w1,T1,e1,e⟩:=aL e;obtain⟨x,d,h1,h3,rfl,rfl⟩:=gH e;cases h3;refine⟨O,ts,ρ,T,w1,T',hc,re,e1,fun v1 H1 s1 hc1 r1=>?_⟩;refine⟨by decide,fun tp htp=>?_⟩;have hc2:=hc1.new htp (.tup [.ty "tuple",.ty "list"]);have s2:SameX ts H1 (upd H1 tp (.tup [.ty "tuple",.ty "list"])):=.new htp _;exact⟨v1,tp,O,x,rfl,hc2.view (r1.mono hc1 s2) h1,bG,q _ _ (s1.trans s2) hc2 (.bl _)⟩
end
theorem AO{P:Program}{w:World}{K:Frag}{mg:Str->Option Value}{base:Heap}{CX:CXT}{k:Nat}{f:Addr}{fd:FuncData}{ps:List Str}{sp sp':Sp}(F:FnOk P w K mg base CX k f fd ps sp)(i:∀vs H Q E,sp' vs H Q E->sp vs H Q E):FnOk P w K mg base CX k f fd ps sp':=⟨fun vs H Q E h=>F.1 vs H Q E (i _ _ _ _ h),fun A outer s H args us vs Q E a b c d h=>F.2 A outer s H args us vs Q E a b c d (i _ _ _ _ h)⟩
theorem zt{K:Frag}{m:FnM}(hm:∀ns:List Int,ns.length<=63->∃T',m [.d (jt ns)] []=some (.bool true,T')):∀vs H Q E,ly K vs H Q E->spM K 1 m vs H Q E:=by
 intro vs H Q E h;obtain⟨a,ns,rfl,hS,hl,q⟩:=h;obtain⟨T',e⟩:=hm ns hl
 have ra:LstAt K (fun _=>False) H a (ns.map V.int):=by
  rcases hS with h|h
  .exact .inl ⟨fun z=>z,h⟩
  .exact .inr (.inr h)
 refine⟨fun _=>False,[],[],[.d (jt ns)],.bool true,T',⟨fun b hb=>(by cases hb),fun b hb=>hb.elim,List.nodup_nil,rfl,fun i a xs e1 _=>by simp at e1⟩,.cons (show Rep K (fun _=>False) H (.ref a) (jt ns) from .lst ra (qV ns)) .nil,rfl,e,fun v H' _ _ r=>?_⟩;cases r;exact q H'
def Gn:PyData->PyData->Option PyData:=iop fun i j=>if 0<=j then some (.int (i / 2^j.toNat)) else none
@[simp] theorem HQ{i j:Int}:Gn (.int i) (.int j)=if 0<=j then some (.int (i / 2^j.toNat)) else none:=rfl
section
variable {X:Cx}
end
end D
namespace L2
open PySem PySem.Spec PyProof.Rows
structure CSn(osc:Scope)(N:List Str)(xs:List Str)(scope:Scope)(N':List Str):Prop where
 kind:scope.kind=.function
 nocell:∀y∈scope.names,y.2≠.cell
 names:∀y∈scope.names,y.2=.local->scope.names.lookup y.1=some .local
 hx:∀x∈xs,scope.names.lookup x=some .local
 only:∀y∈scope.names,y.2=.local->y.1∈xs\/y.1=".0"
 free:∀y∈scope.names,y.2=.free->osc.names.lookup y.1=some .cell\/osc.names.lookup y.1=some .free
 nd:(xs++N').Nodup
 n0:(".0" : Str)∉N'
 len:N'.length=N.length
 rel:∀p∈N'.zip N,p.1=p.2\/∀q∈scope.names,q.1≠p.1
section
variable {X:Cx}{pins:List (Addr×Obj)}{σ:St}{H:Hp}{s:Shared}{xs:List Str}{scope:Scope}{N':List Str}
end
section
variable {X:Cx}{xs:List Str}{scope:Scope}{N':List Str}{tg elt iter:Expr}{ifs:List Expr}{pos:Pos}{wi:TI}{g:TG}{te:TE}{tt:TT}
end
end L2
namespace D
open PySem PySem.Spec PyProof.Rows L2
section
variable {X:Cx}{pos:Pos}
end
section
variable {X:Cx}
variable {pos:Pos}{e e':Expr}{fe fk:FE}
end
section
variable {K:Frag}{O₀:Addr->Prop}{H₀:Hp}{F:List ((Addr->Prop)×Hp)}{ts:List Addr}{O A:Addr->Prop}{H H1:Hp}{σ:L2.St}{ρ:Rho}{T T1:Tp}
theorem RS.keep(r:RS K O₀ H₀ F ts O H σ ρ T)(hA:∀b,A b->O b):HC K (fun b=>O₀ b\/A b) ts H T/\Le O H (fun b=>O₀ b\/A b) H:=by
 have le:Le O H (fun b=>O₀ b\/A b) H:=fun a o n e=>⟨fun z=>n (z.elim (r.sub a) (hA a)),e⟩;exact⟨⟨fun b hb=>.inl (r.ots b hb),fun b hb=>r.hc.trk b (hb.elim (r.sub b) (hA b)),r.hc.nd,r.hc.len,fun i a xs e1 e2=>(r.hc.tape i a xs e1 e2).mono (fun _ h=>h) le⟩,le⟩
end
section
variable {X:Cx}{pos:Pos}
end
def k9(o:Option ((Fl×Rho)×Tp)):Option (PyData×Tp):=bnd o fun p T=>match p with
 |(.ro x,_)=>some (x,T)
 |_=>none
def iG(N:Nat)(f:FS):FnM:=fun ws T=>if ei ws=true then k9 (f (ws.map some++List.replicate (N-ws.length) none) T) else none
inductive SpOP(K:Frag)(n:Nat)(m:FnM)(vs:List V)(H:Hp)(Q:VK):Prop where
 |mk (O:Addr->Prop) (ts:List Addr) (T:Tp) (ws:List W) (x:PyData) (T':Tp) (hc:HC K O ts H T) (r:gi K O ts H vs ws) (hl:ws.length=n) (e:m ws T=some (x,T'))
  (q:∀(A:Addr->Prop) v H',SameX ts H H'->(∀b,A b->H b=none/\¬O b)->HC K (fun b=>O b\/A b) ts H' T'->OwnV K (fun b=>O b\/A b) A H' v x->Q v H'):SpOP K n m vs H Q
def spO(K:Frag)(n:Nat)(m:FnM):Sp:=fun vs H Q _=>SpOP K n m vs H Q
theorem GK{P:Program}{w:World}{K:Frag}{mg:Str->Option Value}{base:Heap}{x qual:Str}{st:Stmt}{f:Addr}{fd:FuncData}{N ps:List Str}{k:Nat}{m:FS}(F:Fun K x qual st f fd)(S:FnScope N ps (bp st))
  (hbody:∀(cdv:Value) (A:Around) (outer:List Env) (s:Shared) (H:Hp) (E:XK),Room k (A.deeper (envOfC qual (bp st) s.heap.objs.size f cdv))->DSs (eF CX0 P w K mg base N qual (bp st) f cdv A outer s H E).nox (cz st) m) :
  FnOk P w K mg base CX0 (k+1) f fd ps (spO K ps.length (iG N.length m)):=by
 refine F.ok S (fun vs H Q E h=>?_) (fun cdv A outer s H vs Q E hr h=>⟨_,(hbody cdv A outer s H E hr).pe,?_⟩)
 .obtain⟨O,ts,T,ws,x,T',hc,rw',hl,_⟩:=h
  rw[←hl];exact Paired.length rw'
 obtain⟨O,ts,T,ws,x,T',hc,rw',hl,e,q⟩:=h;unfold iG at e;split at e
 .rename_i hn
  obtain⟨⟨fl,ρ'⟩,T1,e1,e⟩:=aL e;have hlen:vs.length=ws.length:=Paired.length rw';have noL:∀{i:Nat}{xs:PyData},(ws.map some++List.replicate (N.length-ws.length) none)[i]? = some (some (W.loc xs))->False:=fun {i xs} e=>kq hn (List.mem_of_getElem? (ki e));refine⟨O,H,[],ts,O,_,T,fl,ρ',T1,⟨hc,fun i u e=>?_,fun _ h=>h,hc.own,.refl _ _,fun i xs a e1 _=>(noL e1).elim,fun i j xs ys v e1 _ _ _=>(noL e1).elim,fun f hf=>absurd hf (by simp),by simp[L2.start,hlen]⟩,e1,?_⟩
  .obtain⟨v,h1,h2⟩:=l7 rw' (ki e)
   refine⟨v,?_,h2⟩;unfold L2.start;have hi:i<vs.length:=(List.getElem?_eq_some_iff.mp h1).1;rw[List.getElem?_append_left (by simpa using hi),List.getElem?_map,h1];rfl
  .cases fl with
   |ro y=>cases e;exact q
   |_=>cases e
 .cases e
section
variable {X:Cx}{pos:Pos}
end
section
variable {X:Cx}
abbrev FP:=Rho->Tp->Option (List (Str×PyData)×Tp)
def ao(l:List (Str×PyData)):List (PyData×PyData):=l.map fun p=>(.str p.1,p.2)
def Gu(p:Str×V):Key×V:=(Sum.inr p.1,p.2)
structure DP(X:Cx)(pos:Pos)(keys:List (Option Expr))(values:List Expr)(g:FP):Prop where
 ex:∃trs,PPs X pos keys values trs/\∀(σ:L2.St) (H:Hp) (Q:List (V×V)->Hp->Prop) (O:Addr->Prop) (ts:List Addr) (ρ:Rho) (T:Tp) (l:List (Str×PyData)) (T':Tp),HC X.K O ts H T->RelE X.K O ts H σ ρ->g ρ T=some (l,T') ->
  (∀(kvs:List (Str×V)) (H':Hp),SameX ts H H'->HC X.K O ts H' T'->kvs.map (·.1)=l.map (·.1)->RepK X.K O H' (kvs.map Gu) (ao l)->Q (kvs.map fun p=>(V.str p.1,p.2)) H')->kX trs σ H Q
end
section
variable {X:Cx}{pos:Pos}
end
section
variable {X:Cx}{pos:Pos}{rest:List Stmt}{fr:FS}
end
section
variable {X:Cx}{pos:Pos}
end
section
variable {prog:Program}{w:World}{K:Type}[DecidableEq K]{knd:KeyKind prog w K}{A:Around}{E:Value->Shared->Prop}{s:Shared}
end
section
variable {X:Cx}
end
section
variable {prog:Program}{w:World}{A:Around}{E:Value->Shared->Prop}{s:Shared}
theorem yi{T:String}{r d:Addr}{n:Nat}{P:Nat->Value->Prop}{OK:Heap->Prop}{Q:List Value->Shared->Prop}(K:PySem.W.KdlSrc prog w T r d n P OK)(hh:A.handled=none)(hok:OK s.heap)(hn:n<=sizeLine)
  (hQ:∀h' tk acc,(∀b o,s.heap.get? b=some o->h'.get? b=some o)->s.heap.objs.size<h'.objs.size->ItemsOf P acc n->Q acc.toList { s with heap:=h',toks:=tk }):wpAny (model prog w) A (collect (.ref r)) Q E s:=by
 have lt:=K.there _ hok;have hS:(s.heap.push { cls:=.type "list",data:=.seq #[] }).get? s.heap.objs.size=some { cls:=.type "list",data:=.seq #[] }:=Heap.get?_push_size _ rfl;unfold collect;refine wpAny_bind (wpAny_runValue (codeAny_builtin PySem.F.entry_proto_collect ?_));rw[Around.under_plainId PySem.F.plain_proto_collect _];show wpAny _ A.in1 (newList [] >>= fun l=>again (.builtin "list.__iadd__" ⟨[l,.ref r],[]⟩)) _ _ s;refine wpAny_bind (wpAny_newObj_type (wpAny_pure ⟨plainId_quiet PySem.F.plain_list_iadd _,codeAny_builtin PySem.F.entry_list_iadd ?_⟩));rw[Around.under_plainId PySem.F.plain_list_iadd _];show wpAny _ A.in1 (Builtin.List.listExtendWith (.ref s.heap.objs.size) (.ref r) (.ref s.heap.objs.size)) _ _ _
 refine PySem.W.kdl_extend (R:=fun r s'=>match r with
  | .ok (.ret v)=>wpAny (model prog w) A (match v with
   | .ref a=>(do match (←load a).data with
    |.seq xs _=>pure xs.toList
    | _=>unsupported "internal:collect")
   | _=>unsupported "internal:collect") Q E s'
  |.ok _=>False
  | .error e=>E e s') (A:=A) (s:={ s with heap:=s.heap.push { cls:=.type "list",data:=.seq #[] } }) K hh (K.keep _ _ hok fun b _ o e=>Heap.get?_push_of_some _ e) s.heap.objs.size (Nat.ne_of_gt lt.1) (Nat.ne_of_gt lt.2) (.ref s.heap.objs.size) 0 hS (fun h' tk acc c k1 k2 k3=>?_) hn
 refine wpAny_bind (wpAny_load k2 (wpAny_pure ?_));exact hQ h' tk acc (fun b o e=>k1 b o (Nat.ne_of_lt (Heap.lt_size e)) (Heap.get?_push_of_some _ e)) (Heap.lt_size k2) k3
end
section
variable {X:Cx}
end
section
variable {X:Cx}
end
section
variable {X:Cx}
theorem yT(hcm:X.calm=true):CallR X (.builtin "sorted") (fun xs H Q=>∃a kvs ss,xs=[V.ref a]/\Rd H a (.dK kvs)/\kvs.map (fun p=>kV p.1)=ss.map V.str/\ss.length<64/\∀l,H l=none->Q (.ref l) (upd H l (.lst ((ck ss).map V.str)))):=by
 intro pins s σ H xs us Q I r h;obtain⟨a,kvs,ss,rfl,ha,hk,h64,q⟩:=h;obtain⟨u,rfl,ru⟩:=vals1 r;cases ru;obtain⟨z,y,vs,kv,dd⟩:=dz I.hok ha;obtain⟨ep,dd⟩:=dd.dictAt;have hl:=kv.length
 have hlen:kvs.length=ss.length:=by have:=congrArg List.length hk;simpa using this
 refine Calls.call_function_entry kind_sorted plain_sorted entry_sorted (args_sorted1 _) ?_;unfold Builtin.«sorted»;refine wpAny_bind (m:=checkCount "sorted" 1 1 _) (wpAny_pure ?_);refine wpAny_bind (yi (PySem.W.kdl_dict (prog:=X.prog) (w:=X.w) (knd:=bF X.prog X.w) (kvs:=vs) (ep:=ep) y) (I.ok.hd hcm) dd (by omega) fun h' tk acc k1 k2 k3=>?_);have hv:Vals (kvs.map fun p=>kV p.1) acc.toList:=qP (P:=X.prog) (w:=X.w) kv (by rw[Array.length_toList];exact k3.1) fun j v e=>k3.2 j v (by simpa using e);rw[hk] at hv;have hS:=ms hv
 have hal:acc.toList.length=ss.length:=by have:=hv.length;simpa using this.symm
 refine wpAny_bind (wpAny_newList ?_);have hoL:(h'.push (seqObj "list" acc.toList.toArray 0)).get? h'.objs.size=some (seqObj "list" acc.toList.toArray 0):=Heap.get?_push_size _ rfl;refine wpAny_bind (wpAny_holding (wpAny_call_entry slot_list_sort ⟨_,hoL,rfl⟩ entry_list_sort (list_sort_treeK strKind_oneLt hoL hS.keysOf (fun v1 v2 rest e=>keyKind_strs (by rw[←e];exact hS)) (by omega) fun st' a1 a2=>⟨_,rfl,?_⟩) (args_list_sort _)));refine wpAny_pure ⟨_,rfl,?_⟩;obtain⟨ss',b1,b2,b3⟩:=sorted_out_str hS a1 a2;have e:ss'=ck ss:=pW (b2.trans (ic ss).symm) (yr b3) (pP ss);subst e;obtain⟨e2,he⟩:=sortedHeap_at (out:=(arrOf st').map (·.2)) hoL
 have keep:∀b o,s.heap.get? b=some o->(sortedHeap (h'.push (seqObj "list" acc.toList.toArray 0)) h'.objs.size acc.toList ((arrOf st').map (·.2))).get? b=some o:=fun b o q=>by
  have q':=k1 b o q;have lt:=Heap.lt_size q';rw[sortedHeap_old (Nat.ne_of_lt lt) (by rw[size_push'];exact Nat.lt_succ_of_lt lt)];exact Heap.get?_push_of_some _ q'
 have hn:H h'.objs.size=none:=I.hok.fresh (Nat.le_of_lt k2);have hlen2:(ck ss).length=ss.length:=(ic ss).length_eq;exact⟨.ref h'.objs.size,_,I.laid (t':=tk) (o:=.lst ((ck ss).map V.str)) keep (Nat.le_of_lt k2) ⟨by simp;exact Nat.le_of_lt (Nat.lt_of_lt_of_le (by omega:(ck ss).length<64) (by decide)),((arrOf st').map (·.2)).toList,e2,qm b1,by simpa[seqObj,-Array.toList_map] using he⟩,rfl,q _ hn⟩
def eh:PyData->Option PyData
 |.dict ds=>lz (de (iJ ds))
 |_=>none
theorem y8{x y:PyData}(h:eh x=some y):∃ds ss,x=.dict ds/\de (iJ ds)=some ss/\ss.length<64/\y=.list ((ck ss).map .str):=by
 cases x with
 |dict ds=>
  have h':lz (de (iJ ds))=some y:=h;unfold lz at h';split at h'
  .rename_i ss hs
   split at h'
   .rename_i hl
    cases h';exact⟨ds,ss,rfl,hs,hl,rfl⟩
   .cases h'
  .cases h'
 |_=>cases h
theorem sI{e:Expr}{fe:FE}{p pos:Pos}(hm:X.mg "sorted"=none)(ha:DE X e fe)(hc:X.calm=true:=by rfl)(hg:Gl X "sorted":=by rfl)(hs:starEach [e] X.env=(false,eval e X.env)::starEach [] X.env:=by exact bu rfl)
  (hpl:(backTo pos (starEach [] X.env)).any (·.1)=false:=by exact cg rfl):DE X (.Call (.Name "sorted" p) [e] [] pos) (fUn eh fe):=by
 refine⟨?_⟩;refine br (kG (yT hc) hg hm boot_sorted (cx ha.pe cX hs) (by decide) (by decide) hs hpl) fun σ H Q=>?_;rintro⟨O,ts,ρ,T,w,T',hc,re,e,q⟩;obtain⟨w1,T1,e1,e⟩:=aL e;obtain⟨x,d,hv,hd,rfl,rfl⟩:=gH e;obtain⟨ds,ss,rfl,hs',hl,rfl⟩:=y8 hd;refine⟨O,ts,ρ,T,w1,T',hc,re,e1,fun v1 H1 s1 hc1 r1=>?_⟩;obtain⟨a,kvs,rfl,t,r⟩:=(hc1.view r1 hv).dct;have rk:=qU (O':=O) (H':=H1) r;refine⟨a,kvs,ss,rfl,t,kK rk hs',hl,fun l hl'=>?_⟩;exact q _ _ (s1.trans (.new hl' _)) (hc1.new hl' _) (hc1.newL hl' (l8 _))
end
end D
namespace XE
open PySem PySem.Spec PyProof.Rows L2
abbrev vE:List Value:=[.type "ValueError",.type "Exception",.type "BaseException",.type "object"]
def XCl(K:Frag)(C:Addr)(tl:List Value):Prop:=∃nm q N bs sn sub ab col dd k0 k1 k2 k3 k5,K.lookup C=some (excClassObj nm q C N bs tl true sn sub ab col dd k0 k1 k2 k3 k5 "ValueError.__new__")/\PySem.W.nsOkIn K N=true
section
variable {prog:Program}{w:World}{A:Around}{E:Value->Shared->Prop}{h:Heap}{g:Array GenState}{d:Drawn}{t:Nat}{os:OsState}{K:Frag}{C R fI:Addr}
end
end XE
namespace XE
open PySem PySem.Spec PyProof.Rows L2
def XAt(e C:Addr)(od:Option Addr):Heap->Prop:=fun h=>∃t,h.get? e=some { cls:=.ref C,dict:=od,data:=.fields #[.ref t,.none,.none,.none,.bool false,.none] }
section
variable {X:Cx}{C R:Addr}
end
section
open Builtin Builtin.ObjectAttr
variable {prog:Program}{w:World}{A:Around}{E:Value->Shared->Prop}{h:Heap}{g:Array GenState}{d:Drawn}{t:Nat}{os:OsState}{K:Frag}{C R e:Addr}{name:Str}{v:Value}{vs:Array Value}
end
end XE
namespace XE
open PySem PySem.Spec PyProof.Rows L2
section
variable {X:Cx}{C R:Addr}
end
end XE
namespace XE
open PySem PySem.Spec PyProof.Rows L2
def spI(C:Addr)(f:Str):Sp:=fun vs H Q _=>∃a x,vs=[.ref a,.str x]/\H a=some (.ext (XAt a C none))/\(reprText x).length+1000<=sizeLine /\
 ∀dx,H dx=none->dx≠a->Q .non (upd (upd H dx (.xd [(f,.str x)])) a (.ext (XAt a C (some dx))))
structure XIni(P:Program)(w:World)(K:Frag)(mg:Str->Option Value)(base:Heap)(C R:Addr)(f:Str)(k:Nat):Prop where
 ex:∃fI fd ps,FnOk P w K mg base CX0 k fI fd ps (spI C f)/\Binds K fd ps []/\PySem.W.findIn K (.ref C) "__init__"=some (some (.ref fI))/\PySem.W.isFn K (.ref fI)=true
 c:XCl K C (.ref R::vE)
 r:XCl K R vE
 ri:PySem.W.ownIn K "__init__" (.ref R)=some none
 kp:PySem.W.keepIn K (.ref C)=true
section
variable {X:Cx}{C R:Addr}{f:Str}{k:Nat}
end
end XE
namespace XE
open PySem PySem.Spec PyProof.Rows L2
structure Kp(xs fs:List Addr)(h h':Heap):Prop where
 keep:∀b o,h.get? b=some o->b∉xs->b∉fs->h'.get? b=some o
 slot:∀b o,h.get? b=some o->b∉xs->b∈fs->∃sl,h'.get? b=some { o with slots:=sl }
 there:∀b o,h.get? b=some o->∃o',h'.get? b=some o'
def TB(T:Addr)(fl:Value)(h:Heap):Prop:=∃oT ts,h.get? T=some oT/\oT.data=.fields ts/\ts[3]? = some fl
section
variable {M:Model}{A:Around}{E:Value->Shared->Prop}{s:Shared}{base:Heap}{env:Env}{outer:List Env}{L e C dx T:Addr}
end
end XE
namespace XE
open PySem PySem.Spec PyProof.Rows L2
section
variable {P:Program}{w:World}{K:Frag}{mg:Str->Option Value}{base:Heap}{N:List Str}{qual:Str}{scope:Scope}{f C R:Addr}{cdv:Value}{A:Around}{outer:List Env}{s0:Shared}{H0:Hp}{E:XK}
end
end XE
namespace XE
open PySem PySem.Spec PyProof.Rows L2
section
variable {X:Cx}{pins:List (Addr×Obj)}{σ:L2.St}{H:Hp}{s:Shared}
end
end XE
namespace XE
open PySem PySem.Spec PyProof.Rows L2
section
variable {X:Cx}{C R fa:Addr}{k:Nat}{fd:FuncData}{ps:List Str}{sp:Sp}
end
end XE
namespace XE
open PySem PySem.Spec PyProof.Rows L2
section
variable {prog:Program}{w:World}{A:Around}{E:Value->Shared->Prop}{h:Heap}{g:Array GenState}{d:Drawn}{t:Nat}{os:OsState}{K:Frag}{C R x:Addr}{ox:Obj}{od:Option Obj}{name:Str}
structure XIs(K:Frag)(C:Addr):Prop where
 bm:PySem.W.mroIn K C (.type "BaseException")=some true
 gt:PySem.W.findIn K (.ref C) "__getattr__"=some none
 ga:PySem.W.findIn K (.ref C) "__getattribute__"=some (some (.builtin "BaseException.__getattribute__"))
 hc:(PySem.W.clsIn K C).isSome=true
 ca:PySem.W.findIn K (.ref C) "__class__"=some (some (.builtin "object.__class__"))
 hn:PySem.W.specialIn K (.builtin "object.__class__") "__get__"=some (some (.builtin "getset_descriptor.__get__"))
 tk:PySem.W.takesIn K (.builtin "object.__class__")=some true
 hm:PySem.W.mroIn K C (.type "object")=some true
end
end XE
namespace XE
open PySem PySem.Spec PyProof.Rows L2
section
variable {X:Cx}{C e dx:Addr}{oe:Obj}
structure Cau(X:Cx)(C e dx:Addr)(oe:Obj):Prop where
 pin:(e,oe)∈X.pn
 cls:oe.cls=.ref C
 dict:oe.dict=some dx
 data:∃vs,oe.data=.fields vs
 is:XIs X.K C
 hd:PySem.W.hasDictIn X.K C=true
end
end XE
namespace XE
open PySem PySem.Spec PyProof.Rows L2 D
structure XB(K:Frag)(C R:Addr)(f:Str)(Ds:List Addr):Prop where
 c:XCl K C (.ref R::vE)
 r:XCl K R vE
 ri:PySem.W.ownIn K "__init__" (.ref R)=some none
 kp:PySem.W.keepIn K (.ref C)=true
 is:XIs K C
 hd:PySem.W.hasDictIn K C=true
 nn:PySem.W.findIn K (.ref C) f=some none
 sa:PySem.W.findIn K (.ref C) "__setattr__"=some (some (.builtin "object.__setattr__"))
 rd:PySem.W.readsIn K R (.type "type")=true
 fc:PySem.W.findCls K (.ref R) (.type "type") "__init__"=some (.val (.builtin "ValueError.__init__"))
 kC:PySem.W.kitOne K (.ref C) (.ref C)=some true
 kV:PySem.W.kitOne K (.ref C) (.type "ValueError")=some true
 kD:PySem.W.kitAny K (.ref C) (Ds.map Value.ref)=some false
end XE
namespace XE
open PySem PySem.Spec PyProof.Rows L2
section
variable {X:Cx}{C R:Addr}
end
end XE
namespace XE
open PySem PySem.Spec PyProof.Rows L2 D
def spG(P:V->Prop)(C:Addr)(f:Str):Sp:=fun vs H Q _=>∃a v,vs=[.ref a,v]/\H a=some (.ext (XAt a C none))/\P v /\
 ∀dx,H dx=none->dx≠a->Q .non (upd (upd H dx (.xd [(f,v)])) a (.ext (XAt a C (some dx))))
structure XIniG(A:V->Prop)(P:Program)(w:World)(K:Frag)(mg:Str->Option Value)(base:Heap)(C R:Addr)(f:Str)(k:Nat):Prop where
 ex:∃fI fd ps,FnOk P w K mg base CX0 k fI fd ps (spG A C f)/\Binds K fd ps []/\PySem.W.findIn K (.ref C) "__init__"=some (some (.ref fI))/\PySem.W.isFn K (.ref fI)=true
 c:XCl K C (.ref R::vE)
 r:XCl K R vE
 ri:PySem.W.ownIn K "__init__" (.ref R)=some none
 kp:PySem.W.keepIn K (.ref C)=true
section
variable {X:Cx}{C R:Addr}{f:Str}{k:Nat}
end
end XE
namespace XE
open PySem PySem.Spec PyProof.Rows L2 D
end XE
namespace D
open PySem PySem.Spec PyProof.Rows L2
section
variable {X:Cx}
end
section
variable {X:Cx}
variable {pos:Pos}{e:Expr}{fe:FE}
end
section
variable {prog:Program}{w:World}{A:Around}{E:Value->Shared->Prop}
theorem rz{it t:Addr}{items:Array Value}(hne:t≠it):∀(n i:Nat) (s:Shared) (Q:List Value->Shared->Prop),s.heap.IsListIter it t i->s.heap.IsList t items->i+n<=items.size ->
  (∀h',h'.IsListIter it t (i+n)->Heap.SameBut it s.heap h'->Q ((items.toList.drop i).take n) { s with heap:=h' })->wpAny (model prog w) A (draw (.ref it) n) Q E s
 |0,i,s,Q,hit,_,_,hQ=>by
  show wpAny _ _ (pure []) Q E s;exact wpAny_pure (by simpa using hQ s.heap hit (Heap.SameBut.refl ..))
 |n+1,i,s,Q,hit,ht,hle,hQ=>by
  have hlt:i<items.size:=by omega
  show wpAny _ _ (pyNext (.ref it) >>= _) Q E s;refine wpAny_bind (wpAny_pyNext_list_item hit ht (x:=items[i]) (by simp[hlt]) fun h₁ hit₁ hs₁=>?_);refine wpAny_bind (wpAny_holding (rz hne n (i+1) _ _ hit₁ (ht.extBut hs₁.extBut hne) (by omega) fun h₂ hit₂ hs₂=>wpAny_pure ?_))
  have hd:items.toList.drop i=items[i]::items.toList.drop (i+1):=by simp[List.drop_eq_getElem_cons,hlt]
  have:=hQ h₂ (by rw[show i+(n+1)=i+1+n by omega];exact hit₂) (hs₁.trans hs₂);rw[hd,List.take_succ_cons] at this;exact this
theorem xi{s:Shared}{t:Addr}{items:Array Value}{Q:List Value->Shared->Prop}(hh:A.handled=none)(ht:s.heap.IsList t items)
  (hQ:∀h',Heap.ExtBut s.heap.objs.size s.heap h'->Q items.toList { s with heap:=h' }):wpAny (model prog w) A (unpackItems (.ref t) items.size none) Q E s:=by
 have hlt:t≠s.heap.objs.size:=by obtain⟨o,ho,_⟩:=ht;exact Nat.ne_of_lt (Heap.lt_size ho)
 unfold unpackItems;refine wpAny_bind ?_
 .unfold notIterableAtAll
  refine wpAny_bind (wpAny_specialOf ht.typeIs slot_list_iter.lookup ?_);refine wpAny_pure ?_;simp only[Bool.false_eq_true,if_false];refine wpAny_bind (wpAny_holding (wpAny_pyIter_list ht ?_));refine wpAny_bind (wpAny_holding (rz hlt items.size 0 _ _ ⟨_,Heap.get?_push_size _ rfl,rfl,rfl⟩ (ht.push _) (by omega) fun h₁ hit₁ hs₁=>?_))
  have hall:List.take items.size (List.drop 0 items.toList)=items.toList:=by
   rw[List.drop_zero];exact List.take_of_length_le (by simp)
  rw[hall];rw[if_neg (by simp)];have ht₁:h₁.IsList t items:=(ht.push _).extBut hs₁.extBut hlt;refine wpAny_bind (wpAny_holding (wpAny_pyNext_list_end hh hit₁ ht₁ (by simp) fun h₂ he₂=>?_));simp only[Option.isSome_none,Bool.false_eq_true,if_false];refine wpAny_pure (hQ h₂ fun b o hb e=>he₂ b o hb (hs₁.extBut b o hb (Heap.get?_push_of_some _ e)))
theorem xh{s:Shared}{env:Env}{elts:List Expr}{x1}{pos:Pos}{t:Addr}{items:Array Value}{Q:Unit->Shared->Prop}(hh:A.handled=none)(ht:s.heap.IsList t items)
  (hn:(assignEach elts env).length=items.size) (hstar:(assignEach elts env).findIdx? (·.1)=none)
  (h:∀h',Heap.ExtBut s.heap.objs.size s.heap h'->wpAny (model prog w) A (assignInOrder ((assignEach elts env).map (·.2)) items.toList) Q E { s with heap:=h' }) :
  wpAny (model prog w) A (assign (.Tuple elts x1 pos) env (.ref t)) Q E s:=by
 rw[assign_Tuple];refine wpAny_bind (wpAny_standAt ?_);unfold unpack;rw[hn,hstar];exact wpAny_bind (wpAny_holding (xi hh ht h))
end
section
variable {X:Cx}{pos:Pos}
def GD(K:Frag)(n:Nat)(t:TGs):TG:=fun v σ H Q=>∃a xs,v=.ref a/\SqL K H a xs/\xs.length=n/\t xs σ H Q
theorem BO{es:List Expr}{k:Nat}{t:TGs}{n:Nat}(hc:X.calm=true)(h:PGs X es t)
  (hn:(assignEach es X.env).length=n:=by rfl) (hst:(assignEach es X.env).findIdx? (·.1)=none:=by rfl):PG X (.Tuple es k pos) (GD X.K n t):=by
 intro pins s σ H v u Q I r hw;obtain⟨a,xs,e1,hq,hl,hw⟩:=hw;subst e1;cases r;obtain⟨its,rv,ht,hz⟩:=I.list hq;refine xh (I.ok.hd hc) ht.isList (by simp[hn,←hl,rv.length]) hst fun h' hx=>?_;have I1:Inv X pins σ H { s with heap:=h' }:=I.kept (t':=s.toks) fun b o e=>hx b o (Nat.ne_of_lt (Heap.lt_size e)) e;exact h pins _ σ H xs _ Q I1 (by simpa using rv) hw
end
section
variable {X:Cx}{pos:Pos}{e:Expr}{fe:FE}
def uu(i:Nat)(ρ:Rho)(T:Tp)(o:Option PyData):Option ((Fl×Rho)×Tp):=match o with
 |some (.list xs)=>some ((.nx,ρ.set i (some (.loc (.list xs)))),T)
 |_=>none
def lg(i:Nat)(f:FE):FS:=fun ρ T=>bnd (f ρ T) fun w T1=>uu i ρ T1 (view T1 w)
theorem AY{i:Nat}{x:Str}{p cpos pos':Pos}(hm:X.mg "list"=none)(hN:X.N.Nodup)(he:DE X e fe)(hg:Gl X "list":=by rfl)
  (hse:starEach [e] X.env=(false,eval e X.env)::starEach [] X.env:=by exact bu rfl) (hpl:(backTo cpos (starEach [] X.env)).any (·.1)=false:=by exact cg rfl) (hi:X.N[i]? = some x:=by rfl) (hx:Loc X.env.scope x:=by first|exact Or.inl rfl|exact Or.inr rfl)
  (hs:swapsWith (.Call (.Name "list" p) [e] [] cpos) (some (.Name x pos')) pos.line X.env=pure false:=by rfl) (hf:X.fn x=true\/X.env.scope.names.lookup x=some .local:=by first|exact .inl rfl|exact .inr rfl|assumption) :
  DS X (.Assign [.Name x pos'] (.Call (.Name "list" p) [e] [] cpos) pos) (lg i fe):=by
 refine⟨?_⟩;refine cj (fX hN hi hx (l9 pV hg hm boot_list (cx he.pe cX hse) (by decide) (by decide) hse hpl) hs hf) fun D σ H=>?_;rintro⟨O₀,H₀,F,ts,O,ρ,T,fl,ρ',T',rs,e,q⟩;obtain⟨w,T1,e1,e⟩:=aL e;refine⟨O,ts,ρ,T,w,T1,rs.hc,rs.re,e1,fun v H1 s1 hc1 r1=>?_⟩;have rs1:=rs.step s1 hc1;unfold uu at e;split at e
 .rename_i xs h1
  cases e;obtain⟨a,vs,rfl,t,r⟩:=(hc1.view r1 h1).lst;exact⟨a,vs,rfl,.inl t,fun p hp=>q _ _ _ (rs1.own hp r)⟩
 .cases e
end
section
variable {X:Cx}
theorem any_range(bs:List Bool)(n:Nat)(hn:n=bs.length):(List.range n).any (fun i=>bs.getD i false)=bs.any id:=by
 subst hn
 induction bs with
 |nil=>rfl
 |cons b r ih=>
  rw[List.length_cons,List.range_succ_eq_map,List.any_cons,List.any_map,List.any_cons,←ih];rfl
theorem Ba(hc:X.calm=true):CallR X (.builtin "any") (fun xs H Q=>∃(p:Addr) (bs:List Bool),xs=[.ref p]/\SqL X.K H p (bs.map V.bl)/\Q (.bl (bs.any id)) H):=by
 intro pins s σ H xs us Q I r h;obtain⟨p,bs,rfl,hq,q⟩:=h;obtain⟨u,rfl,ru⟩:=vals1 r;cases ru;obtain⟨its,rv,pl,hz⟩:=I.list hq
 have hlen:its.length=bs.length:=by have:=rv.length;simpa using this.symm
 have hlt:p<s.heap.objs.size:=by
  obtain⟨o,n,e,_⟩:=pl;exact Heap.lt_size e
 refine call_any_walk (wpAny_pyIter_list pl.isList ?_);refine⟨s.heap.objs.size,_,_,_,_,_,fun i=>bs.getD i false,rfl,Walks.list (A:=X.A.in1) (I.ok.hd hc) _ p (Nat.ne_of_lt hlt) its.toArray,⟨⟨_,Heap.get?_push_size _ rfl,rfl,rfl⟩,?_⟩,fun i v s' Q' E' hv hQ'=>?_,fun h' tk hk=>?_⟩
 .obtain⟨o,n,e,r⟩:=pl.isList
  exact⟨o,Heap.get?_push_of_some _ n,e,r⟩
 .have hi:i<its.length:=by
   have:=(Array.getElem?_eq_some_iff.mp hv).1;simpa using this
  have hi2:i<bs.length:=by omega
  obtain⟨u,hu,ru⟩:=rv.get (i:=i) (x:=.bl bs[i]) (by simp[hi2])
  have e:v=u:=by
   have hv':its[i]? = some v:=by simpa using hv
   rw[hu] at hv';exact(Option.some.inj hv').symm
  subst e;cases (show v=Value.bool bs[i] from ru);refine wpAny_truthy_bool ?_
  have e:bs[i]=bs.getD i false:=by simp[List.getD,hi2]
  rw[e];exact hQ'
 .have e:(List.range its.toArray.size).any (fun i=>bs.getD i false)=bs.any id:=any_range bs _ (by simpa using hlen)
  rw[e];exact⟨.bl _,H,I.kept (t':=tk) fun b o q=>hk b o (by simp;exact Nat.ne_of_lt (Heap.lt_size q)) (Heap.get?_push_of_some _ q),rfl,q⟩
def lS:List PyData->Option PyData
 |[.list xs]=>(fw xs).map fun bs=>.bool (bs.any id)
 |_=>none
theorem FX(hc:X.calm=true:=by rfl):dB X (.builtin "any") lS:=⟨_,Ba hc,fun O ts H T vs xs d Q hc h e q=>by
 unfold lS at e;split at e
 .obtain⟨bs,e1,rfl⟩:=Option.map_eq_some_iff.mp e
  obtain⟨v,rfl,g⟩:=cR h;obtain⟨a,vs,rfl,t,r⟩:=g.lst;rw[mO r e1] at t;exact⟨a,bs,rfl,t,q _ H (.refl _ _) hc (.bl _)⟩
 .cases e⟩
end
section
variable {X:Cx}{pos:Pos}{e:Expr}{fe:FE}
def lC(i j:Nat)(ρ:Rho)(T:Tp)(o:Option (Option W)):Option ((Fl×Rho)×Tp):=match o with
 | some (some (.loc (.list xs)))=>if i=j then none else (match xs[xs.length-1]? with
  |some y=>some ((.nx,(ρ.set i (some (.loc (.list xs.dropLast)))).set j (some (.d y))),T)
  | none=>none)
 |_=>none
def iM(i j:Nat):FS:=fun ρ T=>lC i j ρ T ρ[i]?
theorem Cu{i j:Nat}{x y:Str}{p apos cpos pos':Pos}(hNd:X.N.Nodup)(hN:X.N[i]? = some x:=by rfl)(hv:Vis X.env.scope x:=by first|exact Or.inl rfl|exact Or.inr (Or.inl rfl)|exact Or.inr (Or.inr rfl))(hd:(x == ("__debug__" : Str))=false:=by decide)
  (hcd:(x == ("__classdict__" : Str))=false:=by decide) (hj:X.N[j]? = some y:=by rfl) (hy:Loc X.env.scope y:=by first|exact Or.inl rfl|exact Or.inr rfl)
  (hbase:attributeBase (.Name x p) "pop" X.env (eval (.Name x p) X.env)=eval (.Name x p) X.env:=by rfl) (hline:(apos.endLine == cpos.line)=true:=by rfl)
  (hs:swapsWith (.Call (.Attribute (.Name x p) "pop" apos) [] [] cpos) (some (.Name y pos')) pos.line X.env=pure false:=by rfl) (hf:X.fn y=true\/X.env.scope.names.lookup y=some .local:=by first|exact .inl rfl|exact .inr rfl|assumption) :
  DS X (.Assign [.Name y pos'] (.Call (.Attribute (.Name x p) "pop" apos) [] [] cpos) pos) (iM i j):=by
 refine⟨?_⟩;refine cj (fX hNd hj hy (Dx PySem.F.plainAttrs_list PySem.F.slot_list_pop PySem.F.type_list_pop DQ (pv i hN hv hd hcd) hbase hline) hs hf) fun D σ H=>?_;rintro⟨O₀,H₀,F,ts,O,ρ,T,fl,ρ',T',rs,e,q⟩;unfold iM lC at e;split at e
 .rename_i xs h1
  split at e
  .cases e
  .rename_i hij
   split at e
   .rename_i y0 hy0
    cases e;obtain⟨v,k1,a,rfl,k2,k3,vs,k4,k5⟩:=rs.re i _ h1;obtain⟨vy,hvy,ry⟩:=k5.getD hy0;have hl:=k5.length
    have rd:Reps X.K O H vs.dropLast xs.dropLast:=by
     rw[List.dropLast_eq_take,List.dropLast_eq_take,hl];exact k5.take _
    have rs1:=rs.put (us:=[]) h1 k1 rd;have rs2:=rs1.set (i:=j) (v:=vy) (w:=.d y0) (Rep.mono (fun b o n z=>⟨n,by rw[aQ (show b≠a from fun z=>n (by rw[z];exact k2))];exact z⟩) ry) (fun _ z=>nomatch z);exact⟨_,k1,.inl ⟨rfl,vs,SqL.of k4⟩,a,vs,vy,rfl,rfl,k4,by rw[hl];exact hvy,q O _ _ rs2⟩
   .cases e
 .cases e
end
def cZ(ds:List (PyData×PyData))(s:Str):List (PyData×PyData):=ds.filter fun p=>match p.1 with
 |.str x=>decide (x≠s)
 |_=>true
theorem sF{K:Frag}{O:Addr->Prop}{H:Hp}{s:Str}:∀{kvs:List (Key×V)}{ds:List (PyData×PyData)},RepK K O H kvs ds->RepK K O H (cP kvs (Sum.inr s:Key)) (cZ ds s)
 |_,_,.nil=>.nil
 |_,_,.cons (k:=k) (v:=v) (d:=d) (kvs:=kvs) (ds:=ds) r t=>by
  have ih:=sF (s:=s) t
  rcases k with i|x
  .have e1:cP (((Sum.inl i:Key),v)::kvs) (Sum.inr s:Key)=((Sum.inl i:Key),v)::cP kvs (Sum.inr s:Key):=by simp[cP]
   have e2:cZ ((c4 (Sum.inl i),d)::ds) s=(c4 (Sum.inl i),d)::cZ ds s:=rfl;rw[e1,e2];exact .cons r ih
  .by_cases hx:x=s
   .have e1:cP (((Sum.inr x:Key),v)::kvs) (Sum.inr s:Key)=cP kvs (Sum.inr s:Key):=by simp[cP,hx]
    have e2:cZ ((c4 (Sum.inr x),d)::ds) s=cZ ds s:=by simp[cZ,c4,hx]
    rw[e1,e2];exact ih
   .have e1:cP (((Sum.inr x:Key),v)::kvs) (Sum.inr s:Key)=((Sum.inr x:Key),v)::cP kvs (Sum.inr s:Key):=by simp[cP,hx]
    have e2:cZ ((c4 (Sum.inr x),d)::ds) s=(c4 (Sum.inr x),d)::cZ ds s:=by simp[cZ,c4,hx]
    rw[e1,e2];exact .cons r ih
section
variable {X:Cx}{pos:Pos}{e:Expr}{fe:FE}
theorem B1:MtM X "dict.pop" (fun x vs H Q=>∃(a:Addr) (kvs:List (Key×V)) (s:Str) (v:V),x=.ref a/\vs=[.str s]/\H a=some (.dK kvs)/\bJ kvs (Sum.inr s:Key)=some v/\Q v (upd H a (.dK (cP kvs (Sum.inr s:Key))))):=by
 intro pins s σ H x vs v us Q I rx rv h;obtain⟨a,kvs,z,y,rfl,rfl,hA,hy,q⟩:=h;cases rx;obtain⟨u,rfl,ru⟩:=rv.one;exact FL I hA (k:=Sum.inr z) ru hy (.inl rfl) fun w' s' I' r'=>⟨_,_,I',r',q⟩
def jX(i j:Nat)(ρ:Rho)(w:W)(T:Tp)(o1 o2:Option (Option W)):Option ((Fl×Rho)×Tp):=match w,o1,o2 with
 | .d (.str s),some (some (.loc (.list xs))),some (some (.loc (.dict ds)))=>(match aO ds s with
  |some y=>if xs.length<1000 then some ((.nx,(ρ.set j (some (.loc (.dict (cZ ds s))))).set i (some (.loc (.list (xs++[y]))))),T) else none
  | none=>none)
 |_,_,_=>none
theorem CL{i j:Nat}{ρ ρ':Rho}{w:W}{T T':Tp}{fl:Fl}{o1 o2:Option (Option W)}(h:jX i j ρ w T o1 o2=some ((fl,ρ'),T')):∃s xs ds y,w=.d (.str s)/\o1=some (some (.loc (.list xs)))/\o2=some (some (.loc (.dict ds)))/\aO ds s=some y/\xs.length<1000/\((fl,ρ'),T')=((Fl.nx,(ρ.set j (some (W.loc (.dict (cZ ds s))))).set i (some (W.loc (.list (xs++[y]))))),T):=by
 unfold jX at h;split at h
 .split at h
  .rename_i y hy
   split at h
   .rename_i hl
    exact⟨_,_,_,y,rfl,rfl,rfl,hy,hl,(Option.some.inj h).symm⟩
   .cases h
  .cases h
 .cases h
def lR(i j:Nat)(f:FE):FS:=fun ρ T=>bnd (f ρ T) fun w T1=>jX i j ρ w T1 ρ[i]? ρ[j]?
theorem Et{i j:Nat}{x y:Str}{p p2 apos apos2 cpos2:Pos}(he:DE X e fe)(hN:X.N[i]? = some x:=by rfl)(hv:Vis X.env.scope x:=by first|exact Or.inl rfl|exact Or.inr (Or.inl rfl)|exact Or.inr (Or.inr rfl))(hd:(x == ("__debug__" : Str))=false:=by decide)
  (hcd:(x == ("__classdict__" : Str))=false:=by decide) (hN2:X.N[j]? = some y:=by rfl) (hv2:Vis X.env.scope y:=by first|exact Or.inl rfl|exact Or.inr (Or.inl rfl)|exact Or.inr (Or.inr rfl)) (hd2:(y == ("__debug__" : Str))=false:=by decide)
  (hcd2:(y == ("__classdict__" : Str))=false:=by decide) {cpos:Pos}
  (hbase:attributeBase (.Name x p) "append" X.env (eval (.Name x p) X.env)=eval (.Name x p) X.env:=by rfl)
  (hbase2:attributeBase (.Name y p2) "pop" X.env (eval (.Name y p2) X.env)=eval (.Name y p2) X.env:=by rfl)
  (hfew:((backTo cpos (starEach [.Call (.Attribute (.Name y p2) "pop" apos2) [e] [] cpos2] X.env)).all (fun x=>!x.1)&&(backToKw cpos (keywordEach [] X.env)).all (fun x=>x.1.isSome)
   && decide (([.Call (.Attribute (.Name y p2) "pop" apos2) [e] [] cpos2]:List Expr).length+([]:List Keyword).length+(if ([]:List Keyword).isEmpty then 0 else 1)<30))=true:=by exact h6 rfl)
  (hfew2:((backTo cpos2 (starEach [e] X.env)).all (fun x=>!x.1)&&(backToKw cpos2 (keywordEach [] X.env)).all (fun x=>x.1.isSome)
   && decide (([e]:List Expr).length+([]:List Keyword).length+(if ([]:List Keyword).isEmpty then 0 else 1)<30))=true:=by exact h6 rfl)
  (hline:(apos.endLine == cpos.line)=true:=by rfl) (hline2:(apos2.endLine == cpos2.line)=true:=by rfl)
  (hse:starEach [.Call (.Attribute (.Name y p2) "pop" apos2) [e] [] cpos2] X.env=(false,eval (.Call (.Attribute (.Name y p2) "pop" apos2) [e] [] cpos2) X.env)::starEach [] X.env:=by exact bu rfl)
  (hse3:starEach [e] X.env=(false,eval e X.env)::starEach [] X.env:=by exact bu rfl) (hplain:(backTo cpos (starEach [] X.env)).any (·.1)=false:=by exact cg rfl) (hplain2:(backTo cpos2 (starEach [] X.env)).any (·.1)=false:=by exact cg rfl)
  (hs:swapsWith (.Call (.Attribute (.Name x p) "append" apos) [.Call (.Attribute (.Name y p2) "pop" apos2) [e] [] cpos2] [] cpos) none pos.line X.env=pure false:=by rfl) :
  DS X (.Expr (.Call (.Attribute (.Name x p) "append" apos) [.Call (.Attribute (.Name y p2) "pop" apos2) [e] [] cpos2] [] cpos) pos) (lR i j fe):=by
 refine⟨?_⟩;refine cj (mZ (iF PySem.F.plainAttrs_list PySem.F.slot_list_append PySem.F.type_list_append qY (pv i hN hv hd hcd) (cx (iF PySem.F.plainAttrs_dict PySem.F.slot_dict_pop PySem.F.type_dict_pop B1 (pv j hN2 hv2 hd2 hcd2) (cx he.pe cX hse3) hbase2 hfew2 hline2 hse3 hplain2) cX hse) hbase hfew hline hse hplain) hs) fun D σ H=>?_;rintro⟨O₀,H₀,F,ts,O,ρ,T,fl,ρ',T',rs,e,q⟩;obtain⟨w,T1,e1,e⟩:=aL e;obtain⟨s,xs,ds,y0,rfl,h1,h2,hy,hlen,e3⟩:=CL e;cases e3;obtain⟨v,k1,a,rfl,k2,k3,vs,k4,k5⟩:=rs.re i _ h1;obtain⟨v',m1,b,rfl,m2,m3,kvs,m4,m5⟩:=rs.re j _ h2
 have hij:i≠j:=fun z=>by rw[z,h2] at h1;cases h1
 have hab:b≠a:=fun z=>hij (rs.dist i j _ _ (.ref a) h1 h2 k1 (by rw[m1,z]));refine⟨_,k1,.inl ⟨rfl,vs,SqL.of k4⟩,?_⟩;refine⟨_,m1,.inr (.inr (.inl ⟨rfl,.inl ⟨kvs,m4⟩⟩)),O,ts,ρ,T,_,_,rs.hc,rs.re,e1,fun u H1 s1 hc1 r1=>?_⟩;cases (show Rep X.K O H1 u (.str s) from r1);have rs1:=rs.step s1 hc1;have m4':=s1 _ _ m3 m4;have m5':=m5.mono (rs.hc.le s1);have k4':=s1 _ _ k3 k4;have k5':=k5.mono (rs.hc.le s1)
 rcases d9 (s:=s) m5' with⟨z1,z2⟩|⟨vy,dy,z1,z2,ry⟩
 .rw[z1] at hy;cases hy
 rw[hy] at z1;cases z1;refine⟨b,kvs,s,vy,rfl,rfl,m4',z2,?_⟩;have leb:Le O H1 O (upd H1 b (.dK (cP kvs (Sum.inr s:Key)))):=fun c o n z=>⟨n,by rw[aQ (show c≠b from fun y=>n (by rw[y];exact m2))];exact z⟩;have rs2:=rs1.putO h2 m1 (o:=.dK (cP kvs (Sum.inr s:Key))) (ys:=.dict (cZ ds s)) (.inr (.inl ⟨_,rfl⟩)) fun le=>⟨_,bG,sF (m5'.mono le)⟩
 have h1':(ρ.set j (some (W.loc (.dict (cZ ds s)))))[i]? = some (some (.loc (.list xs))):=by rw[List.getElem?_set_ne hij.symm];exact h1
 refine⟨a,vs,vy,rfl,rfl,(aQ hab.symm).trans k4',by rw[k5.length];exact Nat.lt_of_lt_of_le hlen (by decide),?_⟩;exact q O _ _ (rs2.put (us:=[]) h1' k1 ((k5'.mono leb).append (.cons (Rep.mono leb ry) .nil)))
end
section
variable {X:Cx}{pos:Pos}
def lh:FS:=fun ρ T=>some ((.ro .none,ρ),T)
theorem AZ{k:_}{p:Pos}:DS X (.Return (some (.Constant .none k p)) pos) lh:=by
 refine⟨?_⟩;refine cj (nR uG) fun D σ H=>?_;rintro⟨O₀,H₀,F,ts,O,ρ,T,fl,ρ',T',rs,e,q⟩;cases e;obtain⟨c,_⟩:=rs.keep (A:=fun _=>False) fun _ z=>z.elim;exact q (fun _=>False) .non H rs.same (fun _ z=>z.elim) c ⟨rfl,fun _ z=>z⟩
def uw(ρ:Rho)(T:Tp)(o:Option (Option W)):Option ((Fl×Rho)×Tp):=match o with
 |some (some (.loc (.list xs)))=>some ((.ro (.list xs),ρ),T)
 |_=>none
def li(i:Nat):FS:=fun ρ T=>uw ρ T ρ[i]?
theorem A0{i:Nat}{x:Str}{p:Pos}(hN:X.N[i]? = some x:=by rfl)(hv:Vis X.env.scope x:=by first|exact Or.inl rfl|exact Or.inr (Or.inl rfl)|exact Or.inr (Or.inr rfl))(hd:(x == ("__debug__" : Str))=false:=by decide)(hcd:(x == ("__classdict__" : Str))=false:=by decide) :
  DS X (.Return (some (.Name x p)) pos) (li i):=by
 refine⟨?_⟩;refine cj (nR (pv i hN hv hd hcd)) fun D σ H=>?_;rintro⟨O₀,H₀,F,ts,O,ρ,T,fl,ρ',T',rs,e,q⟩;unfold li uw at e;split at e
 .rename_i xs h1
  cases e;obtain⟨v,k1,a,rfl,k2,k3,vs,k4,k5⟩:=rs.re i _ h1
  obtain⟨c,le⟩:=rs.keep (A:=fun c=>c=a) fun c hc=>by rw[hc];exact k2
  exact⟨_,k1,q (fun c=>c=a) (.ref a) H rs.same (fun c hc=>by rw[hc];exact rs.fresh i _ a h1 k1) c ⟨a,rfl,fun _=>Iff.rfl,vs,k4,k5.mono le⟩⟩
 .cases e
def uk(x:PyData)(T:Tp):Option (W×Tp):=match x with
 |.list xs=>some (.d (.list xs),T)
 |.none=>some (.d .none,T)
 |_=>none
def nv(m:FnM)(g:FA):FE:=fun ρ T=>bnd (g ρ T) fun ws T1=>bnd (m ws T1) uk
theorem zO{name:Str}{ps:List Str}{k:Nat}{m:FnM}{e:Expr}{es:List Expr}{g:FA}{p cpos:Pos}(F:Fn X.prog X.w X.K X.mg X.base name ps k (spO X.K ps.length m))(hr:Room k X.A)(hg:Gl X name)(ha:DA X (e::es) g)(hl:iU g ps.length)(hdb:(name == ("__debug__" : Str))=false:=by decide)
  (he:starEach (e::es) X.env=(false,eval e X.env)::starEach es X.env:=by exact bu rfl) (hpl:(backTo cpos (starEach es X.env)).any (·.1)=false:=by exact cg rfl):DE X (.Call (.Name name p) (e::es) [] cpos) (nv m g):=by
 refine⟨?_⟩;refine br (oy F hr hg ha.pe hdb he hpl) fun σ H Q=>?_;rintro⟨O,ts,ρ,T,w,T',hc,re,e,q⟩;obtain⟨ws,T1,e1,e⟩:=aL e;obtain⟨x,T2,e2,e⟩:=aL e;refine⟨O,ts,ρ,T,ws,T1,hc,re,e1,fun vs H1 s1 hc1 r1=>?_⟩;refine⟨O,ts,T1,ws,_,_,hc1,by rw[List.append_nil];exact r1,hl _ _ _ _ e1,e2,fun A v H2 s2 hA hc2 ov=>?_⟩;have le:Le (fun b=>O b\/A b) H2 O H2:=fun b u n z=>⟨fun y=>n (.inl y),z⟩;have c2:HC X.K O ts H2 T2:=⟨hc1.own,fun b hb=>hc2.trk b (.inl hb),hc2.nd,hc2.len,fun j b ys q1 q2=>(hc2.tape j b ys q1 q2).mono (fun _ h=>h) le⟩
 cases x with
 |list xs=>
  cases e;obtain⟨a,rfl,hAA,us,k1,k2⟩:=ov;exact q _ _ (s1.trans s2) c2 (.lst (.inl ⟨(hA a ((hAA a).mpr rfl)).2,.inl k1⟩) (k2.mono le))
 |none=>
  cases e;obtain⟨rfl,hno⟩:=ov;exact q _ _ (s1.trans s2) c2 .non
 |_=>cases e
end
def F8(_ j:Int):Prop:=0<j/\j<18446744073709551616
def dS:PyData->PyData->Option PyData:=iop fun i j=>if 0<j/\j<18446744073709551616 then some (.int (i / j)) else none
theorem Fh{x y:Int}(h:y.natAbs<18446744073709551616):Builtin.divisionGoesByPylong x y=false:=by
 refine PyProof.noPylong_of_log2 ?_
 by_cases h0:y.natAbs=0
 .rw[h0];decide +kernel
 .have h30:y.natAbs.log2<64:=(Nat.log2_lt h0).mpr h
  omega
section
variable {X:Cx}
theorem Au:OpR X (binaryOp .FloorDiv) (rI F8 fun i j=>.int (i / j)):=opI fun i j _ _ _ _ _ hc q=>by
 have h1:(0:Int)<j:=hc.1;have h2:j<18446744073709551616:=hc.2;exact floordiv_int (by omega) (by rw[Int.fdiv_eq_ediv_of_nonneg i (by omega)];exact q) (.inl (Fh (by omega)))
theorem m8:OpD X (binaryOp .FloorDiv) dS:=⟨_,Au,nL fun i j d e=>by
 split at e
 .rename_i h;cases e;exact⟨h,fun _ _=>.int _⟩
 .cases e⟩
end
end D
namespace L2
open PySem PySem.Spec PyProof.Rows
section
variable {prog:Program}{w:World}{A:Around}{E:Value->Shared->Prop}{s:Shared}
end
section
variable {X:Cx}{e:Expr}{te:TE}{x y:Str}{p p' pos pos':Pos}
end
end L2
namespace D
open PySem PySem.Spec PyProof.Rows L2
def Fo:PyData->Option PyData
 |.list xs=>some (.list xs.reverse)
 |_=>none
@[simp] theorem Iu{xs:List PyData}:Fo (.list xs)=some (.list xs.reverse):=rfl
section
variable {X:Cx}{pos pos' p p':Pos}{e:Expr}{f:FE}
end
section
variable {X:Cx}{pos:Pos}
end
def dd:List Str->List Str
 |[]=>[]
 |a::r=>if a∈r then dd r else a::dd r
theorem dd_mem{x:Str}:∀{l:List Str},x∈dd l↔x∈l
 |[]=>Iff.rfl
 |a::r=>by
  unfold dd;have ih:=dd_mem (x:=x) (l:=r);split
  .rename_i h
   rw[ih,List.mem_cons];exact⟨.inr,fun z=>z.elim (fun e=>e ▸ h) id⟩
  .rw[List.mem_cons,List.mem_cons,ih]
theorem lG:∀l:List Str,(dd l).Nodup
 |[]=>by simp[dd]
 |a::r=>by
  unfold dd;have ih:=lG r;split
  .exact ih
  .rename_i h
   exact List.nodup_cons.mpr ⟨fun z=>h (dd_mem.mp z),ih⟩
section
variable {X:Cx}{pos:Pos}
end
end D
namespace L2
open PySem PySem.Spec PyProof.Rows
theorem xJ(t:SetTable)(n:Nat):(t.orStandIn n).led=t.led:=by
 unfold SetTable.orStandIn
 split <;> rfl
theorem yB(t:SetTable)(es:Array (Int×Value))(h:Int)(x:Value):(layNew t es h x).2.1.led=t.led:=by
 unfold layNew;split
 .exact xJ _ _
 .rfl
theorem AH{mask finger moves:Nat}{led plain:Bool}{hashes:Array Int}{t':SetTable}{order:Array Nat}(e:SetTable.laid mask finger moves led plain hashes=some (t',order)):t'.led=led:=by
 unfold SetTable.laid at e
 cases h:SetTable.layClean mask hashes with
 |none=>rw[h] at e;cases e
 |some o=>rw[h] at e;cases e;rfl
theorem xV(t:SetTable)(es:Array (Int×Value))(wanted:Nat):(relayAll t es wanted).2.1.led=t.led:=by
 unfold relayAll;split
 .rename_i t' order e
  dsimp only;split
  .exact AH e
  .rfl
 .rfl
theorem yC{mask finger moves:Nat}{led plain:Bool}{hashes:Array Int}{t':SetTable}{order:Array Nat}(e:SetTable.laid mask finger moves led plain hashes=some (t',order)):t'.plain=plain:=by
 unfold SetTable.laid at e
 cases h:SetTable.layClean mask hashes with
 |none=>rw[h] at e;cases e
 |some o=>rw[h] at e;cases e;rfl
theorem xx(t:SetTable)(es:Array (Int×Value))(wanted:Nat)(h:t.plain=false):(relayAll t es wanted).2.1.plain=false:=by
 unfold relayAll;split
 .rename_i t' order e
  dsimp only;split
  .exact(yC e).trans h
  .rfl
 .rfl
def eC(P:Program)(w:World)(h:Heap)(a:Addr)(es:Array (Int×Value))(led:Bool):Prop:=∃o ep t,h.get? a=some o/\o.ExactSet/\o.data=.set es ep t/\ElemsOf (strKind P w) es.toList/\es.size<scanBound/\t.fits es.size=true/\t.led=led/\(es.size=0\/t.plain=false)
section
variable {P:Program}{w:World}{A:Around}{E:Value->Shared->Prop}{s:Shared}
theorem pX{a:Addr}{o:Obj}{es es1:Array (Int×Value)}{ep:Nat}{t t2:SetTable}{h:Heap}(ho:h.get? a=some o)(hex:o.ExactSet)(hd:o.data=.set es ep t)(hel:ElemsOf (strKind P w) es1.toList)(hb:es1.size<scanBound)(hf:t2.fits es1.size=true)(hpn:t2.plain=false) :
  (h.update a (Obj.putSet es1 t2)).get? a=some { o with data:=.set es1 (ep+1) t2 }/\eC P w (h.update a (Obj.putSet es1 t2)) a es1 t2.led:=by
 obtain⟨g1,_⟩:=SetOf_store (knd:=strKind P w) (S':=fun k'=>es1.toList.any fun e=>(strKind P w).is k' e.2) ho hex hd hel (fun k'=>List.any_eq_true) hb hf;exact⟨g1,_,_,_,g1,hex,rfl,hel,hb,hf,rfl,.inr hpn⟩
theorem sN{g:Bool->Sem Unit}(hg:∀(b:Bool) (s₁:Shared) (Q':Unit->Shared->Prop),Q' () s₁->wpAny (model P w) A (g b) Q' E s₁){a:Addr}{o:Obj}{es es1:Array (Int×Value)}{ep:Nat}{t t2:SetTable}(ho:s.heap.get? a=some o)(hex:o.ExactSet)(hd:o.data=.set es ep t)
  (hel:ElemsOf (strKind P w) es1.toList) (hb:es1.size<scanBound) (hf:t2.fits es1.size=true) (hpn:t2.plain=false) {wasDummy:Bool}{R:Option Bool->Shared->Prop}
  (h:∀h' es',Heap.SameBut a s.heap h'->eC P w h' a es' t2.led->es'.toList.Perm es1.toList->R (some true) { s with heap:=h' }) :
  wpAny (model P w) A (do
    storeSet a es1 t2
    if (!wasDummy&&t2.tooFull)=true then do
      g (relayAll t2 es1 (SetTable.grown es1.size)).2.2
      storeSet a (relayAll t2 es1 (SetTable.grown es1.size)).1 (relayAll t2 es1 (SetTable.grown es1.size)).2.1
      pure (some true)
     else pure (some true)) R E s:=by
 obtain⟨k1,k2⟩:=pX (P:=P) (w:=w) ho hex hd hel hb hf hpn;have b1:=Heap.SameBut.update s.heap a (Obj.putSet es1 t2);refine wpAny_bind (wpAny_storeSet_of ho hd ?_ (fits_of_scanBound hb))
 by_cases hc:(!wasDummy&&t2.tooFull)=true
 .rw[if_pos hc]
  have hp:=relayAll_perm t2 es1 (SetTable.grown es1.size)
  have hz:(relayAll t2 es1 (SetTable.grown es1.size)).1.size<scanBound:=by rw[←Array.length_toList,hp.length_eq,Array.length_toList];exact hb
  refine wpAny_bind (hg _ _ _ (wpAny_bind (wpAny_storeSet_of k1 rfl ?_ (fits_of_scanBound hz))));obtain⟨_,k3⟩:=pX (P:=P) (w:=w) k1 hex rfl (hel.perm hp) hz (relayAll_fits t2 es1 (SetTable.grown es1.size)) (xx t2 es1 _ hpn);rw[xV] at k3;exact wpAny_pure (h _ _ (b1.trans (Heap.SameBut.update _ a _)) k3 hp)
 .rw[if_neg hc]
  exact wpAny_pure (h _ _ b1 k2 (List.Perm.refl _))
theorem add_str{a:Addr}{es:Array (Int×Value)}{led:Bool}{x:Str}{tk:Tok}{Q:Bool->Shared->Prop}(hS:eC P w s.heap a es led)(hroom:es.size+1<scanBound)
  (h0:(∃e∈es.toList,(strKind P w).is x e.2=true)->Q false s)
  (h1:(∀e∈es.toList,(strKind P w).is x e.2=false)->∀h' es',Heap.SameBut a s.heap h'->eC P w h' a es' led->es'.toList.Perm (es.toList++[((strKind P w).hash x,.str x tk)])->Q true { s with heap:=h' }) :
  wpAny (model P w) A (setAddHashed a (.str x tk) ((strKind P w).hash x)) Q E s:=by
 obtain⟨o,ep,t,ho,hex,hd,hel,hb,hf,hl,_⟩:=hS;have hk:(strKind P w).is x (.str x tk)=true:=strKind_is P w x tk;have hsc:(Value.str x tk).scannable=true:=rfl;unfold setAddHashed setAddHashedIn;refine wpAny_holding (wpAny_bind (wpAny_setState_of ho hd hf ?_));dsimp only;rw[byScan_of hsc hb hel,if_pos rfl];unfold setAddByScan;refine wpAny_bind (wpAny_bind (wpAny_rule (wpAny_bind (wpAny_setScan_of hk ho hd hf hel ?_))))
 cases hr:List.findIdx? (fun e=>(strKind P w).is x e.2) es.toList with
 |some j=>
  obtain⟨hj,hpj,_⟩:=List.findIdx?_eq_some_iff_getElem.mp hr;exact wpAny_pure (wpAny_pure (h0 ⟨_,List.getElem_mem hj,hpj⟩))
 |none=>
  have hno:∀e∈es.toList,(strKind P w).is x e.2=false:=fun e he=>by
   have:=List.findIdx?_eq_none_iff.mp hr e he;simpa using this
  have hgw:∀(b:Bool) (s₁:Shared) (Q':Unit->Shared->Prop),Q' () s₁->wpAny (model P w) A (match b with|true=>rule "set.scan.the-table-gave-way"|false=>pure ()) Q' E s₁:=fun b s₁ Q' hq=>by
   cases b <;> first|exact wpAny_pure hq|exact wpAny_rule hq
  have hperm:=layNew_perm t es ((strKind P w).hash x) (.str x tk);have hfits:=layNew_fits t es ((strKind P w).hash x) (.str x tk);have hled:=yB t es ((strKind P w).hash x) (.str x tk);dsimp only;generalize layNew t es ((strKind P w).hash x) (.str x tk)=L at hperm hfits hled ⊢;obtain⟨es1,t1,wasDummy,gave⟩:=L;dsimp only at hperm hfits hled ⊢;rw[Array.toList_push] at hperm;have hel1:ElemsOf (strKind P w) es1.toList:=(hel.push hk hsc).perm hperm
  have hb1:es1.size<scanBound:=by rw[←Array.length_toList,hperm.length_eq,List.length_append,Array.length_toList];simpa using hroom
  refine wpAny_bind (hgw _ _ _ ?_);have fin:∀h' es',Heap.SameBut a s.heap h'->eC P w h' a es' led->es'.toList.Perm es1.toList->Q true { s with heap:=h' }:=fun h' es' q1 q2 q3=>h1 hno h' es' q1 q2 (q3.trans hperm);split
  .refine wpAny_bind ?_
   rw[hashByValue_scannable 8 hsc];refine wpAny_pure ?_;refine sN (fun b s₁ Q' hq=>by cases b <;> first|exact wpAny_pure hq|exact wpAny_rule hq) ho hex hd hel1 hb1 ?_ rfl fun h' es' q1 q2 q3=>?_
   .split
    .exact hfits
    .exact SetTable.fits_plain_off hfits
   .have e:∀c:Bool,(if c=true then t1 else { t1 with plain:=false }).led=led:=fun c=>by cases c <;> exact hled.trans hl
    rw[e] at q2;exact wpAny_pure (fin h' es' q1 q2 q3)
  .rename_i hnp
   refine wpAny_bind (wpAny_pure ?_);simp only[↓reduceIte];refine sN (fun b s₁ Q' hq=>by cases b <;> first|exact wpAny_pure hq|exact wpAny_rule hq) ho hex hd hel1 hb1 hfits (by simpa using hnp) fun h' es' q1 q2 q3=>?_;rw[hled,hl] at q2;exact wpAny_pure (fin h' es' q1 q2 q3)
end
def keyV:Value->Str
 |.str k _=>k
 |_=>""
def dR(es:Array (Int×Value)):List Str:=es.toList.map fun e=>keyV e.2
section
variable {P:Program}{w:World}{A:Around}{s:Shared}
theorem uS{k:Str}{v:Value}(h:(strKind P w).is k v=true):keyV v=k:=by
 obtain⟨t,rfl⟩:=Value.isStrOf_shape h;rfl
theorem zy{es:Array (Int×Value)}(hel:ElemsOf (strKind P w) es.toList)(k:Str):(∃e∈es.toList,(strKind P w).is k e.2=true)↔k∈dR es:=by
 constructor
 .rintro⟨e,he,h⟩
  exact List.mem_map.mpr ⟨e,he,uS h⟩
 .intro h
  obtain⟨e,he,rfl⟩:=List.mem_map.mp h;obtain⟨⟨k',hk,_⟩,_⟩:=hel e he;exact⟨e,he,by rw[uS hk];exact hk⟩
def Met(val:Nat->Str)(i:Nat)(es:Array (Int×Value)):Prop:=(dR es).Nodup/\(∀k,k∈dR es↔∃j,j<i/\val j=k)/\es.size<=i
theorem Az{I S:Addr}{fp wr:List Addr}{n:Nat}{Pp:Nat->Value->Prop}{St:Nat->Heap->Prop}{led:Bool}{R:Result->Shared->Prop}(W:Walks P w A.in1 I fp wr n Pp St)(hSf:S∉fp)(val:Nat->Str)(hval:∀i v,Pp i v->∃t,v=.str (val i) t)(hb:n+1<scanBound) :
  ∀(k i:Nat) (s:Shared) (es:Array (Int×Value)),n-i=k->i<=n->St i s.heap->eC P w s.heap S es led->Met val i es ->
   (∀h' tk es',eC P w h' S es' led->Met val n es'->(∀b o,b∉S::wr->s.heap.get? b=some o->h'.get? b=some o)->R (.ok (.ret .none)) { s with heap:=h',toks:=tk }) ->
   codeAny (model P w) A (.builtin "set.update.loop" ⟨[.ref S,.ref I],[]⟩) R s:=by
 have hSw:S∉wr:=fun h=>hSf (W.sub _ h);intro k
 induction k with
 |zero=>
  intro i s es hk hi hst hS hm hR
  have hin:i=n:=by omega
  subst hin;refine codeAny_builtin F.entry_set_update_loop ?_;rw[Around.under_plainId F.plain_set_update_loop _];show wpAny _ A.in1 (pyNext (.ref I) >>= _) _ _ s;refine wpAny_bind (W.done s _ _ hst fun h' tk kk=>?_);show wpAny _ A.in1 (ret Value.none) _ _ _;refine wpAny_pure (hR h' tk es ?_ hm fun b o hb e=>kk b o (fun z=>hb (List.mem_cons_of_mem _ z)) e);obtain⟨o,ep,t,ho,rest⟩:=hS;exact⟨o,ep,t,kk S _ hSw ho,rest⟩
 |succ k ih=>
  intro i s es hk hi hst hS hm hR
  have hlt:i<n:=by omega
  refine codeAny_builtin F.entry_set_update_loop ?_;rw[Around.under_plainId F.plain_set_update_loop _];show wpAny _ A.in1 (pyNext (.ref I) >>= _) _ _ s;refine wpAny_bind (W.item i s _ _ hlt hst fun v h' tk hP hst' kk=>?_);obtain⟨t,rfl⟩:=hval i v hP
  have hS':eC P w h' S es led:=by
   obtain⟨o,ep,tb,ho,rest⟩:=hS;exact⟨o,ep,tb,kk S _ hSw ho,rest⟩
  show wpAny _ A.in1 (holding [Value.str (val i) t] (setAdd S (.str (val i) t)) >>= _) _ _ _;refine wpAny_bind (wpAny_holding ?_);unfold setAdd;refine wpAny_holding ?_;refine wpAny_bind ((PySem.strKind P w).pyHash (k:=val i) (strKind_is _ _ _ _) ?_);have hel:=hS';obtain⟨_,_,_,_,_,_,hel,_⟩:=hel;have ii:=zy hel
  have hroom:es.size+1<scanBound:=by have:=hm.2.2;omega
  have nxt:∀(h2:Heap) (es2:Array (Int×Value)) (tk2:Nat),Heap.SameBut S h' h2->eC P w h2 S es2 led->Met val (i+1) es2->codeAny (model P w) A (.builtin "set.update.loop" ⟨[.ref S,.ref I],[]⟩) R { s with heap:=h2,toks:=tk2 }:=fun h2 es2 tk2 sb q1 q2=>by
   refine ih (i+1) _ es2 (by omega) hlt (W.frame _ h' h2 hst' fun b hb o e=>?_) q1 q2 fun h3 tk3 es3 g1 g2 g3=>hR h3 tk3 es3 g1 g2 fun b o hb e=>g3 b o hb ?_
   .rw[sb.2 b (fun h:b=S=>hSf (by rw[←h];exact hb))];exact e
   .have hb':b≠S:=fun z=>hb (by rw[z];exact List.mem_cons_self)
    rw[sb.2 b hb'];exact kk b o (fun z=>hb (List.mem_cons_of_mem _ z)) e
  refine add_str (es:=es) (led:=led) hS' hroom (fun he=>?_) fun hno h2 es2 sb q1 qp=>?_
  .refine wpAny_pure ⟨plainId_quiet F.plain_set_update_loop _,nxt h' es _ (Heap.SameBut.refl _ _) hS' ⟨hm.1,fun k=>?_,by have:=hm.2.2;omega⟩⟩
   rw[hm.2.1 k];constructor
   .rintro⟨j,hj,e⟩;exact⟨j,by omega,e⟩
   .rintro⟨j,hj,e⟩
    by_cases z:j=i
    .subst z
     rw[←e];exact(hm.2.1 _).mp ((ii _).mp he)
    .exact⟨j,by omega,e⟩
  .have kp:(dR es2).Perm (dR es++[val i]):=by
    have:=qp.map fun e:Int×Value=>keyV e.2;simpa[dR,keyV] using this
   have nk:val i∉dR es:=fun z=>by
    obtain⟨e,he,h⟩:=(ii _).mpr z;rw[hno e he] at h;cases h
   refine wpAny_pure ⟨plainId_quiet F.plain_set_update_loop _,nxt h2 es2 _ sb q1 ⟨kp.symm.nodup ?_,fun k=>?_,?_⟩⟩
   .rw[List.nodup_append]
    exact⟨hm.1,by simp,fun a ha b hb=>by simp at hb;subst hb;exact fun z=>nk (z ▸ ha)⟩
   .rw[kp.mem_iff,List.mem_append,hm.2.1 k,List.mem_singleton]
    constructor
    .rintro(⟨j,hj,e⟩|e)
     .exact⟨j,by omega,e⟩
     .exact⟨i,by omega,e.symm⟩
    .rintro⟨j,hj,e⟩
     by_cases z:j=i
     .exact .inr (by rw[←e,z])
     .exact .inl ⟨j,by omega,e⟩
   .have:=qp.length_eq
    rw[List.length_append,List.length_singleton,Array.length_toList,Array.length_toList] at this;have:=hm.2.2;omega
end
section
variable {P:Program}{w:World}{A:Around}{E:Value->Shared->Prop}{s:Shared}
def fF(w:World):Bool:=!(w.params.followText "set-order")
def gB(led:Bool):Obj:={ cls:=.type "set",dict:=none,data:=.set #[] 0 (.fresh 0 0 led) }
theorem xO(a:Value){Q₁:Value->Shared->Prop}(h:Q₁ (.ref s.heap.objs.size) { s with heap:=s.heap.push (gB (fF w)) }) :
  codeAny (model P w) A (.call (.builtin "set.__new__") ⟨[.type "set",a],[]⟩) (wants Q₁ E) s:=by
 refine codeAny_of_tree ?_;show wpAny _ A.in1 (do checkBuiltinCall "set.__new__" ⟨[.type "set",a],[]⟩;again (.builtin "set.__new__" ⟨[.type "set",a],[]⟩)) _ _ s;refine wpAny_bind (wpAny_of_eq (PySem.F.newCall_set_1 a) (wpAny_pure ⟨plainId_quiet PySem.F.plain_set_new _,codeAny_builtin PySem.F.entry_set_new ?_⟩));rw[Around.under_plainId PySem.F.plain_set_new _];unfold Builtin.«set.__new__» Builtin.Frozenset.newClass;have hsub:=PySem.sub_set_self;obtain⟨hp,g,d,tk,os⟩:=s;dsimp only;wp_walk;refine wpAny_askSetting (wpAny_pure ?_);dsimp only;simp only[newObj];refine wpAny_bind (wpAny_alloc (wpAny_pure ?_));exact wpAny_pure h
end
section
set_option maxHeartbeats 3200000
variable {P:Program}{w:World}{A:Around}{E:Value->Shared->Prop}{s:Shared}
theorem Bp{vs:List Value}{ss:List Str}(h:StrsAre vs ss):∀(i:Nat) (v:Value),vs[i]? = some v->∃t,v=.str (ss.getD i "") t:=by
 induction h with
 |nil=>intro i v h;simp at h
 |cons _ _ _ ih=>
  intro i v h
  cases i with
  |zero=>simp at h;exact⟨_,by rw[←h];rfl⟩
  |succ i=>
   simp only[List.getElem?_cons_succ] at h;obtain⟨t,e⟩:=ih i v h;exact⟨t,by rw[e];rfl⟩
theorem zB{l S:Addr}{items:Array Value}{ss:List Str}{R:Result->Shared->Prop}(hh:A.handled=none)(hl:s.heap.IsList l items)(hi:StrsAre items.toList ss)(hb:items.size+1<scanBound)(hS:s.heap.get? S=some (gB (fF w)))(hlS:l≠S)
  (h:∀h' tk es,eC P w h' S es (fF w)->Met (fun i=>ss.getD i "") items.size es->(∀b o,b<s.heap.objs.size->b≠S->s.heap.get? b=some o->h'.get? b=some o)->R (.ok (.ret .none)) { s with heap:=h',toks:=tk }) :
  wpAny (model P w) A.in1 (Builtin.«set.__init__» ⟨[.ref S,.ref l],[]⟩)
   (fun fin s'=>match fin with | .done f=>R (.ok f) s' | .again c'=>c'.quiet=true/\codeAny (model P w) A c' R s') (fun e s'=>R (.error e) s') s:=by
 obtain⟨ol,hol,hcl,nl,hdl⟩:=hl;obtain⟨ocls,odict,odata,oslots⟩:=ol;simp only at hcl hdl;subst hcl;subst hdl;have hT:s.TypeIs (.ref S) "set":=⟨_,hS,rfl⟩;have hsls:=PySem.F.sub_list_set;have hslf:=PySem.F.sub_list_frozenset
 have hne:(Value.type "list" == Value.type "dict")=false:=by decide
 unfold gB at hS;unfold Builtin.«set.__init__» noKeywords Builtin.Frozenset.updateFrom;generalize hPI:pyIter=PI;wp_walk;subst hPI;refine wpAny_pyIter_list (items:=items) ⟨_,hol,rfl,nl,rfl⟩ ?_;refine wpAny_bind (wpAny_runValue ?_);have lt1:l<s.heap.objs.size:=Heap.lt_size hol;have lt2:S<s.heap.objs.size:=Heap.lt_size hS;have hl1:(s.heap.push { cls:=.type "list_iterator",data:=.fields #[.ref l,.int 0 0] }).IsList l items:=⟨_,Heap.get?_push_of_some _ hol,rfl,nl,rfl⟩;have hval:∀(i:Nat) (v:Value),items[i]? = some v->∃t,v=.str (ss.getD i "") t:=fun i v hv=>Bp hi i v (by rw[Array.getElem?_toList];exact hv)
 have hSf:S∉[s.heap.objs.size,l]:=by
  simp only[List.mem_cons,List.not_mem_nil,or_false,not_or];exact⟨Nat.ne_of_lt lt2,fun z=>hlS z.symm⟩
 refine Az (P:=P) (w:=w) (led:=fF w) (Walks.list (A:=A.in1.in1) (by simp[hh]) s.heap.objs.size l (Nat.ne_of_lt lt1) items) hSf (fun i=>ss.getD i "") hval hb items.size 0 _ #[] (by omega) (Nat.zero_le _) ⟨⟨_,Heap.get?_push_size _ rfl,rfl,rfl⟩,hl1⟩ ?_ ⟨by simp[dR],fun k=>by simp[dR],by simp⟩ fun h' tk es g1 g2 g3=>?_
 .exact⟨_,0,_,Heap.get?_push_of_some _ hS,⟨rfl,rfl,rfl⟩,rfl,fun e he=>by simp at he,by decide,rfl,rfl,.inl rfl⟩
 .refine wpAny_pure (wpAny_pure (h h' tk es g1 g2 fun b o hb hne' e=>g3 b o ?_ (Heap.get?_push_of_some _ e)))
  simp only[List.mem_cons,List.not_mem_nil,or_false,not_or];exact⟨hne',Nat.ne_of_lt hb⟩
end
section
set_option maxHeartbeats 3200000
variable {P:Program}{w:World}{A:Around}{E:Value->Shared->Prop}{s:Shared}
theorem xR{l:Addr}{items:Array Value}{ss:List Str}{Q:Value->Shared->Prop}(hh:A.handled=none)(hl:s.heap.IsList l items)(hi:StrsAre items.toList ss)(hb:items.size+1<scanBound)
  (h:∀h' tk es,eC P w h' s.heap.objs.size es (fF w)->Met (fun i=>ss.getD i "") items.size es->(∀b o,s.heap.get? b=some o->h'.get? b=some o)->Q (.ref s.heap.objs.size) { s with heap:=h',toks:=tk }) :
  wpAny (model P w) A (call (.type "set") [.ref l]) Q E s:=by
 obtain⟨c,tl,hmro⟩:=PySem.F.called_set.mro;have hmade:=PySem.F.called_set.made;have hsub:=PySem.F.called_set.sub;have g1:=PySem.F.called_set.notType;have g2:=PySem.F.called_set.canCreate;have hct:=PySem.F.typeCall_set_1 (.ref l);refine wpAny_call (codeAny_of_tree ?_);show wpAny _ _ (callAny (.type "set") _) _ _ _;refine wpAny_pure ⟨Code.quiet_builtin _ (by decide +kernel),codeAny_builtin PySem.F.entry_type_call ?_⟩;rw[Around.under_plain (weight_type_call_type "set" [.ref l] []) rfl]
 repeat (any_goals (first|assumption|wp_step))
 refine codeAny_mono (xO (.ref l) (E:=E) (Q₁:=fun obj s₁=>obj=.ref s.heap.objs.size/\s₁ = { s with heap:=s.heap.push (gB (fF w)) }) ⟨rfl,rfl⟩) fun r s₁ hr=>?_
 cases r with
 |error e=>exact hr
 |ok fl=>
  cases fl with
  |ret obj=>
   obtain⟨rfl,rfl⟩:=hr;have hS:(s.heap.push (gB (fF w))).get? s.heap.objs.size=some (gB (fF w)):=Heap.get?_push_size _ rfl;have hT:Shared.TypeIs { s with heap:=s.heap.push (gB (fF w)) } (.ref s.heap.objs.size) "set":=⟨_,hS,rfl⟩;have hli:=PySem.F.called_set.init.lookup;have hbi:=PySem.F.called_set.init.bind (.ref s.heap.objs.size)
   repeat (any_goals (first|assumption|wp_step))
   refine codeAny_mono (codeAny_call_builtin (R:=wants (fun r s₂=>r=.none/\Q (.ref s.heap.objs.size) s₂) E) PySem.F.called_set.init.plain PySem.F.entry_set_init (PySem.check_set_init_1 hT ?_)) fun r₂ s₂ hr₂=>?_
   .have lt:l<s.heap.objs.size:=by
     obtain⟨o,e,_⟩:=hl;exact Heap.lt_size e
    refine zB (l:=l) (items:=items) (ss:=ss) (by simp[hh]) (hl.push _) hi hb hS (Nat.ne_of_lt lt) fun h' tk es q1 q2 q3=>?_;refine⟨rfl,h h' tk es q1 q2 fun b o e=>q3 b o ?_ (Nat.ne_of_lt (Heap.lt_size e)) (Heap.get?_push_of_some _ e)⟩;show b<(s.heap.push _).objs.size;rw[Heap.size_push];exact Nat.lt_succ_of_lt (Heap.lt_size e)
   .cases r₂ with
    |error e=>exact hr₂
    |ok fl₂=>
     cases fl₂ with
     |ret r=>
      obtain⟨rfl,hq⟩:=hr₂
      repeat (any_goals (first|assumption|wp_step))
     |_=>exact hr₂.elim
  |_=>exact hr.elim
end
section
variable {P:Program}{w:World}{A:Around}{E:Value->Shared->Prop}{s:Shared}
end
section
variable {P:Program}{w:World}{A:Around}{E:Value->Shared->Prop}{s:Shared}
def TupAt(h:Heap)(q:Addr)(pl:Array Value):Prop:=∃o n,h.get? q=some o/\o.data=.seq pl n
end
section
variable {P:Program}{w:World}{A:Around}{E:Value->Shared->Prop}{s:Shared}
end
section
variable {P:Program}{w:World}{A:Around}{E:Value->Shared->Prop}{s:Shared}
end
end L2
namespace D
open PySem PySem.Spec PyProof.Rows L2
theorem Al:∀{a b:List Str},a.Nodup->b.Nodup->(∀x,x∈a↔x∈b)->a.Perm b
 |a,b,ha,hb,h=>(List.perm_ext_iff_of_nodup ha hb).mpr h
section
variable {X:Cx}
theorem boot_set:bootBuiltins "set"=some (.type "set"):=by rfl
end
section
variable {P:Program}{w:World}{A:Around}{E:Value->Shared->Prop}{s:Shared}
open PySem.SeqAt in
open PySem.SeqAt in
end
section
variable {X:Cx}{pins:List (Addr×Obj)}{σ:L2.St}{H:Hp}{s:Shared}{O:Addr->Prop}{A:Around}
end
section
variable {P:Program}{w:World}{A:Around}{E:Value->Shared->Prop}{s:Shared}
end
section
variable {X:Cx}{pos:Pos}
end
section
variable {X:Cx}{pos:Pos}{e:Expr}{fe:FE}
end
section
variable {K:Frag}{O₀:Addr->Prop}{H₀:Hp}{F:List ((Addr->Prop)×Hp)}{ts:List Addr}{O:Addr->Prop}{H H1:Hp}{σ:L2.St}{ρ:Rho}{T T1:Tp}
end
section
variable {X:Cx}{pos:Pos}
end
section
variable {X:Cx}{pos pos2 pos3:Pos}
end
inductive LnT(P:Hp->(Bool->Hp->Prop)->Prop):Hp->(Bool->Hp->Prop)->Prop where
 |done {H:Hp}{Q:Bool->Hp->Prop}:P H Q->LnT P H Q
 |frz {H:Hp}{Q:Bool->Hp->Prop}{a:Addr}{kvs:List (Key×V)}:H a=some (.dK kvs)->(∀o,LnT P (upd H a (.frz o (.dK kvs))) (fun b H2=>H2 a=some (.frz o (.dK kvs))/\Q b (upd H2 a (.dK kvs))))->LnT P H Q
section
variable {X:Cx}{pos pos2 pos3 pos4:Pos}
end
section
variable {X:Cx}{pos:Pos}
end
section
variable {X:Cx}
def EJ(K:Frag)(te:TE):TE:=fun σ H Q=>te σ H fun v H1=>∃a ss,v=.ref a/\SqL K H1 a (ss.map V.str)/\ss.length<1000/\Q (.int ((dd ss).length:Int)) H1
theorem BP{e:Expr}{te:TE}{p p' pos pos':Pos}(hcm:X.calm=true)(hg:Gl X "len")(hm:X.mg "len"=none)(hg':Gl X "set")(hm':X.mg "set"=none)(he:PE X e te)
  (hs:starEach [.Call (.Name "set" p') [e] [] pos'] X.env=(false,eval (.Call (.Name "set" p') [e] [] pos') X.env)::starEach [] X.env) (hs':starEach [e] X.env=(false,eval e X.env)::starEach [] X.env)
  (hpl:(backTo pos (starEach [] X.env)).any (·.1)=false) (hpl':(backTo pos' (starEach [] X.env)).any (·.1)=false) :
  PE X (.Call (.Name "len" p) [.Call (.Name "set" p') [e] [] pos'] [] pos) (EJ X.K te):=by
 intro pins s σ H Q I h;refine wpAny_Call_Name_kw (gN I hg hm boot_len ?_ (by decide) (by decide));refine PyProof.Rows.callWith_builtin1 ?_ hs hpl;rw[hs];show wpAny _ _ (spliced ((false,eval (.Call (.Name "set" p') [e] [] pos') X.env)::backTo pos (starEach [] X.env))) _ _ s;refine Calls.spliced_cons ?_;refine wpAny_Call_Name_kw (gN I hg' hm' boot_set ?_ (by decide) (by decide));refine PyProof.Rows.callWith_type1 ?_ hs' hpl';rw[hs'];show wpAny _ _ (spliced ((false,eval e X.env)::backTo pos' (starEach [] X.env))) _ _ s;refine Calls.spliced_cons (thn (he pins s σ H _ I h) fun u s1 ⟨v,H1,I1,r1,a,ss,ev,hq,hl,q1⟩=>?_);subst ev;cases r1;refine Calls.spliced_nil ?_;obtain⟨its,rv,pl,hz⟩:=I1.list hq;have hlen:=rv.length;rw[List.length_map] at hlen;have hsA:=ms rv;refine xR (I1.ok.hd hcm) pl.isList (by simpa using hsA) (by simp only[List.size_toArray];have:scanBound=4096:=rfl;omega) fun h' tk es hS met keep=>?_
 have hmem:∀x,x∈dR es↔x∈dd ss:=fun x=>by
  rw[dd_mem,met.2.1 x];simp only[List.size_toArray];constructor
  .rintro⟨j,hj,rfl⟩
   have hj':j<ss.length:=by omega
   rw[List.getD_eq_getElem?_getD,List.getElem?_eq_getElem hj',Option.getD_some];exact List.getElem_mem _
  .intro hx
   obtain⟨j,hj,rfl⟩:=List.getElem_of_mem hx;exact⟨j,by omega,by rw[List.getD_eq_getElem?_getD,List.getElem?_eq_getElem hj,Option.getD_some]⟩
 have hpd:(dR es).Perm (dd ss):=Al met.1 (lG ss) hmem
 have hsz:es.size=(dd ss).length:=by
  have:=hpd.length_eq;simpa[dR] using this
 obtain⟨o,ep,t,ho,hex,hd,hel,hb,hf,_⟩:=hS;refine Calls.spliced_nil ?_;refine call_len_set ho hex hd hf (by have:scanBound=4096:=rfl;omega) ?_;rw[hsz];exact⟨.int _,H1,I1.kept keep,⟨_,rfl⟩,q1⟩
def f9:PyData->Option PyData
 |.list xs=>match de xs with
  |some ss=>if ss.length<1000 then some (.int ((dd ss).length:Int)) else none
  |none=>none
 |_=>none
theorem AB{x y:PyData}(h:f9 x=some y):∃xs ss,x=.list xs/\de xs=some ss/\ss.length<1000/\y=.int ((dd ss).length:Int):=by
 cases x with
 |list xs=>
  simp only[f9] at h;split at h
  .rename_i ss hs
   split at h
   .rename_i hl
    cases h;exact⟨xs,ss,rfl,hs,hl,rfl⟩
   .cases h
  .cases h
 |_=>cases h
theorem ug{pos pos' p p':Pos}{e:Expr}{f:FE}(hm:X.mg "len"=none)(hm':X.mg "set"=none)(he:DE X e f)(hcm:X.calm=true:=by rfl)(hg:Gl X "len":=by rfl)(hg':Gl X "set":=by rfl)
  (hs:starEach [.Call (.Name "set" p') [e] [] pos'] X.env=(false,eval (.Call (.Name "set" p') [e] [] pos') X.env)::starEach [] X.env:=by exact bu rfl) (hs':starEach [e] X.env=(false,eval e X.env)::starEach [] X.env:=by exact bu rfl)
  (hpl:(backTo pos (starEach [] X.env)).any (·.1)=false:=by exact cg rfl) (hpl':(backTo pos' (starEach [] X.env)).any (·.1)=false:=by exact cg rfl) :
  DE X (.Call (.Name "len" p) [.Call (.Name "set" p') [e] [] pos'] [] pos) (fUn f9 f):=by
 refine⟨?_⟩;refine br (BP hcm hg hm hg' hm' he.pe hs hs' hpl hpl') fun σ H Q=>?_;rintro⟨O,ts,ρ,T,w,T',hc,re,e,q⟩;obtain⟨w1,T1,e1,e⟩:=aL e;obtain⟨x,d,hv,hd,rfl,rfl⟩:=gH e;obtain⟨xs,ss,rfl,hs',hl,rfl⟩:=AB hd;refine⟨O,ts,ρ,T,w1,T',hc,re,e1,fun v1 H1 s1 hc1 r1=>?_⟩;obtain⟨a,vs,rfl,t,r⟩:=(hc1.view r1 hv).lst;have ev:=kK r hs';subst ev;exact⟨a,ss,rfl,t,hl,q _ _ s1 hc1 (.int _)⟩
end
section
variable {X:Cx}{pos:Pos}
def uo(i j k m:Nat)(ρ:Rho)(w:W)(T:Tp):Option ((Fl×Rho)×Tp):=match w with
 |.d (.list [a,b,c,d])=>some ((.nx,(((ρ.set i (some (.d a))).set j (some (.d b))).set k (some (.d c))).set m (some (.d d))),T)
 |_=>none
def jy(i j k m:Nat)(f:FE):FS:=fun ρ T=>bnd (f ρ T) (uo i j k m ρ)
theorem sD{i j k m:Nat}{x y z u:Str}{e:Expr}{f:FE}{n:Nat}{px py pz pu tp:Pos}(hN:X.N.Nodup)(he:DE X e f)(hi:X.N[i]? = some x:=by rfl)(hj:X.N[j]? = some y:=by rfl)(hk:X.N[k]? = some z:=by rfl)(hm:X.N[m]? = some u:=by rfl)(hx:Loc X.env.scope x:=by first|exact Or.inl rfl|exact Or.inr rfl)(hy:Loc X.env.scope y:=by first|exact Or.inl rfl|exact Or.inr rfl)(hz:Loc X.env.scope z:=by first|exact Or.inl rfl|exact Or.inr rfl)(hu:Loc X.env.scope u:=by first|exact Or.inl rfl|exact Or.inr rfl)
  (hf:X.fn x=true\/X.env.scope.names.lookup x=some .local:=by first|exact .inl rfl|exact .inr rfl|assumption) (hf':X.fn y=true\/X.env.scope.names.lookup y=some .local:=by first|exact .inl rfl|exact .inr rfl|assumption) (hf2:X.fn z=true\/X.env.scope.names.lookup z=some .local:=by first|exact .inl rfl|exact .inr rfl|assumption) (hf3:X.fn u=true\/X.env.scope.names.lookup u=some .local:=by first|exact .inl rfl|exact .inr rfl|assumption) (hc:X.calm=true:=by rfl)
  (hs:swapsWithSole [.Tuple [.Name x px,.Name y py,.Name z pz,.Name u pu] n tp] e pos.line X.env=pure false:=by rfl) (hw:swappedStores [.Tuple [.Name x px,.Name y py,.Name z pz,.Name u pu] n tp] e X.env=pure none:=by rfl)
  (h1:(assignEach [.Tuple [.Name x px,.Name y py,.Name z pz,.Name u pu] n tp] X.env).map (·.2)=[assign (.Tuple [.Name x px,.Name y py,.Name z pz,.Name u pu] n tp) X.env]:=by rfl):DS X (.Assign [.Tuple [.Name x px,.Name y py,.Name z pz,.Name u pu] n tp] e pos) (jy i j k m f):=by
 refine⟨?_⟩;refine cj (uC he.pe (BO hc (ip (gC hN hi hx hf) (ip (gC hN hj hy hf') (ip (gC hN hk hz hf2) (ip (gC hN hm hu hf3) tG))))) hs hw h1) fun D σ H=>?_;rintro⟨O₀,H₀,F,ts,O,ρ,T,fl,ρ',T',rs,e,q⟩;obtain⟨w,T1,e1,e⟩:=aL e;refine⟨O,ts,ρ,T,w,T1,rs.hc,rs.re,e1,fun v H1 s1 hc1 r1=>?_⟩;unfold uo at e;split at e
 .rename_i a b c d
  cases e;have rs1:=rs.step s1 hc1;have r1':Rep X.K O H1 v (.list [a,b,c,d]):=r1
  cases r1' with
  |lst t r=>
   cases r with
   |cons ra r=>
    cases r with
    |cons rb r=>
     cases r with
     |cons rc r=>
      cases r with
      |cons rd r=>
       cases r;exact⟨_,_,rfl,t.sq,rfl,_,_,rfl,_,_,rfl,_,_,rfl,_,_,rfl,rfl,q O _ _ ((((rs1.set (w:=.d a) ra fun _ z=>nomatch z).set (w:=.d b) rb fun _ z=>nomatch z).set (w:=.d c) rc fun _ z=>nomatch z).set (w:=.d d) rd fun _ z=>nomatch z)⟩
 .cases e
end
theorem DH{X:Cx}:OpR X (compareOp .Is) (fun x y H Q=>∃b c,x=.bl b/\y=.bl c/\Q (.bl (b == c)) H):=by
 intro pins s σ H x y v u Q I rx ry h;obtain⟨b,c,rfl,rfl,q⟩:=h;cases rx;cases ry;exact is_bool ⟨.bl (b == c),H,I,rfl,q⟩
def gk:PyData->PyData->Option PyData
 |.bool a,.bool b=>some (.bool (a == b))
 |_,_=>none
theorem vG{X:Cx}:OpD X (compareOp .Is) gk:=⟨_,DH,fun O ts H T v1 v2 x y d Q hc h1 h2 e q=>by
 unfold gk at e;split at e
 .cases e
  exact⟨_,_,h1.bl,h2.bl,q _ H (.refl _ _) hc (.bl _)⟩
 .cases e⟩
def DfL(K:Frag)(tp:Nat->Stmt):List (Str×Nat)->Prop
 |[]=>True
 |(x,i)::r=>Df K x (tp i)/\DfL K tp r
theorem A3{K:Frag}{tp:Nat->Stmt}{x:Str}{i:Nat}{L:List (Str×Nat)}(a:Df K x (tp i))(r:DfL K tp L):DfL K tp ((x,i)::L):=⟨a,r⟩
theorem DfL.at{K:Frag}{tp:Nat->Stmt}{x:Str}{i:Nat}:∀{L:List (Str×Nat)},DfL K tp L->L.lookup x=some i->Df K x (tp i)
 |[],_,e=>nomatch e
 |(y,j)::r,h,e=>by
  rw[List.lookup_cons] at e;split at e
  .rename_i hx
   cases e;rw[eq_of_beq hx];exact h.1
  .exact h.2.at e
def ZL(K:Frag):List Str->Prop
 |[]=>True
 |x::r=>PySem.W.nsIn K mainGlobals x=some none/\ZL K r
theorem Bj{K:Frag}{x:Str}{L:List Str}(a:PySem.W.nsIn K mainGlobals x=some none)(r:ZL K L):ZL K (x::L):=⟨a,r⟩
theorem ZL.at{K:Frag}{x:Str}:∀{L:List Str},ZL K L->L.contains x=true->PySem.W.nsIn K mainGlobals x=some none
 |[],_,e=>nomatch e
 |y::r,h,e=>by
  rw[List.contains_cons,Bool.or_eq_true] at e
  rcases e with e|e
  .rw[eq_of_beq e];exact h.1
  .exact h.2.at e
def IL(K:Frag):List (Str×Int)->Prop
 |[]=>True
 |(x,i)::r=>(∃t,PySem.W.nsIn K mainGlobals x=some (some (.int i t)))/\IL K r
theorem Cd{K:Frag}{x:Str}{i:Int}{t:Tok}{L:List (Str×Int)}(a:PySem.W.nsIn K mainGlobals x=some (some (.int i t)))(r:IL K L):IL K ((x,i)::L):=⟨⟨t,a⟩,r⟩
theorem IL.at{K:Frag}{x:Str}{i:Int}:∀{L:List (Str×Int)},IL K L->L.lookup x=some i->∃t,PySem.W.nsIn K mainGlobals x=some (some (.int i t))
 |[],_,e=>nomatch e
 |(y,j)::r,h,e=>by
  rw[List.lookup_cons] at e;split at e
  .rename_i hx
   cases e;rw[eq_of_beq hx];exact h.1
  .exact h.2.at e
def SL(K:Frag):List (Str×Str)->Prop
 |[]=>True
 |(x,i)::r=>(∃t,PySem.W.nsIn K mainGlobals x=some (some (.str i t)))/\SL K r
theorem Br{K:Frag}{x i:Str}{t:Tok}{L:List (Str×Str)}(a:PySem.W.nsIn K mainGlobals x=some (some (.str i t)))(r:SL K L):SL K ((x,i)::L):=⟨⟨t,a⟩,r⟩
theorem SL.at{K:Frag}{x i:Str}:∀{L:List (Str×Str)},SL K L->L.lookup x=some i->∃t,PySem.W.nsIn K mainGlobals x=some (some (.str i t))
 |[],_,e=>nomatch e
 |(y,j)::r,h,e=>by
  rw[List.lookup_cons] at e;split at e
  .rename_i hx
   cases e;rw[eq_of_beq hx];exact h.1
  .exact h.2.at e
structure Bz(K:Frag)(mg:Str->Option Value)(z:List Str)(i:List (Str×Int))(s:List (Str×Str)):Prop where
 z:∀{x:Str} (_:z.contains x=true:=by decide +kernel),mg x=none
 i:∀{x:Str}{j:Int} (_:i.lookup x=some j:=by decide +kernel),∃t,mg x=some (.int j t)
 s:∀{x y:Str} (_:s.lookup x=some y:=by decide +kernel),∃t,mg x=some (.str y t)
theorem FZ{K:Frag}{h:Heap}{mg:Str->Option Value}{z:List Str}{i:List (Str×Int)}{s:List (Str×Str)}(X:K.In h)(G:h.Ns mainGlobals mg)(a:ZL K z)(b:IL K i)(c:SL K s):Bz K mg z i s:=⟨fun e=>PySem.W.mg_none_of X G (a.at e),fun e=>let ⟨t,q⟩:=b.at e;⟨t,PySem.W.mg_of X G q⟩,fun e=>let ⟨t,q⟩:=c.at e;⟨t,PySem.W.mg_of X G q⟩⟩
structure Ev(P:Program)(w:World)(K:Frag)(mg:Str->Option Value)(base:Heap)(B:Prop)(tp:Nat->Stmt)(L:List (Str×Nat)):Prop where
 x:∃h:Heap,K.In h/\h.Ns mainGlobals mg
 b:B
 d:DfL K tp L
def scB(N P:List Str)(sc:Scope):Bool:=decide (sc.kind=.function)&&!sc.isCoroutine&&!sc.isGenerator&&decide N.Nodup&&decide (N.take P.length=P)&&P.all (fun x=>decide (sc.names.lookup x=some .local)||decide (sc.names.lookup x=some .cell))&&sc.names.all fun y=>decide (y.2≠.free)
theorem iE{N P:List Str}{sc:Scope}(h:scB N P sc=true):FnScope N P sc:=by
 simp only[scB,Bool.and_eq_true,decide_eq_true_eq,Bool.not_eq_true',List.all_eq_true,Bool.or_eq_true] at h;exact⟨h.1.1.1.1.1.1,h.1.1.1.1.1.2,h.1.1.1.1.2,h.1.1.1.2,h.1.1.2,h.1.2,h.2⟩
theorem bl1{α:Type}{p:List α->Prop}(h:∀a,p [a]):∀us,us.length=1->p us
 |[a],_=>h a
theorem bl2{α:Type}{p:List α->Prop}(h:∀a b,p [a,b]):∀us,us.length=2->p us
 |[a,b],_=>h a b
theorem bl3{α:Type}{p:List α->Prop}(h:∀a b c,p [a,b,c]):∀us,us.length=3->p us
 |[a,b,c],_=>h a b c
section
variable {P:Program}{w:World}{K:Frag}{mg:Str->Option Value}{base:Heap}{B:Prop}{tp:Nat->Stmt}{L:List (Str×Nat)}{x:Str}{ps:List Str}{k:Nat}{m:FS}
theorem oQ{sp:Sp}(E:Ev P w K mg base B tp L)(i:Nat)(ok:∀f fd,Fun K x x (tp i) f fd->FnOk P w K mg base CX0 k f fd ps sp)(e:L.lookup x=some i:=by decide +kernel)
  (hb:∀(kV doc pm:Value) (an:Option Addr) (cdv ct:Value) (us:List Value),us.length=ps.length->bindArgs (PySem.W.fnOf x x (dt (tp i)) (cz (tp i)) (bp (tp i)) .none kV doc pm an cdv ct) ⟨us,[]⟩=pure (ps.zip us):=by
   intro _ _ _ _ _ _;first|(show ∀us:List Value,us.length=0->_;exact D.bl0 rfl)|(show ∀us:List Value,us.length=1->_;exact D.bl1 fun _=>rfl)|(show ∀us:List Value,us.length=2->_;exact D.bl2 fun _ _=>rfl)|(show ∀us:List Value,us.length=3->_;exact D.bl3 fun _ _ _=>rfl)|(show ∀us:List Value,us.length=4->_;exact D.bl4 fun _ _ _ _=>rfl)|(show ∀us:List Value,us.length=5->_;exact D.bl5 fun _ _ _ _ _=>rfl)|(show ∀us:List Value,us.length=6->_;exact D.bl6 fun _ _ _ _ _ _=>rfl)):Fn P w K mg base x ps k sp:=
 let ⟨_,X,G⟩:=E.x
 (E.d.at e).fn X G hb ok
theorem aU(E:Ev P w K mg base B tp L)(i:Nat)(N:List Str)(hbody:∀{f:Addr}{cdv:Value}{A:Around}{outer:List Env}{s:Shared}{H:Hp}{E:XK},B->FnScope N ps (bp (tp i))->Room k (A.deeper (envOfC x (bp (tp i)) s.heap.objs.size f cdv))->DSs (eF CX0 P w K mg base N x (bp (tp i)) f cdv A outer s H E).nox (cz (tp i)) m)
  (S:scB N ps (bp (tp i))=true:=by decide +kernel) (e:L.lookup x=some i:=by decide +kernel)
  (hb:∀(kV doc pm:Value) (an:Option Addr) (cdv ct:Value) (us:List Value),us.length=ps.length->bindArgs (PySem.W.fnOf x x (dt (tp i)) (cz (tp i)) (bp (tp i)) .none kV doc pm an cdv ct) ⟨us,[]⟩=pure (ps.zip us):=by
   intro _ _ _ _ _ _;first|(show ∀us:List Value,us.length=0->_;exact D.bl0 rfl)|(show ∀us:List Value,us.length=1->_;exact D.bl1 fun _=>rfl)|(show ∀us:List Value,us.length=2->_;exact D.bl2 fun _ _=>rfl)|(show ∀us:List Value,us.length=3->_;exact D.bl3 fun _ _ _=>rfl)|(show ∀us:List Value,us.length=4->_;exact D.bl4 fun _ _ _ _=>rfl)|(show ∀us:List Value,us.length=5->_;exact D.bl5 fun _ _ _ _ _=>rfl)|(show ∀us:List Value,us.length=6->_;exact D.bl6 fun _ _ _ _ _ _=>rfl)):Fn P w K mg base x ps (k+1) (spM K ps.length (aK N.length m)):=oQ E i (fun _ _ F=>dfn F (iE S) fun _ _ _ _ _ _ hr=>hbody E.b (iE S) hr) e hb
theorem FM(E:Ev P w K mg base B tp L)(i:Nat)(N:List Str)(hbody:∀{f:Addr}{cdv:Value}{A:Around}{outer:List Env}{s:Shared}{H:Hp}{E:XK},B->FnScope N ps (bp (tp i))->Room k (A.deeper (envOfC x (bp (tp i)) s.heap.objs.size f cdv))->DSs (eF CX0 P w K mg base N x (bp (tp i)) f cdv A outer s H E).nox (cz (tp i)) m)
  (S:scB N ps (bp (tp i))=true:=by decide +kernel) (e:L.lookup x=some i:=by decide +kernel)
  (hb:∀(kV doc pm:Value) (an:Option Addr) (cdv ct:Value) (us:List Value),us.length=ps.length->bindArgs (PySem.W.fnOf x x (dt (tp i)) (cz (tp i)) (bp (tp i)) .none kV doc pm an cdv ct) ⟨us,[]⟩=pure (ps.zip us):=by
   intro _ _ _ _ _ _;first|(show ∀us:List Value,us.length=0->_;exact D.bl0 rfl)|(show ∀us:List Value,us.length=1->_;exact D.bl1 fun _=>rfl)|(show ∀us:List Value,us.length=2->_;exact D.bl2 fun _ _=>rfl)|(show ∀us:List Value,us.length=3->_;exact D.bl3 fun _ _ _=>rfl)|(show ∀us:List Value,us.length=4->_;exact D.bl4 fun _ _ _ _=>rfl)|(show ∀us:List Value,us.length=5->_;exact D.bl5 fun _ _ _ _ _=>rfl)|(show ∀us:List Value,us.length=6->_;exact D.bl6 fun _ _ _ _ _ _=>rfl)):Fn P w K mg base x ps (k+1) (spO K ps.length (iG N.length m)):=oQ E i (fun _ _ F=>GK F (iE S) fun _ _ _ _ _ _ hr=>hbody E.b (iE S) hr) e hb
theorem gf(E:Ev P w K mg base B tp L)(i:Nat){n:Nat}(e:L.lookup x=some i:=by decide +kernel)
  (hb:∀(kV doc pm:Value) (an:Option Addr) (cdv ct:Value) (us:List Value),us.length=ps.length->bindArgs (PySem.W.fnOf x x (dt (tp i)) (cz (tp i)) (bp (tp i)) .none kV doc pm an cdv ct) ⟨us,[]⟩=pure (ps.zip us):=by
   intro _ _ _ _ _ _;first|(show ∀us:List Value,us.length=0->_;exact D.bl0 rfl)|(show ∀us:List Value,us.length=1->_;exact D.bl1 fun _=>rfl)|(show ∀us:List Value,us.length=2->_;exact D.bl2 fun _ _=>rfl)|(show ∀us:List Value,us.length=3->_;exact D.bl3 fun _ _ _=>rfl)|(show ∀us:List Value,us.length=4->_;exact D.bl4 fun _ _ _ _=>rfl)|(show ∀us:List Value,us.length=5->_;exact D.bl5 fun _ _ _ _ _=>rfl)|(show ∀us:List Value,us.length=6->_;exact D.bl6 fun _ _ _ _ _ _=>rfl)):Fn P w K mg base x ps k (spM K n fun _ _=>none):=oQ E i (fun _ _ _=>Co) e hb
theorem FN{f:Addr}{fd:FuncData}{i:Nat}(E:Ev P w K mg base B tp L)(N:List Str)(F:Fun K x x (tp i) f fd)(hbody:∀{cdv:Value}{A:Around}{outer:List Env}{s:Shared}{H:Hp}{E:XK},B->FnScope N ps (bp (tp i))->Room k (A.deeper (envOfC x (bp (tp i)) s.heap.objs.size f cdv))->DSs (eF CX0 P w K mg base N x (bp (tp i)) f cdv A outer s H E).nox (cz (tp i)) m)
  (S:scB N ps (bp (tp i))=true:=by decide +kernel):FnOk P w K mg base CX0 (k+1) f fd ps (spM K ps.length (aK N.length m)):=dfn F (iE S) fun _ _ _ _ _ _ hr=>hbody E.b (iE S) hr
theorem f6{p:Nat->Prop}(z:p 0)(s:∀n,p n->p (n+1)):∀n,p n
 |0=>z
 |n+1=>s n (f6 z s n)
end
section
variable {X:Cx}{name p1 p2 p3 p4 p5 p6:Str}{k k':Nat}{m:FnM}{e1 e2 e3 e4 e5 e6:Expr}{g1 g2 g3 g4 g5 g6:FE}{p pos:Pos}
theorem aW(F:Fn X.prog X.w X.K X.mg X.base name [p1] k (spM X.K 1 m))(hr:Room k' X.A)(a1:DE X e1 g1)(h:k<=k':=by omega)(hg:Gl X name:=by exact rfl)(hdb:(name == ("__debug__" : Str))=false:=by decide)(n1:noStar e1=true:=by exact rfl):DE X (.Call (.Name name p) [e1] [] pos) (aB m (ae g1 ai)):=nz F (hr.mono h) hg (au a1 aC (bu n1)) (dr gF) hdb (bu n1) (cg rfl)
theorem a9(F:Fn X.prog X.w X.K X.mg X.base name [p1,p2] k (spM X.K 2 m))(hr:Room k' X.A)(a1:DE X e1 g1)(a2:DE X e2 g2)(h:k<=k':=by omega)(hg:Gl X name:=by exact rfl)(hdb:(name == ("__debug__" : Str))=false:=by decide)(n1:noStar e1=true:=by exact rfl)(n2:noStar e2=true:=by exact rfl):DE X (.Call (.Name name p) [e1,e2] [] pos) (aB m (ae g1 (ae g2 ai))):=nz F (hr.mono h) hg (au a1 (au a2 aC (bu n2)) (bu n1)) (dr (dr gF)) hdb (bu n1) (cg (by simp only[List.all_cons,List.all_nil,n2,Bool.and_self]))
theorem h7(F:Fn X.prog X.w X.K X.mg X.base name [p1,p2,p3] k (spM X.K 3 m))(hr:Room k' X.A)(a1:DE X e1 g1)(a2:DE X e2 g2)(a3:DE X e3 g3)(h:k<=k':=by omega)(hg:Gl X name:=by exact rfl)(hdb:(name == ("__debug__" : Str))=false:=by decide)(n1:noStar e1=true:=by exact rfl)(n2:noStar e2=true:=by exact rfl)(n3:noStar e3=true:=by exact rfl):DE X (.Call (.Name name p) [e1,e2,e3] [] pos) (aB m (ae g1 (ae g2 (ae g3 ai)))):=nz F (hr.mono h) hg (au a1 (au a2 (au a3 aC (bu n3)) (bu n2)) (bu n1)) (dr (dr (dr gF))) hdb (bu n1) (cg (by simp only[List.all_cons,List.all_nil,n2,n3,Bool.and_self]))
end
def csB(osc:Scope)(N:List Str)(x:Str)(sc:Scope)(N':List Str):Bool:=decide (sc.kind=.function)&&(sc.names.all fun y=>decide (y.2≠.cell))&&(sc.names.all fun y=>decide (y.2=.local->sc.names.lookup y.1=some .local))&&decide (sc.names.lookup x=some .local)&&(sc.names.all fun y=>decide (y.2=.local->y.1=x\/y.1=".0"))
 && (sc.names.all fun y=>decide (y.2=.free->osc.names.lookup y.1=some .cell\/osc.names.lookup y.1=some .free))&&decide (x::N').Nodup&&decide ((".0" : Str)∉N')&&decide (N'.length=N.length)&&(N'.zip N).all fun p=>decide (p.1=p.2)||sc.names.all fun q=>decide (q.1≠p.1)
theorem vZ{osc:Scope}{N:List Str}{x:Str}{sc:Scope}{N':List Str}(h:csB osc N x sc N'=true):CS osc N x sc N':=by
 simp only[csB,Bool.and_eq_true,decide_eq_true_eq,List.all_eq_true,Bool.or_eq_true] at h;exact⟨h.1.1.1.1.1.1.1.1.1,h.1.1.1.1.1.1.1.1.2,h.1.1.1.1.1.1.1.2,h.1.1.1.1.1.1.2,h.1.1.1.1.1.2,h.1.1.1.1.2,h.1.1.1.2,h.1.1.2,h.1.2,h.2⟩
section
variable {X:Cx}{x:Str}{scope:Scope}{elt iter:Expr}{ifs:List Expr}{px pos:Pos}{it:FI}{c:FT}{f:FE}
theorem FR(st:Stmt)(N N':List Str)(hi:DI X (.Name x px) iter it)(he:∀{C s0 H0 ex},DE (b7 X x scope C s0 H0 ex N') elt f)(ht:∀{C s0 H0 ex},DTs (b7 X x scope C s0 H0 ex N') ifs c)
  (S:csB (bp st) N x scope N'=true:=by decide +kernel) (hc:X.calm=true:=by rfl) (hs:X.env.scope=bp st:=by rfl) (hN:X.N=N:=by rfl) (hf:∀v,foldedSetIterable iter X.env v=pure v:=by intro _;rfl):DE X (.ListComp elt [⟨.Name x px,iter,ifs,0⟩] scope pos) (bo it c f):=CC (vZ S) hi (fun _ _ _ _=>he) (fun _ _ _ _=>ht) hc hs hN hf
theorem cJ(st:Stmt)(N:List Str)(hi:DI X (.Name x px) iter it)(he:∀{C s0 H0 ex},DE (b7 X x scope C s0 H0 ex N) elt f)
  (S:csB (bp st) N x scope N=true:=by decide +kernel) (hc:X.calm=true:=by rfl) (hs:X.env.scope=bp st:=by rfl) (hN:X.N=N:=by rfl) (hf:∀v,foldedSetIterable iter X.env v=pure v:=by intro _;rfl):DE X (.ListComp elt [⟨.Name x px,iter,[],0⟩] scope pos) (bo it bq f):=FR st N N hi he ny S hc hs hN hf
theorem lH{i:Nat}{y:Str}{py spos:Pos}(st:Stmt)(N N':List Str)(nd:X.N.Nodup)(hi:DI X (.Name x px) iter it)(he:∀{C s0 H0 ex},DE (b7 X x scope C s0 H0 ex N') elt f)(ht:∀{C s0 H0 ex},DTs (b7 X x scope C s0 H0 ex N') ifs c)
  (S:csB (bp st) N x scope N'=true:=by decide +kernel) (hi':X.N[i]? = some y:=by rfl) (hy:Loc X.env.scope y:=by first|exact Or.inl rfl|exact Or.inr rfl)
  (hf':X.fn y=true\/X.env.scope.names.lookup y=some .local:=by first|exact .inl rfl|exact .inr rfl|assumption) (hc:X.calm=true:=by rfl) (hs:X.env.scope=bp st:=by rfl) (hN:X.N=N:=by rfl)
  (hsw:swapsWith (.ListComp elt [⟨.Name x px,iter,ifs,0⟩] scope pos) (some (.Name y py)) spos.line X.env=pure true:=by rfl) (hf:∀v,foldedSetIterable iter X.env v=pure v:=by intro _;rfl) :
  DS X (.Assign [.Name y py] (.ListComp elt [⟨.Name x px,iter,ifs,0⟩] scope pos) spos) (aG i (bo it c f)):=Ct (vZ S) nd hi (fun _ _ _ _=>he) (fun _ _ _ _=>ht) hi' hy hf' hc hs hN hsw hf
end
end D
namespace G
open PySem PySem.Spec PyProof.Rows L2 D

theorem fJ(k:Nat)(h:0<k):∃j,k=j+1:=⟨k-1,by omega⟩
def e7:FnM:=aK 1 (ax (bR (fUn (bt .int) (aa 0)) (iN (fUn (bt .bl) (aa 0)))))
def kg:FnM:=aK 2 (ax (fCB cU (ae (bo (aZ (aa 0)) bq (af inD (aa 0) (aa 2))) ai)))
def ff:FnM:=aK 1 (ax (bR (fUn (bt .str) (aa 0)) (bR (iB leD leD (fC (.int 1)) (fCB aT (ae (aa 0) ai)) (fC (.int 8))) (aB kg (ae (aa 0) (ae (fC (.str "abcdefghijklmnopqrstuvwxyz")) ai))))))
def qf:FnM:=aK 1 (aj (fIf (aX (aB e7 (ae (aa 0) ai))) (ax (af leD (fCB lT (ae (aa 0) ai)) (af jU (fC (.int 10)) (fC (.int 18))))) aH) (ax (bR (fUn (bt .str) (aa 0)) (bR (af leD (fCB aT (ae (aa 0) ai)) (fC (.int 20))) (aB kg (ae (aa 0) (ae (fC (.str "abcdefghijklmnopqrstuvwxyz0123456789-")) ai)))))))
def lZ:Nat->FnM
 |0=>fun _ _=>none
 |n+1=>aK 2 (aj (fIf (bH (aX (fUn (bt .tup) (aa 0)))) (ax (aB qf (ae (aa 0) ai))) aH) (aj (fIf (bK (aD (af eqD (aa 1) (fC (.int 0)))) (aD (af gtD (fCB aT (ae (aa 0) ai)) (fC (.int 8))))) (ax (fC (.bool false))) aH) (ax (fCB cU (ae (bo (aZ (aa 0)) bq (aB (lZ n) (ae (aa 0) (ae (af cv (aa 2) (fC (.int 1))) ai)))) ai)))))
def md:Nat->FnM
 |0=>fun _ _=>none
 |n+1=>aK 1 (aj (fIf (bH (aX (fUn (bt .tup) (aa 0)))) (ax (fC (.int 1))) aH) (ax (af aR (fC (.int 1)) (fCB lL (ae (bo (aZ (aa 0)) bq (aB (md n) (ae (aa 0) ai))) ai)))))
def lY:FnM:=aK 1 (ax (bR (aB (lZ 25) (ae (aa 0) (ae (fC (.int 4)) ai))) (af leD (aB (md 25) (ae (aa 0) ai)) (fC (.int 40)))))
def pL:FnM:=aK 1 (aj (fIf (bK (aD (af eqD (af ixD (aa 0) (fC (.int 0))) (fC (.str "put")))) (aD (af eqD (af ixD (aa 0) (fC (.int 0))) (fC (.str "got"))))) (ax (aE .list ai)) aH) (aj (fIf (aD (af eqD (af ixD (aa 0) (fC (.int 0))) (fC (.str "row")))) (ax (fCB iI (ae (af ixD (aa 0) (fC (.int 1))) ai))) aH) (ax (fCB iI (ae (fSl (aa 0) (fP (fC (.int 1))) b9) ai)))))
def eJ:FnM:=aK 2 (aj (fIf (aD (af inA (aa 1) (af ixD (aa 0) (fC (.int 0))))) (ax (fC (.str "told"))) aH) (aj (fIf (aD (af inA (aa 1) (af ixD (aa 0) (fC (.int 1))))) (ax (fC (.str "made"))) aH) (ax (fC (.str "lacks")))))
def qa:FnM:=aK 2 (aj (fIf (bK (bH (aX (aB e7 (ae (aa 0) ai)))) (bH (aX (aB e7 (ae (aa 1) ai))))) (ax (aE .tuple (ae (fC (.str "fails")) (ae (fC (.str "kind")) ai)))) aH) (ax (aE .tuple (ae (fC (.str "value")) (ae (cI (aD (af ltD (aa 0) (aa 1))) (fC (.int 1)) (fC (.int 0))) ai)))))
def i9:FnM:=aK 1 (ax (cI (aX (aB lY (ae (aa 0) ai))) (aE .tuple (ae (fC (.str "value")) (ae (aa 0) ai))) (aE .tuple (ae (fC (.str "fails")) (ae (fC (.str "great")) ai)))))
def pZ:FnM:=aK 1 (aj (fIf (aX (aB e7 (ae (aa 0) ai))) (ax (aE .tuple (ae (fC (.str "fails")) (ae (fC (.str "kind")) ai)))) aH) (ax (aE .tuple (ae (fC (.str "value")) (ae (fCB aT (ae (aa 0) ai)) ai)))))
def pY:FnM:=aK 2 (aj (fIf (bK (bH (aX (fUn (bt .tup) (aa 0)))) (bH (aX (aB e7 (ae (aa 1) ai))))) (ax (aE .tuple (ae (fC (.str "fails")) (ae (fC (.str "kind")) ai)))) aH) (aj (fIf (bH (aD (iB leD ltD (fC (.int 0)) (aa 1) (fCB aT (ae (aa 0) ai))))) (ax (aE .tuple (ae (fC (.str "fails")) (ae (fC (.str "part")) ai)))) aH) (ax (aE .tuple (ae (fC (.str "value")) (ae (af ixD (aa 0) (aa 1)) ai))))))
def qu:FnM:=aK 2 (aj (fIf (bK (bH (aX (aB e7 (ae (aa 0) ai)))) (bH (aX (aB e7 (ae (aa 1) ai))))) (ax (aE .tuple (ae (fC (.str "fails")) (ae (fC (.str "kind")) ai)))) aH) (ax (aB i9 (ae (af aR (aa 0) (aa 1)) ai))))
def qb:FnM:=aK 2 (aj (fIf (eB (aX (fUn (bt .str) (aa 0))) (aX (fUn (bt .str) (aa 1)))) (ax (aB i9 (ae (af aR (aa 0) (aa 1)) ai))) aH) (aj (fIf (eB (aX (fUn (bt .tup) (aa 0))) (aX (fUn (bt .tup) (aa 1)))) (ax (aB i9 (ae (af aR (aa 0) (aa 1)) ai))) aH) (ax (aE .tuple (ae (fC (.str "fails")) (ae (fC (.str "kind")) ai))))))
def qZ:FnM:=aK 2 (aj (fIf (aD (af eqD (aa 0) (fC (.str "row")))) (ax (aB i9 (ae (fCB bY (ae (aa 1) ai)) ai))) aH) (aj (fIf (aD (af eqD (aa 0) (fC (.str "many")))) (ax (aB pZ (ae (af ixD (aa 1) (fC (.int 0))) ai))) aH) (aj (fIf (aD (af eqD (aa 0) (fC (.str "part")))) (ax (aB pY (ae (af ixD (aa 1) (fC (.int 0))) (ae (af ixD (aa 1) (fC (.int 1))) ai)))) aH) (aj (fIf (aD (af eqD (aa 0) (fC (.str "sum")))) (ax (aB qu (ae (af ixD (aa 1) (fC (.int 0))) (ae (af ixD (aa 1) (fC (.int 1))) ai)))) aH) (aj (fIf (aD (af eqD (aa 0) (fC (.str "join")))) (ax (aB qb (ae (af ixD (aa 1) (fC (.int 0))) (ae (af ixD (aa 1) (fC (.int 1))) ai)))) aH) (aj (fIf (aD (af eqD (aa 0) (fC (.str "same")))) (ax (aE .tuple (ae (fC (.str "value")) (ae (cI (aD (af eqG (af ixD (aa 1) (fC (.int 0))) (af ixD (aa 1) (fC (.int 1))))) (fC (.int 1)) (fC (.int 0))) ai)))) aH) (ax (aB qa (ae (af ixD (aa 1) (fC (.int 0))) (ae (af ixD (aa 1) (fC (.int 1))) ai))))))))))
def e9:Nat->FnM
 |0=>fun _ _=>none
 |n+1=>aK 5 (aj (fIf (aD (af eqD (af ixD (aa 0) (fC (.int 0))) (fC (.str "put")))) (ax (aE .tuple (ae (fC (.str "value")) (ae (af ixD (aa 0) (fC (.int 1))) ai)))) aH) (aj (fIf (aD (af eqD (af ixD (aa 0) (fC (.int 0))) (fC (.str "got")))) (ax (aE .tuple (ae (fC (.str "value")) (ae (af ixD (aa 1) (af ixD (aa 0) (fC (.int 1)))) ai)))) aH) (aj (df 2 ai) (aj (bw 3 (aZ (aB pL (ae (aa 0) ai))) (aj (aG 4 (aB (e9 n) (ae (aa 3) (ae (aa 1) ai)))) (aj (fIf (aD (af eqD (af ixD (aa 4) (fC (.int 0))) (fC (.str "fails")))) (ax (aa 4)) aH) (c5 2 (af ixD (aa 4) (fC (.int 1))))))) (ax (gP qZ (ae (af ixD (aa 0) (fC (.int 0))) (ae (aa 2) ai))))))))
def bT:Nat->FnM
 |0=>fun _ _=>none
 |n+1=>aK 3 (aj (fIf (aD (af eqD (af ixD (aa 0) (fC (.int 0))) (fC (.str "fail")))) (ax (aE .tuple (ae (fC (.str "fails")) (ae (af ixD (aa 0) (fC (.int 1))) ai)))) aH) (aj (aG 2 (aB (e9 25) (ae (af ixD (aa 0) (fC (.int 1))) (ae (aa 1) ai)))) (aj (fIf (aD (af eqD (af ixD (aa 2) (fC (.int 0))) (fC (.str "fails")))) (ax (aa 2)) aH) (aj (fIf (aD (af eqD (af ixD (aa 0) (fC (.int 0))) (fC (.str "when")))) (ax (aB (bT n) (ae (cI (aD (af inG (af ixD (aa 2) (fC (.int 1))) (aE .tuple (ae (fC (.int 0)) (ae (fC (.str "")) (ae (aE .tuple ai) ai)))))) (af ixD (aa 0) (fC (.int 3))) (af ixD (aa 0) (fC (.int 2)))) (ae (aa 1) ai)))) aH) (aj (fIf (aD (af eqD (af ixD (aa 0) (fC (.int 0))) (fC (.str "say")))) (ax (aE .tuple (ae (fC (.str "made")) (ae (af ixD (aa 2) (fC (.int 1))) ai)))) aH) (aj (fIf (bH (aX (aB ff (ae (af ixD (aa 2) (fC (.int 1))) ai)))) (ax (aE .tuple (ae (fC (.str "fails")) (ae (fC (.str "name")) ai)))) aH) (ax (aE .tuple (ae (af ixD (aa 0) (fC (.int 0))) (ae (af ixD (aa 2) (fC (.int 1))) (ae (af ixD (aa 0) (fC (.int 2))) ai)))))))))))
def fU:FnM:=aK 9 (aj (jM 3 "want" "peek" (aa 1) (aa 2)) (aj (jM 4 "want" "peek" (fC (.int 0)) (fC (.int 0))) (aj (df 5 ai) (aj (aG 6 (gP (bT 25) (ae (aa 0) (ae (aa 5) ai)))) (aj (bv (aD (af et (af ixD (aa 6) (fC (.int 0))) (aa 3))) (aj (aG 7 (af cA (aa 3) (af ixD (aa 6) (fC (.int 0))))) (aj (aG 8 (af cA (aa 4) (af ixD (aa 6) (fC (.int 0))))) (aj (fIf (bK (aD (af geD (aa 8) (fCB aT (ae (aa 7) ai)))) (aD (af neD (af ixD (af ixD (aa 7) (aa 8)) (fC (.int 0))) (af ixD (aa 6) (fC (.int 1)))))) (ax (aE .tuple (ae (aE .tuple (ae (fUn (atS [("want","wants"),("peek","peeks")]) (af ixD (aa 6) (fC (.int 0)))) (ae (af ixD (aa 6) (fC (.int 1))) ai))) (ae (af cA (aa 4) (fC (.str "want"))) ai)))) aH) (aj (c5 5 (af ixD (af ixD (aa 7) (aa 8)) (fC (.int 1)))) (aj (lF 4 (af ixD (aa 6) (fC (.int 0))) (af aR (aa 8) (fC (.int 1)))) (aG 6 (gP (bT 25) (ae (af ixD (aa 6) (fC (.int 2))) (ae (aa 5) ai))))))))) 100000) (ax (aE .tuple (ae (aa 6) (ae (af cA (aa 4) (fC (.str "want"))) ai)))))))))
def iq:FnM:=aK 4 (aj (aG 3 (aB fU (ae (aa 0) (ae (aa 1) (ae (aa 2) ai))))) (aj (fIf (aD (af ltD (af ixD (aa 3) (fC (.int 1))) (fCB aT (ae (aa 1) ai)))) (ax (aE .tuple (ae (fC (.str "strays")) (ae (af ixD (aa 3) (fC (.int 1))) ai)))) aH) (ax (af ixD (aa 3) (fC (.int 0))))))
def eZ:Nat->FnM
 |0=>fun _ _=>none
 |n+1=>aK 1 (aj (fIf (aX (aB e7 (ae (aa 0) ai))) (ax (fCB oV (ae (aa 0) ai))) aH) (aj (fIf (aX (fUn (bt .str) (aa 0))) (ax (af aR (fC (.str "'")) (aa 0))) aH) (ax (af aR (af aR (fC (.str "(")) (af oJ (fC (.str ",")) (bo (aZ (aa 0)) bq (aB (eZ n) (ae (aa 0) ai))))) (fC (.str ")"))))))
def pS:FnM:=aK 1 (aj (fIf (bK (aD (af eqD (aa 0) (fC (.str "")))) (bH (aX (aB kg (ae (aa 0) (ae (fC (.str "0123456789")) ai)))))) (ax (fC (.bool false))) aH) (ax (ph (af eqD (aa 0) (fC (.str "0"))) (iN (af iu (aa 0) (fC (.str "0")))))))
def qe:FnM:=aK 2 (aj (aG 1 (cI (aX (af iu (aa 0) (fC (.str "-")))) (fSl (aa 0) (fP (fC (.int 1))) b9) (aa 0))) (aj (fIf (bK (aD (af eqD (aa 0) (fC (.str "-0")))) (bK (aD (af gtD (fCB aT (ae (aa 1) ai)) (fC (.int 19)))) (bH (aX (aB pS (ae (aa 1) ai)))))) (ax (fC .none)) aH) (ax (fCB intD (ae (aa 0) ai)))))
def qc:FnM:=aK 1 (aj (fIf (aX (af iu (aa 0) (fC (.str "'")))) (ax (fSl (aa 0) (fP (fC (.int 1))) b9)) aH) (ax (aB qe (ae (aa 0) ai))))
def qd:FnM:=aK 4 (aj (aG 2 (aa 1)) (aj (bv (eB (aD (af ltD (aa 2) (fCB aT (ae (aa 0) ai)))) (aD (af dJ (af ixD (aa 0) (aa 2)) (fC (.str "(),"))))) (aG 2 (af aR (aa 2) (fC (.int 1)))) 100000) (aj (aG 3 (aB qc (ae (fSl (aa 0) (fP (aa 1)) (fP (aa 2))) ai))) (ax (cI (aD (af isD (aa 3) (fC .none))) (fC .none) (aE .tuple (ae (aa 3) (ae (aa 2) ai))))))))
mutual
def r9:Nat->FnM
 |0=>fun _ _=>none
 |n+1=>aK 6 (aj (fIf (aD (af eqD (fSl (aa 0) (fP (aa 1)) (fP (af aR (aa 1) (fC (.int 1))))) (fC (.str ")")))) (ax (aE .tuple (ae (aE .tuple ai) (ae (af aR (aa 1) (fC (.int 1))) ai)))) aH) (aj (df 3 ai) (bv (aX (fC (.bool true))) (aj (aG 4 (aB (j9 n) (ae (aa 0) (ae (aa 1) (ae (aa 2) ai))))) (aj (fIf (aD (af isD (aa 4) (fC .none))) (ax (fC .none)) aH) (aj (c5 3 (af ixD (aa 4) (fC (.int 0)))) (aj (aG 1 (af aR (af ixD (aa 4) (fC (.int 1))) (fC (.int 1)))) (aj (aG 5 (fSl (aa 0) (fP (af ixD (aa 4) (fC (.int 1)))) (fP (aa 1)))) (aj (fIf (aD (af eqD (aa 5) (fC (.str ")")))) (ax (aE .tuple (ae (fCB bY (ae (aa 3) ai)) (ae (aa 1) ai)))) aH) (fIf (aD (af neD (aa 5) (fC (.str ",")))) (ax (fC .none)) aH))))))) 100000)))
def j9:Nat->FnM
 |0=>fun _ _=>none
 |n+1=>aK 3 (aj (fIf (aD (af neD (fSl (aa 0) (fP (aa 1)) (fP (af aR (aa 1) (fC (.int 1))))) (fC (.str "(")))) (ax (aB qd (ae (aa 0) (ae (aa 1) ai)))) aH) (aj (fIf (aD (af eqD (aa 2) (fC (.int 0)))) (ax (fC .none)) aH) (ax (aB (r9 n) (ae (aa 0) (ae (af aR (aa 1) (fC (.int 1))) (ae (af cv (aa 2) (fC (.int 1))) ai)))))))
end
def gw:FnM:=aK 2 (aj (aG 1 (aB (j9 25) (ae (aa 0) (ae (fC (.int 0)) (ae (fC (.int 4)) ai))))) (aj (fIf (bK (aD (af isD (aa 1) (fC .none))) (aD (af ltD (af ixD (aa 1) (fC (.int 1))) (fCB aT (ae (aa 0) ai))))) (ax (fC .none)) aH) (ax (cI (aX (aB lY (ae (af ixD (aa 1) (fC (.int 0))) ai))) (af ixD (aa 1) (fC (.int 0))) (fC .none)))))
def kb:FnM:=aK 1 (ax (bR (fUn (bt .str) (aa 0)) (af eN (aB gw (ae (aa 0) ai)) (fC .none))))
def kr:FnM:=aK 1 (ax (bR (fUn (bt .tup) (aa 0)) (bR (af eqD (fCB aT (ae (aa 0) ai)) (fC (.int 2))) (bR (aB ff (ae (af ixD (aa 0) (fC (.int 0))) ai)) (aB kb (ae (af ixD (aa 0) (fC (.int 1))) ai))))))
def j7:FnM:=aK 1 (aj (fIf (bK (bH (aX (fUn (bt .tup) (aa 0)))) (aD (af gtD (fCB aT (ae (aa 0) ai)) (fC (.int 12))))) (ax (fC (.bool false))) aH) (ax (fCB cU (ae (bo (aZ (aa 0)) bq (aB kr (ae (aa 0) ai))) ai))))
def eK:FnM:=aK 1 (aj (fIf (bK (bH (aX (fUn (bt .tup) (aa 0)))) (bK (aD (af neD (fCB aT (ae (aa 0) ai)) (fC (.int 2)))) (bH (aX (fUn (bt .str) (af ixD (aa 0) (fC (.int 0)))))))) (ax (fC (.bool false))) aH) (aj (fIf (aD (af eqD (af ixD (aa 0) (fC (.int 0))) (fC (.str "made")))) (ax (aB kb (ae (af ixD (aa 0) (fC (.int 1))) ai))) aH) (ax (bR (af inD (af ixD (aa 0) (fC (.int 0))) (aE .tuple (ae (fC (.str "fails")) (ae (fC (.str "wants")) ai)))) (aB ff (ae (af ixD (aa 0) (fC (.int 1))) ai))))))
def i8:FnM:=aK 1 (aj (fIf (bK (bH (aX (fUn (bt .tup) (aa 0)))) (bK (aD (af neD (fCB aT (ae (aa 0) ai)) (fC (.int 3)))) (bH (aX (aB ff (ae (af ixD (aa 0) (fC (.int 0))) ai)))))) (ax (fC (.bool false))) aH) (ax (bR (aB j7 (ae (af ixD (aa 0) (fC (.int 1))) ai)) (aB eK (ae (af ixD (aa 0) (fC (.int 2))) ai)))))
def gy:FnM:=aK 4 (aj (aG 3 (aB iq (ae (aa 0) (ae (bo (aZ (aa 1)) bq (aE .tuple (ae (af ixD (aa 0) (fC (.int 0))) (ae (aB gw (ae (af ixD (aa 0) (fC (.int 1))) ai)) ai)))) (ae (aE .list ai) ai))))) (aj (fIf (aD (af eqD (af ixD (aa 3) (fC (.int 0))) (fC (.str "made")))) (ax (af eqG (aa 2) (aE .tuple (ae (fC (.str "made")) (ae (aB (eZ 25) (ae (af ixD (aa 3) (fC (.int 1))) ai)) ai))))) aH) (ax (af eqG (aa 2) (aa 3)))))
def e8:FnM:=aK 2 (ax (aB gy (ae (aa 0) (ae (af ixD (aa 1) (fC (.int 1))) (ae (af ixD (aa 1) (fC (.int 2))) ai)))))
def jZ:FnM:=aK 3 (aj (bV 1) (aj (bw 2 (aZ (aa 0)) (bj 1 (af ixD (aa 2) (fC (.int 0))) (aa 2))) (ax (aa 1))))
def i7:FnM:=aK 3 (aj (bV 1) (aj (bw 2 (aZ (aa 0)) (bj 1 (af ixD (aa 2) (fC (.int 0))) (af ixD (aa 2) (fC (.int 2))))) (ax (aa 1))))
def h9:FnM:=aK 6 (aj (bV 2) (aj (jP 3 4 (af ixD (aa 0) (fC (.int 0))) (bj 2 (aa 3) (aE .tuple (ae (fC (.str "made")) (ae (aB (eZ 25) (ae (aa 4) ai)) ai))))) (aj (bw 5 (aZ (aa 1)) (aj (fIf (bH (aX (fCB cU (ae (bo (aZ (af ixD (aa 5) (fC (.int 1)))) bq (af eqG (jO (aa 3) (af ixD (aa 0) (fC (.int 0)))) (aE .tuple (ae (fC (.str "made")) (ae (af ixD (aa 0) (fC (.int 1))) ai))))) ai)))) (ax (fC (.bool false))) aH) (bj 2 (af ixD (aa 5) (fC (.int 0))) (af ixD (aa 5) (fC (.int 2)))))) (ax (fC (.bool true))))))
def ke:FnM:=aK 1 (ax (bR (fUn (bt .lst) (aa 0)) (bR (af leD (fCB aT (ae (aa 0) ai)) (fC (.int 100))) (fCB cU (ae (bo (aZ (aa 0)) bq (aB i8 (ae (aa 0) ai))) ai)))))
def iW:FnM:=aK 3 (aj (aG 2 (bo (aZ (aa 1)) bq (af ixD (aa 0) (fC (.int 0))))) (ax (bR (af eqD (fUn f9 (aa 2)) (fCB aT (ae (aa 2) ai))) (fCB cU (ae (bo (aZ (aa 2)) bq (af eqD (aB eJ (ae (aa 1) (ae (aa 0) ai))) (fC (.str "made")))) ai)))))
def d7:FnM:=aK 3 (aj (fIf (aD (af neD (af ixD (aa 2) (fC (.int 0))) (fC (.str "wants")))) (ax (fC (.bool true))) aH) (aj (fIf (aD (af inA (af ixD (aa 2) (fC (.int 1))) (aa 1))) (ax (af neD (af ixD (af ixA (aa 1) (af ixD (aa 2) (fC (.int 1)))) (fC (.int 0))) (fC (.str "made")))) aH) (ax (af eqD (aB eJ (ae (aa 0) (ae (af ixD (aa 2) (fC (.int 1))) ai))) (fC (.str "lacks"))))))
def cb:FnM:=aK 3 (aj (fIf (bK (bH (aX (aB ke (ae (aa 1) ai)))) (bH (aX (aB iW (ae (aa 0) (ae (aa 1) ai)))))) (ax (fC (.bool false))) aH) (aj (fIf (bH (aX (fCB cU (ae (bo (aZ (aa 1)) bq (aB e8 (ae (af ixA (af ixD (aa 1) (fC (.int 1))) (af ixD (aa 0) (fC (.int 0)))) (ae (aa 0) ai)))) ai)))) (ax (fC (.bool false))) aH) (aj (aG 2 (aB i7 (ae (aa 1) ai))) (ax (bR (aB h9 (ae (aa 0) (ae (aa 1) ai))) (fCB cU (ae (bo (aZ (aa 1)) bq (aB d7 (ae (aa 1) (ae (aa 3) (ae (af ixD (aa 0) (fC (.int 2))) ai))))) ai)))))))
def eY:FnM:=aK 1 (ax (aE .tuple (ae (aE .tuple ai) (ae (aE .tuple ai) (ae (aB (bT 25) (ae (aa 0) (ae (aE .tuple ai) ai))) ai)))))
def dh:FnM:=aK 1 (ax (cI (aD (af inD (af ixD (af ixD (aa 0) (fC (.int 2))) (fC (.int 0))) (fC (.tuple [.str "want",.str "peek"])))) (af ixD (af ixD (aa 0) (fC (.int 2))) (fC (.int 1))) (fC .none)))
def jl:FnM:=aK 5 (aj (aG 2 (af ixD (aa 0) (fC (.int 2)))) (aj (aG 3 (af aR (af ixD (aa 0) (fC (.int 0))) (aE .tuple (ae (aa 1) ai)))) (aj (aG 4 (cI (aD (af eqD (af ixD (aa 2) (fC (.int 0))) (fC (.str "want")))) (af aR (af ixD (aa 0) (fC (.int 1))) (aE .tuple (ae (aE .tuple (ae (af ixD (aa 2) (fC (.int 1))) (ae (aa 1) ai))) ai))) (af ixD (aa 0) (fC (.int 1))))) (ax (aE .tuple (ae (aa 3) (ae (aa 4) (ae (aB (bT 25) (ae (af ixD (aa 2) (fC (.int 2))) (ae (aa 3) ai))) ai))))))))
def fg:FnM:=aK 2 (aj (bv (aD (af inA (aB dh (ae (aa 0) ai)) (aa 1))) (aG 0 (aB jl (ae (aa 0) (ae (af ixA (aa 1) (aB dh (ae (aa 0) ai))) ai)))) 100000) (ax (aa 0)))
def fS:FnM:=aK 7 (aj (jz 1 (af ixD (aa 0) (fC (.int 0)))) (aj (bV 2) (aj (jP 3 4 (af ixD (aa 0) (fC (.int 1))) (bj 2 (aa 3) (aB eY (ae (aa 4) ai)))) (aj (aG 5 (fC (.bool true))) (aj (bv (aX (aa 5)) (aj (aG 6 (fCB aT (ae (aa 1) ai))) (aj (bw 3 (aZ (af ixD (aa 0) (fC (.int 1)))) (aj (bj 2 (aa 3) (eA (aB fg (ae (af ixA (aa 2) (aa 3)) (ae (aa 1) ai))))) (fIf (aD (af eqD (af ixD (af ixD (af ixA (aa 2) (aa 3)) (fC (.int 2))) (fC (.int 0))) (fC (.str "made")))) (bj 1 (aa 3) (af ixD (af ixD (af ixA (aa 2) (aa 3)) (fC (.int 2))) (fC (.int 1)))) aH))) (aG 5 (af gtD (fCB aT (ae (aa 1) ai)) (aa 6))))) 100000) (ax (aE .tuple (ae (aa 1) (ae (aa 2) ai)))))))))
def fT:FnM:=aK 1 (ax (af ixD (aB fS (ae (aa 0) ai)) (fC (.int 0))))
def eX:FnM:=aK 4 (aj (df 2 (ae (aa 1) ai)) (aj (bv (eB (aD (af inA (af ixD (aa 2) (fUn bf (fC (.int 1)))) (aa 0))) (aD (af dJ (af ixD (aa 2) (fUn bf (fC (.int 1)))) (fSl (aa 2) b9 (fP (fUn bf (fC (.int 1)))))))) (aj (aG 3 (af ixD (af ixA (aa 0) (af ixD (aa 2) (fUn bf (fC (.int 1))))) (fC (.int 2)))) (aj (fIf (aD (af eqD (af ixD (aa 3) (fC (.int 0))) (fC (.str "made")))) (ax (aE .tuple (ae (fC (.str "made")) (ae (aB gw (ae (af ixD (aa 3) (fC (.int 1))) ai)) ai)))) aH) (aj (fIf (aD (af eqD (af ixD (aa 3) (fC (.int 0))) (fC (.str "fails")))) (ax (aE .tuple (ae (fC (.str "fails")) (ae (fCB bY (ae (aa 2) ai)) (ae (af ixD (aa 3) (fC (.int 1))) ai))))) aH) (c5 2 (af ixD (aa 3) (fC (.int 1))))))) 100000) (ax (aE .tuple (ae (cI (aD (af inA (af ixD (aa 2) (fUn bf (fC (.int 1)))) (aa 0))) (fC (.str "ring")) (fC (.str "lacks"))) (ae (fCB bY (ae (aa 2) ai)) ai))))))
def fh:FnM:=aK 1 (aj (fIf (aD (af eqD (af ixD (aa 0) (fC (.int 0))) (fC (.str "made")))) (ax (aE .tuple (ae (fC (.str "made")) (ae (aB (eZ 25) (ae (af ixD (aa 0) (fC (.int 1))) ai)) ai)))) aH) (aj (fIf (aD (af eqD (af ixD (aa 0) (fC (.int 0))) (fC (.str "fails")))) (ax (aa 0)) aH) (ax (aE .tuple (ae (fC (.str "wants")) (ae (af ixD (aa 0) (fC (.int 1))) ai))))))
def di:FnM:=aK 3 (aj (aG 2 (fCB bY (ae (bo (aZ (af ixD (aa 1) (fC (.int 1)))) bq (aE .tuple (ae (af ixD (aa 0) (fC (.int 0))) (ae (aB (eZ 25) (ae (af ixD (aa 0) (fC (.int 1))) ai)) ai)))) ai))) (ax (aE .tuple (ae (aa 0) (ae (aa 2) (ae (aB fh (ae (af ixD (aa 1) (fC (.int 2))) ai)) ai))))))
def gu:FnM:=aK 3 (aj (bV 1) (aj (bw 2 (aZ (aa 0)) (bj 1 (aa 2) (aB di (ae (aa 2) (ae (af ixA (aa 0) (aa 2)) ai))))) (ax (aa 1))))
def fq:FnM:=aK 3 (aj (aG 2 (aB fS (ae (aa 0) ai))) (aj (fIf (aD (af inA (aa 1) (af ixD (aa 2) (fC (.int 0))))) (ax (aE .tuple (ae (fC (.str "made")) (ae (af ixA (af ixD (aa 2) (fC (.int 0))) (aa 1)) ai)))) aH) (ax (aB eX (ae (aB gu (ae (af ixD (aa 2) (fC (.int 1))) ai)) (ae (aa 1) ai))))))
def gx:FnM:=aK 1 (ax (aB gu (ae (af ixD (aB fS (ae (aa 0) ai)) (fC (.int 1))) ai)))
def gr:FnM:=aK 2 (ax (iN (fCB lS (ae (bo (aZ (af ixD (aa 1) (fC (.int 1)))) bq (af inA (af ixD (aa 0) (fC (.int 0))) (aa 1))) ai))))
def kf:FnM:=iG 5 (aj (df 1 ai) (aj (jz 2 (aa 0)) (aj (bv (aD (af gtD (fCB aT (ae (aa 2) ai)) (fC (.int 0)))) (aj (aG 3 (bo (aZ (fUn eh (aa 2))) (aX (eA (aB gr (ae (aa 3) (ae (af ixA (aa 3) (aa 0)) ai))))) (aa 0))) (aj (fIf (aD (af eqD (fCB aT (ae (aa 3) ai)) (fC (.int 0)))) lh aH) (bw 4 (aZ (aa 3)) (lR 1 2 (aa 4))))) 100000) (li 1))))
def ie:FnM:=aK 2 (aj (aG 1 (cI (aD (af eqD (af ixD (af ixD (aa 0) (fC (.int 2))) (fC (.int 0))) (fC (.str "wants")))) (aE .list (ae (af ixD (af ixD (aa 0) (fC (.int 2))) (fC (.int 1))) ai)) (aE .list ai))) (ax (af aR (bo (aZ (af ixD (aa 0) (fC (.int 1)))) bq (af ixD (aa 0) (fC (.int 0)))) (aa 1))))
def iY:FnM:=aK 5 (aj (bV 2) (aj (lg 3 (aa 1)) (aj (bv (aD (af gtD (fCB aT (ae (aa 3) ai)) (fC (.int 0)))) (aj (iM 3 4) (fIf (aD (af gI (aa 4) (aa 2))) (aj (bj 2 (aa 4) (fC (.bool true))) (lQ 3 (cI (aD (af inA (aa 4) (aa 0))) (aB ie (ae (af ixA (aa 0) (aa 4)) ai)) (aE .list ai)))) aH)) 100000) (ax (fUn eh (aa 2))))))
def j4:FnM:=aK 4 (aj (bV 2) (aj (bw 3 (aZ (aB iY (ae (aa 0) (ae (aa 1) ai)))) (fIf (aD (af inA (aa 3) (aa 0))) (bj 2 (aa 3) (af ixA (aa 0) (aa 3))) aH)) (ax (aa 2))))
def dH:FnM:=aK 3 (aj (aG 2 (aB gx (ae (aa 0) ai))) (ax (nv kf (ae (aB j4 (ae (aa 2) (ae (aa 1) ai))) ai))))
def ib:FnM:=aK 3 (aj (aG 2 (aB jZ (ae (aa 0) ai))) (aj (fIf (aD (af gI (aa 1) (aa 2))) vV aH) (ax (aB eX (ae (aa 2) (ae (aa 1) ai))))))
def dE:FnM:=aK 2 (aj (fIf (aD (af ltD (aa 1) (fCB aT (ae (aa 0) ai)))) (ax (af ixD (aa 0) (aa 1))) aH) (ax (fC (.int 0))))
def ia:FnM:=aK 6 (aj (df 2 ai) (aj (aG 3 (fC (.int 0))) (aj (fIf (aD (af geD (aa 0) (af jU (fC (.int 10)) (fC (.int 18))))) (aG 3 (aa 0)) aH) (aj (aG 4 (af aR (af bZ (aa 0) (fC (.int 2147483629))) (fC (.int 48271)))) (aj (bw 5 (bW (aa 1)) (aj (aG 4 (af bZ (af aR (af aR (af bS (aa 4) (aa 4)) (af bS (fC (.int 48271)) (aa 4))) (af bS (fC (.int 7)) (aa 5))) (fC (.int 2147483647)))) (fIf (aD (af gtD (aa 3) (fC (.int 0)))) (aj (c5 2 (af bZ (aa 3) (fC (.int 720720)))) (aG 3 (af dS (aa 3) (fC (.int 720720))))) (c5 2 (af dS (af bZ (af aR (af bS (aa 4) (fC (.int 69621))) (af bS (fC (.int 13)) (aa 5))) (fC (.int 2147483629))) (fC (.int 3))))))) (ax (aa 2)))))))
def bX:FnM:=aK 2 (aj (pf (aa 0) (fC (.int 1)) (af aR (af ixD (aa 0) (fC (.int 1))) (fC (.int 1)))) (ax (af bZ (af ixD (af ixD (aa 0) (fC (.int 0))) (af bZ (af cv (af ixD (aa 0) (fC (.int 1))) (fC (.int 1))) (fCB aT (ae (af ixD (aa 0) (fC (.int 0))) ai)))) (aa 1))))
def dF:Nat->FnM
 |0=>fun _ _=>none
 |n+1=>aK 2 (aj (fIf (aX (fUn jJ (aa 1))) (aj (fIf (bK (aD (af neD (fUn (bt .tup) (aa 0)) (fUn (bt .tup) (aa 1)))) (aD (af neD (fUn (bt .lst) (aa 0)) (fUn (bt .lst) (aa 1))))) (ax (fC (.bool false))) aH) (ax (bR (af eqD (fCB aT (ae (aa 0) ai)) (fCB aT (ae (aa 1) ai))) (fCB cU (ae (bo (bW (fCB aT (ae (aa 1) ai))) bq (aB (dF n) (ae (af ixA (aa 1) (aa 0)) (ae (af ixA (aa 2) (aa 0)) ai)))) ai))))) aH) (aj (fIf (aX (fUn (bt .dct) (aa 1))) (aj (fIf (bK (bH (aX (fUn (bt .dct) (aa 0)))) (aD (af neD (fCB aT (ae (aa 0) ai)) (fCB aT (ae (aa 1) ai))))) (ax (fC (.bool false))) aH) (ax (fCB cU (ae (bo (aZ (aa 1)) bq (bR (af inA (aa 0) (aa 1)) (aB (dF n) (ae (af ixA (aa 1) (aa 0)) (ae (af ixA (aa 2) (aa 0)) ai))))) ai)))) aH) (aj (fIf (bK (aX (fUn (bt .bl) (aa 1))) (aD (af isD (aa 1) (fC .none)))) (ax (bR (af eqD (fUn (bt .bl) (aa 0)) (fUn (bt .bl) (aa 1))) (af eqD (aa 0) (aa 1)))) aH) (aj (fIf (aX (fUn (bt .int) (aa 1))) (ax (bR (fUn (bt .int) (aa 0)) (bR (iN (fUn (bt .bl) (aa 0))) (af eqD (aa 0) (aa 1))))) aH) (ax (bR (fUn (bt .str) (aa 0)) (af eqD (aa 0) (aa 1))))))))
def gv:FnM:=aK 15 (jA 1 (ae (aB ia (ae (aB dE (ae (aa 0) (ae (fC (.int 0)) ai))) (ae (fC (.int 60)) ai))) (ae (fC (.int 0)) ai)) (aj (aG 2 (fC (.str "abcdefghijklmnopqrstuvwxyz"))) (aj (aG 3 (af aR (fC (.int 2)) (aB bX (ae (aa 1) (ae (fC (.int 39)) ai))))) (aj (aG 4 (bo (bW (aa 3)) bq (af bS (af ixD (aa 3) (af bZ (aa 0) (fC (.int 26)))) (af aR (fC (.int 1)) (af dS (aa 0) (fC (.int 26))))))) (aj (bV 5) (aj (bV 6) (aj (bw 7 (bW (af cv (aa 3) (fC (.int 1)))) (aj (aG 8 (fCB eP (ae (af cv (aa 3) (fC (.int 1))) (ae (af aR (af aR (aa 7) (fC (.int 1))) (aB bX (ae (aa 1) (ae (fC (.int 2)) ai)))) ai)))) (aj (bj 5 (af ixD (aa 4) (aa 7)) (af ixD (aa 4) (aa 8))) (aj (aG 9 (aE .tuple (ae (fC (.str "say")) (ae (aE .tuple (ae (fC (.str "got")) (ae (fC (.int 0)) ai))) ai)))) (aj (bw 10 (bW (af ixD (aE .list (ae (fC (.int 0)) (ae (fC (.int 0)) (ae (fC (.int 0)) (ae (fC (.int 11)) ai))))) (aB bX (ae (aa 1) (ae (fC (.int 4)) ai))))) (aj (aG 11 (fCB eP (ae (af cv (aa 3) (fC (.int 1))) (ae (af aR (af aR (aa 7) (fC (.int 1))) (af bZ (af aR (aa 10) (aa 7)) (fC (.int 3)))) ai)))) (aG 9 (aE .tuple (ae (fC (.str "want")) (ae (aE .tuple (ae (fC (.str "put")) (ae (af ixD (aa 4) (aa 11)) ai))) (ae (aa 9) ai))))))) (bj 6 (af ixD (aa 4) (aa 7)) (aE .tuple (ae (fC (.str "want")) (ae (aE .tuple (ae (fC (.str "put")) (ae (af ixD (aa 4) (aa 8)) ai))) (ae (aa 9) ai)))))))))) (aj (aG 12 (aB bX (ae (aa 1) (ae (fC (.int 4)) ai)))) (aj (aG 13 (af ixD (aa 4) (aB bX (ae (aa 1) (ae (aa 3) ai))))) (aj (bV 14) (aj (fIf (aD (af eqD (aa 12) (fC (.int 0)))) (bj 14 (af ixD (aa 4) (fUn bf (fC (.int 1)))) (aE .tuple (ae (fC (.str "a")) (ae (fC (.int 7)) ai)))) aH) (aj (fIf (aD (af eqD (aa 12) (fC (.int 1)))) (bj 6 (af ixD (aa 4) (fUn bf (fC (.int 1)))) (aE .tuple (ae (fC (.str "fail")) (ae (fC (.str "part")) ai)))) aH) (aj (fIf (aD (af eqD (aa 12) (fC (.int 2)))) (aj (bj 6 (af ixD (aa 4) (fUn bf (fC (.int 1)))) (aE .tuple (ae (fC (.str "want")) (ae (aE .tuple (ae (fC (.str "put")) (ae (aa 13) ai))) (ae (aE .tuple (ae (fC (.str "say")) (ae (aE .tuple (ae (fC (.str "got")) (ae (fC (.int 0)) ai))) ai))) ai))))) (bj 5 (af ixD (aa 4) (fUn bf (fC (.int 1)))) (aa 13))) aH) (ax (aE .list (ae (aE .tuple (ae (aa 14) (ae (aa 6) ai))) (ae (aa 5) (ae (aa 4) (ae (aa 12) ai)))))))))))))))))))
def c7:FnM:=aK 7 (aj (jy 2 3 4 5 (aa 0)) (aj (fIf (aD (af eqD (aa 5) (fC (.int 0)))) (ax (aE .tuple (ae (fC (.str "made")) (ae (aE .tuple (ae (fC (.str "a")) (ae (fC (.int 7)) ai))) ai)))) aH) (aj (df 6 (ae (aa 1) ai)) (aj (bv (eB (aD (af inA (af ixD (aa 6) (fUn bf (fC (.int 1)))) (aa 3))) (aD (af dJ (af ixD (aa 6) (fUn bf (fC (.int 1)))) (fSl (aa 6) b9 (fP (fUn bf (fC (.int 1)))))))) (c5 6 (af ixA (aa 3) (af ixD (aa 6) (fUn bf (fC (.int 1)))))) 100000) (aj (fIf (aD (af eqD (aa 5) (fC (.int 1)))) (ax (aE .tuple (ae (fC (.str "fails")) (ae (fCB bY (ae (aa 6) ai)) (ae (fC (.str "part")) ai))))) aH) (ax (af ixD (aE .list (ae (aE .tuple (ae (fC (.str "lacks")) (ae (fCB bY (ae (aa 6) ai)) ai))) (ae (aE .tuple (ae (fC (.str "ring")) (ae (fCB bY (ae (aa 6) ai)) ai))) ai))) (fCB intD (ae (af eqD (aa 5) (fC (.int 2))) ai)))))))))
def eG:FnM:=aK 11 (aj (aG 2 (af ixD (aa 0) (fC (.int 0)))) (aj (aG 3 (aB dH (ae (aa 2) (ae (aE .list (ae (aa 1) ai)) ai)))) (aj (aG 4 (aB c7 (ae (aa 0) (ae (aa 1) ai)))) (aj (fIf (aD (af gI (aa 1) (af ixD (aa 2) (fC (.int 1))))) (ax (bR (fUn (bt .lst) (aa 3)) (af gk (aB cb (ae (aa 2) (ae (aa 3) ai))) (fC (.bool true))))) aH) (aj (aG 5 (bo (aZ (aa 3)) bq (af ixD (aa 0) (fC (.int 0))))) (aj (fIf (bK (aD (af eN (aB cb (ae (aa 2) (ae (aa 3) ai))) (fC (.bool true)))) (bK (aD (af dJ (aa 1) (aa 5))) (aD (af neG (fUn f9 (aa 5)) (fCB aT (ae (aa 5) ai)))))) (ax (fC (.bool false))) aH) (aj (fIf (bH (aX (aB (dF 25) (ae (aB ib (ae (aa 3) (ae (aa 1) ai))) (ae (aa 4) ai))))) (ax (fC (.bool false))) aH) (aj (fIf (aD (af eN (aB cb (ae (aa 2) (ae (af aR (aa 3) (fSl (aa 3) b9 (fP (fC (.int 1))))) ai))) (fC (.bool false)))) (ax (fC (.bool false))) aH) (aj (bw 6 (jN (fCB fB (ae (fC (.int 0)) (ae (af cv (fCB aT (ae (aa 3) ai)) (fC (.int 3))) ai))) (fCB aT (ae (aa 3) ai))) (aj (aG 7 (bo (aZ (af ixD (af ixD (aa 3) (aa 6)) (fC (.int 1)))) bq (af ixD (aa 0) (fC (.int 0))))) (aj (aG 8 (bo (bW (aa 6)) (aD (af inD (af ixD (aa 6) (aa 0)) (aa 8))) (aa 0))) (fIf (aD (af neG (aa 8) (aE .list ai))) (aj (aG 9 (af aR (fSl (aa 3) b9 (fP (aa 6))) (fSl (aa 3) (fP (af aR (aa 6) (fC (.int 1)))) b9))) (aj (aG 10 (af ixD (aa 8) (fC (.int 0)))) (fIf (aD (af eN (aB cb (ae (aa 2) (ae (af aR (af aR (fSl (aa 9) b9 (fP (aa 10))) (aE .list (ae (af ixD (aa 3) (aa 6)) ai))) (fSl (aa 9) (fP (aa 10)) b9)) ai))) (fC (.bool false)))) (ax (fC (.bool false))) aH))) aH)))) (ax (fC (.bool true))))))))))))
def iH:FnM:=aK 8 (aj (aG 1 (aB gv (ae (aa 0) ai))) (aj (jy 2 3 4 5 (aa 1)) (aj (aG 6 (aB fT (ae (aa 2) ai))) (aj (fIf (aD (af neD (fCB aT (ae (aa 6) ai)) (af bS (fCB aT (ae (aa 4) ai)) (fCB intD (ae (af eqD (aa 5) (fC (.int 0))) ai))))) (ax (fC (.bool false))) aH) (aj (bw 7 (aZ (aE .list (ae (af ixD (aa 4) (fC (.int 0))) (ae (af ixD (aa 4) (af bZ (aB dE (ae (aa 0) (ae (fC (.int 1)) ai))) (fCB aT (ae (aa 4) ai)))) (ae (af ixD (aa 4) (fUn bf (fC (.int 1)))) ai))))) (fIf (bK (bH (aX (aB (dF 25) (ae (aB fq (ae (aa 2) (ae (aa 7) ai))) (ae (aB c7 (ae (aa 1) (ae (aa 7) ai))) ai))))) (bH (aX (aB eG (ae (aa 1) (ae (aa 7) ai)))))) (ax (fC (.bool false))) aH)) (ax (af gk (aB cb (ae (aa 2) (ae (aB dH (ae (aa 2) (ae (aa 4) ai))) ai))) (fC (.bool true)))))))))
def gs:FS:=(aj (aG 7 (af cA (aa 3) (af ixD (aa 6) (fC (.int 0))))) (aj (aG 8 (af cA (aa 4) (af ixD (aa 6) (fC (.int 0))))) (aj (fIf (bK (aD (af geD (aa 8) (fCB aT (ae (aa 7) ai)))) (aD (af neD (af ixD (af ixD (aa 7) (aa 8)) (fC (.int 0))) (af ixD (aa 6) (fC (.int 1)))))) (ax (aE .tuple (ae (aE .tuple (ae (fUn (atS [("want","wants"),("peek","peeks")]) (af ixD (aa 6) (fC (.int 0)))) (ae (af ixD (aa 6) (fC (.int 1))) ai))) (ae (af cA (aa 4) (fC (.str "want"))) ai)))) aH) (aj (c5 5 (af ixD (af ixD (aa 7) (aa 8)) (fC (.int 1)))) (aj (lF 4 (af ixD (aa 6) (fC (.int 0))) (af aR (aa 8) (fC (.int 1)))) (aG 6 (gP (bT 25) (ae (af ixD (aa 6) (fC (.int 2))) (ae (aa 5) ai)))))))))
theorem xI:fU=aK 9 (aj (jM 3 "want" "peek" (aa 1) (aa 2)) (aj (jM 4 "want" "peek" (fC (.int 0)) (fC (.int 0))) (aj (df 5 ai) (aj (aG 6 (gP (bT 25) (ae (aa 0) (ae (aa 5) ai)))) (aj (bv (aD (af et (af ixD (aa 6) (fC (.int 0))) (aa 3))) gs 100000) (ax (aE .tuple (ae (aa 6) (ae (af cA (aa 4) (fC (.str "want"))) ai))))))))):=rfl
def iV:FS:=(bj 1 (af ixD (aa 2) (fC (.int 0))) (aa 2))
theorem wX:jZ=aK 3 (aj (bV 1) (aj (bw 2 (aZ (aa 0)) iV) (ax (aa 1)))):=rfl
def i3:FS:=(bj 1 (af ixD (aa 2) (fC (.int 0))) (af ixD (aa 2) (fC (.int 2))))
theorem xG:i7=aK 3 (aj (bV 1) (aj (bw 2 (aZ (aa 0)) i3) (ax (aa 1)))):=rfl
def jY:FS:=(bj 2 (aa 3) (aE .tuple (ae (fC (.str "made")) (ae (aB (eZ 25) (ae (aa 4) ai)) ai))))
def dD:FS:=(aj (fIf (bH (aX (fCB cU (ae (bo (aZ (af ixD (aa 5) (fC (.int 1)))) bq (af eqG (jO (aa 3) (af ixD (aa 0) (fC (.int 0)))) (aE .tuple (ae (fC (.str "made")) (ae (af ixD (aa 0) (fC (.int 1))) ai))))) ai)))) (ax (fC (.bool false))) aH) (bj 2 (af ixD (aa 5) (fC (.int 0))) (af ixD (aa 5) (fC (.int 2)))))
theorem pG:h9=aK 6 (aj (bV 2) (aj (jP 3 4 (af ixD (aa 0) (fC (.int 0))) jY) (aj (bw 5 (aZ (aa 1)) dD) (ax (fC (.bool true)))))):=rfl
def i5:FS:=(aG 0 (aB jl (ae (aa 0) (ae (af ixA (aa 1) (aB dh (ae (aa 0) ai))) ai))))
theorem pQ:fg=aK 2 (aj (bv (aD (af inA (aB dh (ae (aa 0) ai)) (aa 1))) i5 100000) (ax (aa 0))):=rfl
def iX:FS:=(bj 2 (aa 3) (aB eY (ae (aa 4) ai)))
def eI:FS:=(aj (bj 2 (aa 3) (eA (aB fg (ae (af ixA (aa 2) (aa 3)) (ae (aa 1) ai))))) (fIf (aD (af eqD (af ixD (af ixD (af ixA (aa 2) (aa 3)) (fC (.int 2))) (fC (.int 0))) (fC (.str "made")))) (bj 1 (aa 3) (af ixD (af ixD (af ixA (aa 2) (aa 3)) (fC (.int 2))) (fC (.int 1)))) aH))
def j3:FS:=(aj (aG 6 (fCB aT (ae (aa 1) ai))) (aj (bw 3 (aZ (af ixD (aa 0) (fC (.int 1)))) eI) (aG 5 (af gtD (fCB aT (ae (aa 1) ai)) (aa 6)))))
theorem xj:fS=aK 7 (aj (jz 1 (af ixD (aa 0) (fC (.int 0)))) (aj (bV 2) (aj (jP 3 4 (af ixD (aa 0) (fC (.int 1))) iX) (aj (aG 5 (fC (.bool true))) (aj (bv (aX (aa 5)) j3 100000) (ax (aE .tuple (ae (aa 1) (ae (aa 2) ai))))))))):=rfl
def eV:FS:=(aj (aG 3 (af ixD (af ixA (aa 0) (af ixD (aa 2) (fUn bf (fC (.int 1))))) (fC (.int 2)))) (aj (fIf (aD (af eqD (af ixD (aa 3) (fC (.int 0))) (fC (.str "made")))) (ax (aE .tuple (ae (fC (.str "made")) (ae (aB gw (ae (af ixD (aa 3) (fC (.int 1))) ai)) ai)))) aH) (aj (fIf (aD (af eqD (af ixD (aa 3) (fC (.int 0))) (fC (.str "fails")))) (ax (aE .tuple (ae (fC (.str "fails")) (ae (fCB bY (ae (aa 2) ai)) (ae (af ixD (aa 3) (fC (.int 1))) ai))))) aH) (c5 2 (af ixD (aa 3) (fC (.int 1)))))))
theorem pH:eX=aK 4 (aj (df 2 (ae (aa 1) ai)) (aj (bv (eB (aD (af inA (af ixD (aa 2) (fUn bf (fC (.int 1)))) (aa 0))) (aD (af dJ (af ixD (aa 2) (fUn bf (fC (.int 1)))) (fSl (aa 2) b9 (fP (fUn bf (fC (.int 1)))))))) eV 100000) (ax (aE .tuple (ae (cI (aD (af inA (af ixD (aa 2) (fUn bf (fC (.int 1)))) (aa 0))) (fC (.str "ring")) (fC (.str "lacks"))) (ae (fCB bY (ae (aa 2) ai)) ai)))))):=rfl
def iZ:FS:=(bj 1 (aa 2) (aB di (ae (aa 2) (ae (af ixA (aa 0) (aa 2)) ai))))
theorem xo:gu=aK 3 (aj (bV 1) (aj (bw 2 (aZ (aa 0)) iZ) (ax (aa 1)))):=rfl
def i4:FS:=(lR 1 2 (aa 4))
def j5:FS:=(aj (aG 3 (bo (aZ (fUn eh (aa 2))) (aX (eA (aB gr (ae (aa 3) (ae (af ixA (aa 3) (aa 0)) ai))))) (aa 0))) (aj (fIf (aD (af eqD (fCB aT (ae (aa 3) ai)) (fC (.int 0)))) lh aH) (bw 4 (aZ (aa 3)) i4)))
theorem xH:kf=iG 5 (aj (df 1 ai) (aj (jz 2 (aa 0)) (aj (bv (aD (af gtD (fCB aT (ae (aa 2) ai)) (fC (.int 0)))) j5 100000) (li 1)))):=rfl
def h8:FS:=(aj (iM 3 4) (fIf (aD (af gI (aa 4) (aa 2))) (aj (bj 2 (aa 4) (fC (.bool true))) (lQ 3 (cI (aD (af inA (aa 4) (aa 0))) (aB ie (ae (af ixA (aa 0) (aa 4)) ai)) (aE .list ai)))) aH))
theorem wZ:iY=aK 5 (aj (bV 2) (aj (lg 3 (aa 1)) (aj (bv (aD (af gtD (fCB aT (ae (aa 3) ai)) (fC (.int 0)))) h8 100000) (ax (fUn eh (aa 2)))))):=rfl
def fR:FS:=(fIf (aD (af inA (aa 3) (aa 0))) (bj 2 (aa 3) (af ixA (aa 0) (aa 3))) aH)
theorem w8:j4=aK 4 (aj (bV 2) (aj (bw 3 (aZ (aB iY (ae (aa 0) (ae (aa 1) ai)))) fR) (ax (aa 2)))):=rfl
def ig:FS:=(aj (aG 4 (af bZ (af aR (af aR (af bS (aa 4) (aa 4)) (af bS (fC (.int 48271)) (aa 4))) (af bS (fC (.int 7)) (aa 5))) (fC (.int 2147483647)))) (fIf (aD (af gtD (aa 3) (fC (.int 0)))) (aj (c5 2 (af bZ (aa 3) (fC (.int 720720)))) (aG 3 (af dS (aa 3) (fC (.int 720720))))) (c5 2 (af dS (af bZ (af aR (af bS (aa 4) (fC (.int 69621))) (af bS (fC (.int 13)) (aa 5))) (fC (.int 2147483629))) (fC (.int 3))))))
theorem qw:ia=aK 6 (aj (df 2 ai) (aj (aG 3 (fC (.int 0))) (aj (fIf (aD (af geD (aa 0) (af jU (fC (.int 10)) (fC (.int 18))))) (aG 3 (aa 0)) aH) (aj (aG 4 (af aR (af bZ (aa 0) (fC (.int 2147483629))) (fC (.int 48271)))) (aj (bw 5 (bW (aa 1)) ig) (ax (aa 2))))))):=rfl
def ik:FS:=(aj (aG 11 (fCB eP (ae (af cv (aa 3) (fC (.int 1))) (ae (af aR (af aR (aa 7) (fC (.int 1))) (af bZ (af aR (aa 10) (aa 7)) (fC (.int 3)))) ai)))) (aG 9 (aE .tuple (ae (fC (.str "want")) (ae (aE .tuple (ae (fC (.str "put")) (ae (af ixD (aa 4) (aa 11)) ai))) (ae (aa 9) ai))))))
def ij:FS:=(aj (aG 8 (fCB eP (ae (af cv (aa 3) (fC (.int 1))) (ae (af aR (af aR (aa 7) (fC (.int 1))) (aB bX (ae (aa 1) (ae (fC (.int 2)) ai)))) ai)))) (aj (bj 5 (af ixD (aa 4) (aa 7)) (af ixD (aa 4) (aa 8))) (aj (aG 9 (aE .tuple (ae (fC (.str "say")) (ae (aE .tuple (ae (fC (.str "got")) (ae (fC (.int 0)) ai))) ai)))) (aj (bw 10 (bW (af ixD (aE .list (ae (fC (.int 0)) (ae (fC (.int 0)) (ae (fC (.int 0)) (ae (fC (.int 11)) ai))))) (aB bX (ae (aa 1) (ae (fC (.int 4)) ai))))) ik) (bj 6 (af ixD (aa 4) (aa 7)) (aE .tuple (ae (fC (.str "want")) (ae (aE .tuple (ae (fC (.str "put")) (ae (af ixD (aa 4) (aa 8)) ai))) (ae (aa 9) ai)))))))))
theorem zu:gv=aK 15 (jA 1 (ae (aB ia (ae (aB dE (ae (aa 0) (ae (fC (.int 0)) ai))) (ae (fC (.int 60)) ai))) (ae (fC (.int 0)) ai)) (aj (aG 2 (fC (.str "abcdefghijklmnopqrstuvwxyz"))) (aj (aG 3 (af aR (fC (.int 2)) (aB bX (ae (aa 1) (ae (fC (.int 39)) ai))))) (aj (aG 4 (bo (bW (aa 3)) bq (af bS (af ixD (aa 3) (af bZ (aa 0) (fC (.int 26)))) (af aR (fC (.int 1)) (af dS (aa 0) (fC (.int 26))))))) (aj (bV 5) (aj (bV 6) (aj (bw 7 (bW (af cv (aa 3) (fC (.int 1)))) ij) (aj (aG 12 (aB bX (ae (aa 1) (ae (fC (.int 4)) ai)))) (aj (aG 13 (af ixD (aa 4) (aB bX (ae (aa 1) (ae (aa 3) ai))))) (aj (bV 14) (aj (fIf (aD (af eqD (aa 12) (fC (.int 0)))) (bj 14 (af ixD (aa 4) (fUn bf (fC (.int 1)))) (aE .tuple (ae (fC (.str "a")) (ae (fC (.int 7)) ai)))) aH) (aj (fIf (aD (af eqD (aa 12) (fC (.int 1)))) (bj 6 (af ixD (aa 4) (fUn bf (fC (.int 1)))) (aE .tuple (ae (fC (.str "fail")) (ae (fC (.str "part")) ai)))) aH) (aj (fIf (aD (af eqD (aa 12) (fC (.int 2)))) (aj (bj 6 (af ixD (aa 4) (fUn bf (fC (.int 1)))) (aE .tuple (ae (fC (.str "want")) (ae (aE .tuple (ae (fC (.str "put")) (ae (aa 13) ai))) (ae (aE .tuple (ae (fC (.str "say")) (ae (aE .tuple (ae (fC (.str "got")) (ae (fC (.int 0)) ai))) ai))) ai))))) (bj 5 (af ixD (aa 4) (fUn bf (fC (.int 1)))) (aa 13))) aH) (ax (aE .list (ae (aE .tuple (ae (aa 14) (ae (aa 6) ai))) (ae (aa 5) (ae (aa 4) (ae (aa 12) ai))))))))))))))))))):=rfl
def kJ:FS:=(c5 6 (af ixA (aa 3) (af ixD (aa 6) (fUn bf (fC (.int 1))))))
theorem si:c7=aK 7 (aj (jy 2 3 4 5 (aa 0)) (aj (fIf (aD (af eqD (aa 5) (fC (.int 0)))) (ax (aE .tuple (ae (fC (.str "made")) (ae (aE .tuple (ae (fC (.str "a")) (ae (fC (.int 7)) ai))) ai)))) aH) (aj (df 6 (ae (aa 1) ai)) (aj (bv (eB (aD (af inA (af ixD (aa 6) (fUn bf (fC (.int 1)))) (aa 3))) (aD (af dJ (af ixD (aa 6) (fUn bf (fC (.int 1)))) (fSl (aa 6) b9 (fP (fUn bf (fC (.int 1)))))))) kJ 100000) (aj (fIf (aD (af eqD (aa 5) (fC (.int 1)))) (ax (aE .tuple (ae (fC (.str "fails")) (ae (fCB bY (ae (aa 6) ai)) (ae (fC (.str "part")) ai))))) aH) (ax (af ixD (aE .list (ae (aE .tuple (ae (fC (.str "lacks")) (ae (fCB bY (ae (aa 6) ai)) ai))) (ae (aE .tuple (ae (fC (.str "ring")) (ae (fCB bY (ae (aa 6) ai)) ai))) ai))) (fCB intD (ae (af eqD (aa 5) (fC (.int 2))) ai))))))))):=rfl
def eW:FS:=(aj (aG 7 (bo (aZ (af ixD (af ixD (aa 3) (aa 6)) (fC (.int 1)))) bq (af ixD (aa 0) (fC (.int 0))))) (aj (aG 8 (bo (bW (aa 6)) (aD (af inD (af ixD (aa 6) (aa 0)) (aa 8))) (aa 0))) (fIf (aD (af neG (aa 8) (aE .list ai))) (aj (aG 9 (af aR (fSl (aa 3) b9 (fP (aa 6))) (fSl (aa 3) (fP (af aR (aa 6) (fC (.int 1)))) b9))) (aj (aG 10 (af ixD (aa 8) (fC (.int 0)))) (fIf (aD (af eN (aB cb (ae (aa 2) (ae (af aR (af aR (fSl (aa 9) b9 (fP (aa 10))) (aE .list (ae (af ixD (aa 3) (aa 6)) ai))) (fSl (aa 9) (fP (aa 10)) b9)) ai))) (fC (.bool false)))) (ax (fC (.bool false))) aH))) aH)))
theorem pJ:eG=aK 11 (aj (aG 2 (af ixD (aa 0) (fC (.int 0)))) (aj (aG 3 (aB dH (ae (aa 2) (ae (aE .list (ae (aa 1) ai)) ai)))) (aj (aG 4 (aB c7 (ae (aa 0) (ae (aa 1) ai)))) (aj (fIf (aD (af gI (aa 1) (af ixD (aa 2) (fC (.int 1))))) (ax (bR (fUn (bt .lst) (aa 3)) (af gk (aB cb (ae (aa 2) (ae (aa 3) ai))) (fC (.bool true))))) aH) (aj (aG 5 (bo (aZ (aa 3)) bq (af ixD (aa 0) (fC (.int 0))))) (aj (fIf (bK (aD (af eN (aB cb (ae (aa 2) (ae (aa 3) ai))) (fC (.bool true)))) (bK (aD (af dJ (aa 1) (aa 5))) (aD (af neG (fUn f9 (aa 5)) (fCB aT (ae (aa 5) ai)))))) (ax (fC (.bool false))) aH) (aj (fIf (bH (aX (aB (dF 25) (ae (aB ib (ae (aa 3) (ae (aa 1) ai))) (ae (aa 4) ai))))) (ax (fC (.bool false))) aH) (aj (fIf (aD (af eN (aB cb (ae (aa 2) (ae (af aR (aa 3) (fSl (aa 3) b9 (fP (fC (.int 1))))) ai))) (fC (.bool false)))) (ax (fC (.bool false))) aH) (aj (bw 6 (jN (fCB fB (ae (fC (.int 0)) (ae (af cv (fCB aT (ae (aa 3) ai)) (fC (.int 3))) ai))) (fCB aT (ae (aa 3) ai))) eW) (ax (fC (.bool true)))))))))))):=rfl
def gA:FS:=(fIf (bK (bH (aX (aB (dF 25) (ae (aB fq (ae (aa 2) (ae (aa 7) ai))) (ae (aB c7 (ae (aa 1) (ae (aa 7) ai))) ai))))) (bH (aX (aB eG (ae (aa 1) (ae (aa 7) ai)))))) (ax (fC (.bool false))) aH)
theorem As:iH=aK 8 (aj (aG 1 (aB gv (ae (aa 0) ai))) (aj (jy 2 3 4 5 (aa 1)) (aj (aG 6 (aB fT (ae (aa 2) ai))) (aj (fIf (aD (af neD (fCB aT (ae (aa 6) ai)) (af bS (fCB aT (ae (aa 4) ai)) (fCB intD (ae (af eqD (aa 5) (fC (.int 0))) ai))))) (ax (fC (.bool false))) aH) (aj (bw 7 (aZ (aE .list (ae (af ixD (aa 4) (fC (.int 0))) (ae (af ixD (aa 4) (af bZ (aB dE (ae (aa 0) (ae (fC (.int 1)) ai))) (fCB aT (ae (aa 4) ai)))) (ae (af ixD (aa 4) (fUn bf (fC (.int 1)))) ai))))) gA) (ax (af gk (aB cb (ae (aa 2) (ae (aB dH (ae (aa 2) (ae (aa 4) ai))) ai))) (fC (.bool true))))))))):=rfl
@[simp] theorem gE{a b:String}:Str.ofString a=Str.ofString b↔a=b:=by
 constructor
 .intro h
  have h2:(Str.ofString a).cps.toList=(Str.ofString b).cps.toList:=by rw[h]
  rw[signs_ofString,signs_ofString] at h2;have inj:Function.Injective Char.toNat:=fun x y e=>Char.ext (UInt32.toNat_inj.mp e);exact String.toList_inj.mp ((List.map_inj_right (fun x y e=>inj e)).mp h2)
 .rintro rfl;rfl
abbrev Dc:=List (PyData×PyData)
theorem sz:sizeLine=16777216:=by decide
theorem oo{α:Type}{xs:List α}{i:Int}(h0:0<=i)(h1:i<xs.length):∃x,atI xs i=some x/\x∈xs:=by
 unfold atI ixN;rw[if_pos h0,if_pos h1]
 have hl:i.toNat<xs.length:=by omega
 exact⟨xs[i.toNat],by simp[hl],List.getElem_mem hl⟩
theorem tV{i:Nat}{body:FS}{I:Nat->Rho->Tp->Prop}{N:Nat}:∀(ds:List PyData) (k:Nat) (ρ:Rho) (T:Tp),k+ds.length<=N->I k ρ T ->
  (∀k d ρ T,d∈ds->k<N->I k ρ T->∃ρ' T',body (ρ.set i (some (.d d))) T=some ((.nx,ρ'),T')/\I (k+1) ρ' T')->∃ρ' T',forL i body ds ρ T=some ((.nx,ρ'),T')/\I (k+ds.length) ρ' T'
 |[],k,ρ,T,_,h,_=>⟨ρ,T,rfl,h⟩
 |d::r,k,ρ,T,hN,h,hs=>by
  rw[List.length_cons] at hN;obtain⟨ρ1,T1,e1,h1⟩:=hs k d ρ T List.mem_cons_self (by omega) h;obtain⟨ρ2,T2,e2,h2⟩:=tV (body:=body) (I:=I) r (k+1) ρ1 T1 (by omega) h1 fun k d ρ T hd=>hs k d ρ T (List.mem_cons_of_mem _ hd);refine⟨ρ2,T2,?_,by rw[List.length_cons,show k+(r.length+1)=k+1+r.length by omega];exact h2⟩;unfold forL;rw[e1];exact e2
theorem Av{n:Nat}{d:PyData}(h:d∈bc 0 n):∃j:Int,d=.int j/\0<=j/\j<n:=by
 obtain⟨k,hk,rfl⟩:=List.mem_map.mp h;have:=List.mem_range.mp hk;exact⟨0+(k:Int),rfl,by omega,by omega⟩
theorem r6(n:Nat):(bc 0 n).length=n:=by simp[bc]
theorem rng_ok{j:Int}(h0:0<=j)(h1:j<=1000):cN j=true:=by
 unfold cN;simp;omega
theorem sr{i j:Int}:dS (.int i) (.int j)=if 0<j/\j<18446744073709551616 then some (.int (i / j)) else none:=rfl
@[simp] theorem Ei{N:Nat}{s:FS}{ws:List W}{T:Tp}:iG N s ws T=if ei ws=true then k9 (s (ws.map some++List.replicate (N-ws.length) none) T) else none:=rfl
@[simp] theorem IR{x:PyData}{r:Rho}{T:Tp}:k9 (some ((.ro x,r),T))=some (x,T):=rfl
@[simp] theorem He{s:FS}{x:PyData}{ρ:Rho}{T:Tp}:iP s (.ro x,ρ) T=some ((.ro x,ρ),T):=rfl
def nm(l:List Str):List PyData:=l.map PyData.str
theorem cL(l:List Str):(nm l).length=l.length:=by simp[nm]
theorem oK(w:Str)(xs:List Str):inD (.str w) (.list (nm xs))=some (.bool (decide (w∈xs))):=by
 have h:(xs.map PyData.str).all cO=true:=by simp[cO]
 show (if cO (.str w)&&(xs.map PyData.str).all cO then some ((xs.map PyData.str).any fun y=>eqF y (.str w)) else none).map PyData.bool=_;rw[h];simp[cO,eqF,List.any_map]
 induction xs with
 |nil=>simp
 |cons a r ih=>
  have ih':=ih (by simp[cO]);simp only[List.any_cons,ih',List.mem_cons,Function.comp,eqF]
  by_cases e:w=a
  .subst e;simp
  .have e':¬a=w:=fun z=>e z.symm
   simp[e,e']
theorem nZ(w:Str)(xs:List Str):dJ (.str w) (.list (nm xs))=some (.bool (!decide (w∈xs))):=by
 have h:=oK w xs;unfold inD at h;unfold dJ
 cases hb:inS (.str w) (.list (nm xs)) with
 |none=>rw[hb] at h;cases h
 |some b=>
  rw[hb] at h;simp at h;simp[h]
theorem F0{l:List Str}{i:Int}(h0:0<=i)(h1:i<(l.length:Int)):∃x,atI (nm l) i=some (.str x)/\x∈l:=by
 obtain⟨d,e,hm⟩:=oo (xs:=nm l) h0 (by rw[cL];exact h1);obtain⟨x,hx,rfl⟩:=List.mem_map.mp hm;exact⟨x,e,hx⟩
theorem uK{α:Type}[DecidableEq α]:∀{L N:List α},L.Nodup->N.length<L.length->∃x∈L,x∉N
 |[],N,_,h=>absurd h (by simp)
 |a::L,N,nd,h=>by
  rw[List.nodup_cons] at nd
  by_cases ha:a∈N
  .have hp:(N.erase a).length<L.length:=by
    have h1:=List.length_erase_of_mem ha;have h2:0<N.length:=List.length_pos_of_mem ha;rw[List.length_cons] at h;omega
   obtain⟨x,hx,nx⟩:=uK nd.2 hp;refine⟨x,List.mem_cons_of_mem _ hx,fun z=>nx ?_⟩;exact(List.mem_erase_of_ne (fun(q:x=a)=>nd.1 (q ▸ hx))).mpr z
  .exact⟨a,List.mem_cons_self,ha⟩
theorem aP{a b:FS}{ρ ρ1:Rho}{T T1:Tp}(h:a ρ T=some ((.nx,ρ1),T1)):aj a b ρ T=b ρ1 T1:=by
 rw[iD,h];rfl
theorem n8(b:Bool):intD [.bool b]=some (.int (if b then 1 else 0)):=rfl
theorem bg{α:Type}{a b:α}:atI [a,b] 0=some a/\atI [a,b] 1=some b:=⟨rfl,rfl⟩
def fzO(o:Option W):Option W:=(b4 [o]).headD none
theorem fu{o:Option W}{r:Rho}:b4 (o::r)=fzO o::b4 r:=rfl
@[simp] theorem JQ:fzO none=none:=rfl
@[simp] theorem JS{x:PyData}:fzO (some (.d x))=some (.d x):=rfl
@[simp] theorem JP{i:Nat}:fzO (some (.tp i))=some (.tp i):=rfl
@[simp] theorem JR{x:PyData}:fzO (some (.loc x))=some (.d x):=rfl
def gR(m:FnM)(ws:List D.W)(T1:Tp):Option (D.W×Tp):=if jV ws=true then (match m (ws.map iT) [] with
 |some (x,_)=>if bD x=true then some (.d x,T1) else none
 | none=>none) else none
@[simp] theorem Hv{m:FnM}{a:FA}{ρ:Rho}{T:Tp}:gP m a ρ T=bnd (a ρ T) (gR m):=rfl
theorem rF{m:FnM}{ws:List D.W}{T T':Tp}{x:PyData}(h1:jV ws=true)(h2:m (ws.map iT) []=some (x,T'))(h3:bD x=true):gR m ws T=some (.d x,T):=by
 unfold gR;rw[if_pos h1,h2];dsimp only;rw[if_pos h3]
@[simp] theorem GY{s:Str}{ds:List (PyData×PyData)}:gI (.str s) (.dict ds)=some (.bool (!(aO ds s).isSome)):=rfl
@[simp] theorem IC{s:Str}{ds:List (PyData×PyData)}:ixA (.dict ds) (.str s)=aO ds s:=rfl
theorem je:∀{ds:List PyData},(∀d∈ds,bD d=true)->eO ds=true
 |[],_=>rfl
 |d::r,h=>by
  show (bD d&&eO r)=true;rw[h d List.mem_cons_self,je fun x hx=>h x (List.mem_cons_of_mem _ hx)];rfl
abbrev SS:=Str×Str
def Rd(rs:List SS):List PyData:=rs.map fun p=>.tuple [.str p.1,.str p.2]
theorem Dh(rs:List SS):(Rd rs).length=rs.length:=by simp[Rd]
def tlD(a b:Str):PyData:=.tuple [.str a,.str b]
def bx:Str:=Str.ofString "made"
theorem at3{α:Type}{a b c:α}:atI [a,b,c] 0=some a/\atI [a,b,c] 1=some b/\atI [a,b,c] 2=some c:=⟨rfl,rfl,rfl⟩
theorem ot{c:FT}{b:FS}{m:Nat}{ρ ρ':Rho}{T:Tp}{x:PyData}(hc:c ρ T=some (true,T))(hb:b ρ T=some ((.rt x,ρ'),T)):bv c b (m+1) ρ T=some ((.rt x,ρ'),T):=by
 show (bnd (c ρ T) fun b1 T1=>_)=_;rw[hc];show (bnd (b ρ T) fun p T2=>_)=_;rw[hb];rfl
theorem gT{c:FT}{b:FS}{m:Nat}{ρ ρ':Rho}{T:Tp}(hc:c ρ T=some (true,T))(hb:b ρ T=some ((.nx,ρ'),T)):bv c b (m+1) ρ T=bv c b m ρ' T:=by
 show (bnd (c ρ T) fun b1 T1=>_)=_;rw[hc];show (bnd (b ρ T) fun p T2=>_)=_;rw[hb];rfl
theorem du{c:FT}{b:FS}{m:Nat}{ρ:Rho}{T:Tp}(hc:c ρ T=some (false,T)):bv c b (m+1) ρ T=some ((.nx,ρ),T):=by
 show (bnd (c ρ T) fun b1 T1=>_)=_;rw[hc];rfl
abbrev Dl:=List (Str×PyData)
def ky(l:Dl):List Str:=l.map (·.1)
theorem cw(s:Str):∀l:Dl,aO (ao l) s=l.lookup s
 |[]=>rfl
 |(k,d)::r=>by
  have ih:=cw s r;show (if k=s then some d else aO (ao r) s)=_;rw[List.lookup_cons,ih]
  by_cases h:k=s
  .subst h;simp
  .have h':(s == k)=false:=beq_eq_false_iff_ne.mpr fun z=>h z.symm
   rw[if_neg h,h']
theorem jc{s:Str}{d:PyData}:∀{l:Dl},l.lookup s=some d->(s,d)∈l
 |[],h=>nomatch h
 |(k,e)::r,h=>by
  rw[List.lookup_cons] at h
  by_cases hk:s=k
  .subst hk
   simp at h;subst h;exact List.mem_cons_self
  .have h':(s == k)=false:=beq_eq_false_iff_ne.mpr hk
   rw[h'] at h;exact List.mem_cons_of_mem _ (jc h)
theorem ku{s:Str}:∀{l:Dl},s∈ky l->∃d,l.lookup s=some d
 |[],h=>nomatch h
 |(k,e)::r,h=>by
  rw[List.lookup_cons]
  by_cases hk:s=k
  .subst hk;exact⟨e,by simp⟩
  .have h':(s == k)=false:=beq_eq_false_iff_ne.mpr hk
   rw[h']
   exact ku (by
    rcases List.mem_cons.mp h with z|z
    .exact absurd z hk
    .exact z)
theorem kR{s:Str}{d:PyData}{l:Dl}(h:l.lookup s=some d):s∈ky l:=List.mem_map.mpr ⟨_,jc h,rfl⟩
theorem sf{s:Str}{l:Dl}:(l.lookup s).isSome=decide (s∈ky l):=by
 by_cases h:s∈ky l
 .obtain⟨d,e⟩:=ku h
  rw[e,decide_eq_true h];rfl
 .rw[decide_eq_false h]
  cases e:l.lookup s with
  |none=>rfl
  |some d=>exact absurd (kR e) h
theorem ef{s:Str}{d:PyData}:∀{l:Dl},(ky l).Nodup->(s,d)∈l->l.lookup s=some d
 |[],_,h=>nomatch h
 |(k,e)::r,nd,h=>by
  have nd':k∉ky r/\(ky r).Nodup:=List.nodup_cons.mp nd;rw[List.lookup_cons]
  rcases List.mem_cons.mp h with z|z
  .cases z;simp
  .have hk:s∈ky r:=List.mem_map.mpr ⟨_,z,rfl⟩
   have h':(s == k)=false:=beq_eq_false_iff_ne.mpr fun q=>nd'.1 (q ▸ hk);rw[h'];exact ef nd'.2 z
theorem tD(s:Str)(x:PyData):∀l:Dl,cW (ao l) s x=ao (l.map fun p=>if p.1=s then (p.1,x) else p)
 |[]=>rfl
 |(k,d)::r=>by
  have ih:=tD s x r;show (if k=s then (PyData.str k,x)::cW (ao r) s x else (PyData.str k,d)::cW (ao r) s x)=_;rw[ih,List.map_cons]
  by_cases h:k=s
  .simp[h,ao]
  .simp[h,ao]
def putL(l:Dl)(s:Str)(x:PyData):Dl:=if s∈ky l then l.map fun p=>if p.1=s then (p.1,x) else p else l++[(s,x)]
theorem cK(l:Dl)(s:Str)(x:PyData):putN (ao l) s x=ao (putL l s x):=by
 unfold putN putL;rw[cw,sf]
 by_cases h:s∈ky l
 .rw[decide_eq_true h,if_pos rfl,if_pos h,tD]
 .rw[decide_eq_false h,if_neg (by decide),if_neg h]
  simp[ao]
theorem cY{α:Type}[DecidableEq α]{L N:List α}(nd:L.Nodup)(h:∀x∈L,x∈N):L.length<=N.length:=by
 apply Nat.le_of_not_lt;intro z;obtain⟨x,hx,nx⟩:=uK nd z;exact nx (h x hx)
theorem eg(l:Dl):(ao l).length=l.length:=by simp[ao]
@[simp] theorem GQ{xs:List (PyData×PyData)}{r:List W}{T:Tp}:views T (.loc (.dict xs)::r)=jR (.dict xs) (views T r):=rfl
@[simp] theorem HU{i:Nat}{ρ:Rho}{T:Tp}:bV i ρ T=some ((.nx,ρ.set i (some (.loc (.dict [])))),T):=rfl
@[simp] theorem Ic{i:Nat}{fk fv:FE}{ρ:Rho}{T:Tp}:bj i fk fv ρ T=bnd (fv ρ T) fun w T1=>lA i fk ρ w T1 ρ[i]?:=rfl
@[simp] theorem Hf{i:Nat}{fk:FE}{ρ:Rho}{w:D.W}{T:Tp}{ds:Dc}:lA i fk ρ w T (some (some (.loc (.dict ds))))=bnd (fk ρ T) (lB i ρ ds w):=rfl
@[simp] theorem Hg{i:Nat}{ρ:Rho}{T:Tp}{ds:Dc}{x:PyData}{s:Str}:lB i ρ ds (.d x) (.d (.str s)) T=if ds.length<=1000 then some ((.nx,ρ.set i (some (.loc (.dict (putN ds s x))))),T) else none:=rfl
theorem oz{o:PyData->PyData->Option PyData}{ds:Dc}{T:Tp}{y:PyData}:op2 o T (.d y) (.loc (.dict ds))=mkD T (o y (.dict ds)):=rfl
theorem oA{o:PyData->PyData->Option PyData}{ds:Dc}{T:Tp}{y:PyData}:op2 o T (.loc (.dict ds)) (.d y)=mkD T (o (.dict ds) y):=rfl
theorem mH(l:Dl):(ao l).map (·.1)=nm (ky l):=by
 unfold ao nm ky;rw[List.map_map,List.map_map];rfl
@[simp] theorem G1:fE []=[]:=rfl
@[simp] theorem Hn{o:Option W}{r:Rho}:fE (o::r)=o.bind jH::fE r:=rfl
@[simp] theorem Hm{x:PyData}:jH (.d x)=some (.d x):=rfl
@[simp] theorem G0{x:PyData}:jH (.loc x)=some (.d x):=rfl
@[simp] theorem Iw{f:FE}{ρ:Rho}{T:Tp}:eA f ρ T=f7 T (f (fE ρ) []):=rfl
theorem mG{x:PyData}{T T':Tp}(h:bD x=true):f7 T (some (.d x,T'))=some (.d x,T):=by
 unfold f7;dsimp only;rw[if_pos h]
@[simp] theorem Hb{o:Option W}{r:Rho}{T:Tp}:aa 10 (o::r) T=aa 9 r T:=dI
@[simp] theorem Ha{o:Option W}{r:Rho}{T:Tp}:aa 11 (o::r) T=aa 10 r T:=dI
@[simp] theorem G9{o:Option W}{r:Rho}{T:Tp}:aa 12 (o::r) T=aa 11 r T:=dI
def lnD(n:Str)(rs:List SS)(a b:Str):PyData:=.tuple [.str n,.tuple (Rd rs),tlD a b]
def Hx(n:Str)(x:PyData):Prop:=∃t rs a b,x=.tuple [.str t,lnD n rs a b]/\rs.length<=12
structure Hq(l:List Str)(h:Dl):Prop where
 nd:(ky h).Nodup
 ok:∀p∈h,p.1∈l/\Hx p.1 p.2
 cl:∀p∈h,∀t rs a b,p.2=.tuple [.str t,lnD p.1 rs a b]->(∀r∈rs,r.1∈l)/\(a=Str.ofString "wants"->b∈l)
 le:l.length<=40
theorem Hq.len{l:List Str}{h:Dl}(q:Hq l h):h.length<=l.length:=by
 have:=cY q.nd (N:=l) fun x hx=>by
  obtain⟨p,hp,rfl⟩:=List.mem_map.mp hx;exact(q.ok p hp).1
 simpa[ky] using this
def wt(a b:Str):List Str:=if a=Str.ofString "wants" then [b] else []
def rn(rs:List SS):List Str:=rs.map (·.1)
def unS:PyData->Str
 |.str x=>x
 |_=>Str.ofString ""
def unP:PyData->SS
 |.tuple [a,b]=>(unS a,unS b)
 |_=>(Str.ofString "",Str.ofString "")
def oX:PyData->List SS
 |.tuple [_,.tuple [_,.tuple rs,_]]=>rs.map unP
 |_=>[]
def v9:PyData->List Str
 |.tuple [_,.tuple [_,_,.tuple [.str a,.str b]]]=>wt a b
 |_=>[]
def oZ:PyData->PyData
 |.tuple [_,y]=>y
 |_=>.none
theorem jh(t n:Str)(rs:List SS)(a b:Str):oX (.tuple [.str t,lnD n rs a b])=rs:=by
 show (Rd rs).map unP=rs;unfold Rd;rw[List.map_map];have:(unP ∘ fun p:SS=>PyData.tuple [.str p.1,.str p.2])=id:=rfl;rw[this,List.map_id]
theorem mR(t n:Str)(rs:List SS)(a b:Str):v9 (.tuple [.str t,lnD n rs a b])=wt a b:=rfl
def rnH(h:Dl)(n:Str):List Str:=match h.lookup n with
 |some x=>rn (oX x)
 |none=>[]
def nx(h:Dl)(n:Str):List Str:=match h.lookup n with
 |some x=>rn (oX x)++v9 x
 |none=>[]
def ln(h:Dl)(n:Str):PyData:=match h.lookup n with
 |some x=>oZ x
 |none=>.none
inductive Reach(h:Dl)(roots:List Str):Str->Prop where
 |root {r:Str}:r∈roots->Reach h roots r
 |step {n m:Str}:Reach h roots n->m∈nx h n->Reach h roots m
def uc(h:Dl)(S:List Str):Nat:=((ky h).filter fun k=>!decide (k∈S)).length
theorem nr{α:Type}{p q:α->Bool}:∀{L:List α},(∀a∈L,q a=true->p a=true)->(L.filter q).length<=(L.filter p).length
 |[],_=>Nat.le_refl _
 |a::L,h=>by
  have ih:=nr (L:=L) fun x hx=>h x (List.mem_cons_of_mem _ hx);have h1:=h a List.mem_cons_self
  cases hq:q a with
  |true=>
   have hp:=h1 hq;simp[hq,hp];exact ih
  |false=>
   cases hp:p a with
   |true=>simp[hq,hp];omega
   |false=>simp[hq,hp];exact ih
theorem nq{α:Type}{p q:α->Bool}{x:α}:∀{L:List α},(∀a∈L,q a=true->p a=true)->x∈L->p x=true->q x=false->(L.filter q).length<(L.filter p).length
 |[],_,h,_,_=>nomatch h
 |a::L,h,hx,h1,h2=>by
  have hle:=nr (p:=p) (q:=q) (L:=L) fun x hx=>h x (List.mem_cons_of_mem _ hx)
  rcases List.mem_cons.mp hx with rfl|z
  .simp[h1,h2];omega
  .have ih:=nq (L:=L) (fun x hx=>h x (List.mem_cons_of_mem _ hx)) z h1 h2
   have ha:=h a List.mem_cons_self
   cases hq:q a with
   |true=>
    have hp:=ha hq;simp[hq,hp];exact ih
   |false=>
    cases hp:p a with
    |true=>simp[hq,hp];omega
    |false=>simp[hq,hp];exact ih
theorem vm(h:Dl)(S:List Str)(x:Str):uc h (S++[x])<=uc h S:=nr fun a _ z=>by
 simp at z ⊢;exact z.1
theorem vj{h:Dl}{S:List Str}{x:Str}(hx:x∈ky h)(hs:x∉S):uc h (S++[x])+1<=uc h S:=nq (x:=x) (fun a _ z=>by
 simp at z ⊢
 exact z.1) hx (by simp[hs]) (by simp)
theorem nX{l:List Str}{h:Dl}(q:Hq l h)(x:Str):(nx h x).length<=13/\(x∉ky h->nx h x=[]):=by
 unfold nx
 cases e:h.lookup x with
 |none=>exact⟨by simp,fun _=>rfl⟩
 |some y=>
  obtain⟨t,rs,a,b,e2,fk⟩:=(q.ok _ (jc e)).2;dsimp only at e2;subst e2;refine⟨?_,fun z=>absurd (kR e) z⟩;dsimp only;rw[jh,mR,List.length_append];have:=fk
  have:(wt a b).length<=1:=by unfold wt;split <;> simp
  unfold rn;rw[List.length_map];omega
structure Inv(h:Dl)(roots S left:List Str):Prop where
 nd:S.Nodup
 rS:∀x∈S,Reach h roots x
 rL:∀x∈left,Reach h roots x
 ro:∀r∈roots,r∈S\/r∈left
 cl:∀n∈S,∀m∈nx h n,m∈S\/m∈left
 ct:S.length+left.length+13*uc h S<=roots.length+13*h.length
theorem Inv.start(h:Dl)(roots:List Str):Inv h roots [] roots:=⟨by simp,fun _ z=>(nomatch z),fun x hx=>.root hx,fun r hr=>.inr hr,fun _ z=>(nomatch z),by
 have:uc h []<=h.length:=by
  unfold uc;refine Nat.le_trans (List.length_filter_le _ _) ?_;simp[ky]
 simp
 omega⟩
theorem Inv.old{h:Dl}{roots S left rest:List Str}(I:Inv h roots S left){x:Str}(h1:∀y∈left,y=x\/y∈rest)(h2:∀y∈rest,y∈left)(h3:rest.length+1=left.length)(hx:x∈S):Inv h roots S rest:=by
 have mv:∀y,y∈S\/y∈left->y∈S\/y∈rest:=fun y z=>by
  rcases z with z|z
  .exact .inl z
  .rcases h1 y z with rfl|w
   .exact .inl hx
   .exact .inr w
 exact⟨I.nd,I.rS,fun y hy=>I.rL y (h2 y hy),fun r hr=>mv r (I.ro r hr),fun n hn m hm=>mv m (I.cl n hn m hm),by have:=I.ct;omega⟩
theorem Inv.new{l:List Str}{h:Dl}(q:Hq l h){roots S left rest:List Str}(I:Inv h roots S left){x:Str}(h0:x∈left)(h1:∀y∈left,y=x\/y∈rest)(h2:∀y∈rest,y∈left)(h3:rest.length+1=left.length)(hx:x∉S):Inv h roots (S++[x]) (rest++nx h x):=by
 have rx:=I.rL x h0
 have mv:∀y,y∈S\/y∈left->y∈S++[x]\/y∈rest++nx h x:=fun y z=>by
  rcases z with z|z
  .exact .inl (List.mem_append_left _ z)
  .rcases h1 y z with rfl|w
   .exact .inl (List.mem_append_right _ (List.mem_singleton.mpr rfl))
   .exact .inr (List.mem_append_left _ w)
 refine⟨?_,fun y hy=>?_,fun y hy=>?_,fun r hr=>mv r (I.ro r hr),fun n hn m hm=>?_,?_⟩
 .rw[List.nodup_append]
  exact⟨I.nd,by simp,fun a ha b hb=>by simp at hb;subst hb;exact fun w=>hx (w ▸ ha)⟩
 .rcases List.mem_append.mp hy with z|z
  .exact I.rS y z
  .rw[List.mem_singleton.mp z];exact rx
 .rcases List.mem_append.mp hy with z|z
  .exact I.rL y (h2 y z)
  .exact .step rx z
 .rcases List.mem_append.mp hn with z|z
  .exact mv m (I.cl n z m hm)
  .rw[List.mem_singleton.mp z] at hm
   exact .inr (List.mem_append_right _ hm)
 .have c:=I.ct
  have n6:=nX q x;rw[List.length_append,List.length_append,List.length_singleton]
  by_cases hk:x∈ky h
  .have:=vj hk hx
   have:=n6.1;omega
  .have:=vm h S x
   rw[n6.2 hk,List.length_nil];omega
theorem Inv.done{h:Dl}{roots S:List Str}(I:Inv h roots S [])(x:Str):x∈S↔Reach h roots x:=by
 constructor
 .exact I.rS x
 .intro r
  induction r with
  |root hr=>exact(I.ro _ hr).resolve_right fun z=>nomatch z
  |step _ hm ih=>exact(I.cl _ ih _ hm).resolve_right fun z=>nomatch z
theorem nP(rs:List SS)(ρ:Rho)(T:Tp):cH bq (af ixD (aa 0) (fC (.int 0))) ρ (Rd rs) T=some (nm (rn rs),T):=by
 have h:=c9 (e:=af ixD (aa 0) (fC (.int 0))) (ρ:=ρ) (T:=T) (g:=fun d=>.str (unP d).1) (ds:=Rd rs) fun d hd=>by
  obtain⟨p,_,rfl⟩:=List.mem_map.mp hd;simp[bg,unP,unS]
 rw[h]
 congr 2
 unfold Rd nm rn;rw[List.map_map,List.map_map];rfl
theorem zX{n:Str}{rs:List SS}{a b:Str}(hl:rs.length<=12)(T:Tp):ie [.d (lnD n rs a b)] T=some (.list (nm (rn rs++wt a b)),T):=by
 have z:(nm (rn rs)).length+1<=sizeLine:=by rw[cL,sz];unfold rn;rw[List.length_map];omega
 have z0:(nm (rn rs)).length<=sizeLine:=by omega
 by_cases h:a=Str.ofString "wants"
 .simp[ie,lnD,tlD,at3,bg,h,nP,z,wt,nm]
  intro q;rw[cL] at z;omega
 .simp[ie,lnD,tlD,at3,bg,h,nP,z0,wt,nm]
  intro q;rw[cL] at z0;omega
def dl(h:Dl)(A:List Str):Dl:=A.map fun n=>(n,ln h n)
theorem g9(h:Dl)(A:List Str):ky (dl h A)=A:=by
 unfold ky dl;rw[List.map_map];exact List.map_id _
theorem iy(h:Dl)(x:Str):∀A:List Str,(dl h A).lookup x=if x∈A then some (ln h x) else none
 |[]=>rfl
 |a::r=>by
  have ih:=iy h x r;show List.lookup x ((a,ln h a)::dl h r)=_;rw[List.lookup_cons,ih]
  by_cases e:x=a
  .subst e;simp
  .have e':(x == a)=false:=beq_eq_false_iff_ne.mpr e
   simp[e,e']
theorem tE{l:Dl}{s:Str}{x:PyData}(h:s∉ky l):putL l s x=l++[(s,x)]:=by
 unfold putL;rw[if_neg h]
theorem Eu{h:Dl}{A:List Str}{s:Str}(hs:s∉A):putL (dl h A) s (ln h s)=dl h (A++[s]):=by
 rw[tE (by rw[g9];exact hs)];simp[dl]
theorem jx(s:Str)(l:Dl):inA (.str s) (.dict (ao l))=some (.bool (decide (s∈ky l))):=by
 show (some (aO (ao l) s).isSome).map PyData.bool=_;rw[cw,sf];rfl
theorem Hq.at{l:List Str}{h:Dl}(q:Hq l h){n:Str}(hn:n∈ky h):∃t rs a b,h.lookup n=some (.tuple [.str t,lnD n rs a b])/\rs.length<=12/\ln h n=lnD n rs a b/\nx h n=rn rs++wt a b/\rnH h n=rn rs:=by
 obtain⟨x,e⟩:=ku hn;obtain⟨t,rs,a,b,e2,fk⟩:=(q.ok _ (jc e)).2;dsimp only at e2;subst e2;refine⟨t,rs,a,b,e,fk,?_,?_,?_⟩
 .unfold ln;rw[e];rfl
 .unfold nx;rw[e];dsimp only;rw[jh,mR]
 .unfold rnH;rw[e];dsimp only;rw[jh]
def tr(S:List Str):Dl:=S.map fun n=>(n,.bool true)
theorem lw(S:List Str):ky (tr S)=S:=by
 unfold ky tr;rw[List.map_map];exact List.map_id _
theorem C1{S:List Str}{s:Str}(hs:s∉S):putL (tr S) s (.bool true)=tr (S++[s]):=by
 rw[tE (by rw[lw];exact hs)];simp[tr]
theorem BL{ρ:Rho}{T:Tp}{rest:List Str}{x:Str}(e:ρ[3]? = some (some (.loc (.list (nm (rest++[x])))))):iM 3 4 ρ T=some ((.nx,(ρ.set 3 (some (.loc (.list (nm rest))))).set 4 (some (.d (.str x)))),T):=by
 show lC 3 4 ρ T ρ[3]? = _;rw[e]
 have h1:nm (rest++[x])=nm rest++[.str x]:=by simp[nm]
 unfold lC;dsimp only;rw[if_neg (by decide),h1];simp
@[simp] theorem JT{i:Nat}{f:FE}{ρ:Rho}{T:Tp}:lQ i f ρ T=bnd (f ρ T) fun w T1=>match w,ρ[i]? with
 |.d (.list ys),some (some (.loc (.list xs)))=>if xs.length+ys.length<=sizeLine then some ((.nx,ρ.set i (some (.loc (.list (xs++ys))))),T1) else none
 |_,_=>none:=rfl
def ρR(D x:PyData)(c:PyData)(left:List Str)(o:Option W):Rho:=[some (.d D),some (.d x),some (.loc c),some (.loc (.list (nm left))),o]
def rcC:FT:=(aD (af gtD (fCB aT (ae (aa 3) ai)) (fC (.int 0))))
theorem wm{D x c:PyData}{left:List Str}{o:Option W}{T:Tp}:rcC (ρR D x c left o) T=some (decide (0<left.length),T):=by simp[rcC,ρR,cL]
section
variable {l:List Str}{h:Dl}(q:Hq l h)
include q in
theorem Bs{roots S rest:List Str}(hr:roots.length<=40){x:Str}(I:Inv h roots S (rest++[x])){D0:PyData}{o:Option W}{T:Tp}:∃S' left' ,h8 (ρR (.dict (ao (dl h (ky h)))) D0 (.dict (ao (tr S))) (rest++[x]) o) T=some ((.nx,ρR (.dict (ao (dl h (ky h)))) D0 (.dict (ao (tr S'))) left' (some (.d (.str x)))),T)/\Inv h roots S' left'/\left'.length+14*uc h S' < (rest++[x]).length+14*uc h S:=by
 have hm:∀y∈rest++[x],y=x\/y∈rest:=fun y hy=>by
  rcases List.mem_append.mp hy with z|z
  .exact .inr z
  .exact .inl (List.mem_singleton.mp z)
 have hm2:∀y∈rest,y∈rest++[x]:=fun y hy=>List.mem_append_left _ hy;have ct:=I.ct;have hql:=q.len;have hq40:=q.le;rw[List.length_append,List.length_singleton] at ct;have p1:iM 3 4 (ρR (.dict (ao (dl h (ky h)))) D0 (.dict (ao (tr S))) (rest++[x]) o) T=some ((.nx,ρR (.dict (ao (dl h (ky h)))) D0 (.dict (ao (tr S))) rest (some (.d (.str x)))),T):=BL rfl
 by_cases hx:x∈S
 .refine⟨S,rest,?_,I.old hm hm2 (by simp) hx,by simp⟩
  obtain⟨v,kx⟩:=ku (s:=x) (l:=tr S) (by rw[lw];exact hx);rw[←cw] at kx;unfold h8;rw[aP p1];simp[ρR,oz,kx]
 .have nl:=nX q x
  have I2:=I.new q (List.mem_append_right _ (List.mem_singleton.mpr rfl)) hm hm2 (by simp) hx
  have z:(ao (tr S)).length<=1000:=by rw[eg];unfold tr;rw[List.length_map];omega
  have tp:=C1 hx
  have kx:aO (ao (tr S)) x=none:=by
   rw[cw]
   cases e:(tr S).lookup x with
   |none=>rfl
   |some v=>exact absurd (by have:=kR e;rw[lw] at this;exact this) hx
  by_cases hk:x∈ky h
  .obtain⟨t,rs,a,b,e,fk,e2,e3,_⟩:=q.at hk
   have ni:=zX (n:=x) (a:=a) (b:=b) fk T;have nl1:=nl.1;have u:=vj hk hx
   have z2:rest.length+(rn rs++wt a b).length<=sizeLine:=by rw[←e3,sz];omega
   refine⟨S++[x],rest++nx h x,?_,I2,by simp;omega⟩;unfold h8;rw[aP p1]
   have z3:(nm rest).length+(nm (rn rs++wt a b)).length<=sizeLine:=by rw[cL,cL];exact z2
   have na:nm rest++nm (rn rs++wt a b)=nm (rest++(rn rs++wt a b)):=by simp[nm]
   simp only[ρR]
   have kd:aO (ao (dl h (ky h))) x=some (lnD x rs a b):=by rw[cw,iy,if_pos hk,e2]
   simp only[List.length_append] at z2;simp[oz,kx,z,cK,tp,jx,g9,hk,kd,ni,cL,z2,na,e3]
  .have nx0:=nl.2 hk
   have u:=vm h S x;rw[nx0,List.append_nil] at I2;refine⟨S++[x],rest,?_,I2,by simp;omega⟩
   have z2:rest.length<=sizeLine:=by rw[sz];omega
   unfold h8;rw[aP p1];simp only[ρR];simp[oz,kx,z,cK,tp,jx,g9,hk,cL,z2]
end
theorem ur{A:Dl}(h:A.length<64):eh (.dict (ao A))=some (.list (nm (ck (ky A)))):=by
 show lz (de (iJ (ao A)))=_;have k:iJ (ao A)=nm (ky A):=mH A
 have s:de (nm (ky A))=some (ky A):=by have:=l6 (fun x:Str=>x) (ky A);simpa[nm] using this
 rw[k,s];show (if (ky A).length<64 then some (PyData.list ((ck (ky A)).map .str)) else none)=_;rw[if_pos (by simpa[ky] using h)];rfl
theorem sort_mem{A:List Str}{x:Str}:x∈ck A↔x∈A:=(ic A).mem_iff
theorem mV{A:List Str}(h:A.Nodup):(ck A).Nodup:=(ic A).nodup_iff.mpr h
section
variable {l:List Str}{h:Dl}(q:Hq l h){roots:List Str}(hr:∀r∈roots,r∈l)(hr2:roots.length<=40)
include q hr2 in
theorem sX{D0:PyData}{T:Tp}:∀(m:Nat) (S left:List Str) (o:Option W),Inv h roots S left->left.length+14*uc h S<m->∃S' o',bv rcC h8 m (ρR (.dict (ao (dl h (ky h)))) D0 (.dict (ao (tr S))) left o) T=some ((.nx,ρR (.dict (ao (dl h (ky h)))) D0 (.dict (ao (tr S'))) [] o'),T)/\Inv h roots S' []
 |0,_,_,_,_,z=>by omega
 |m+1,S,left,o,I,z=>by
  rcases List.eq_nil_or_concat left with rfl|⟨rest,x,rfl⟩
  .exact⟨S,o,du (by rw[wm];rfl),I⟩
  .rw[List.concat_eq_append] at I z ⊢
   obtain⟨S',left',e,I',lt⟩:=Bs q hr2 I (D0:=D0) (o:=o) (T:=T);rw[gT (by rw[wm];simp) e];exact sX m S' left' _ I' (by omega)
include q hr in
theorem Bu{x:Str}(r:Reach h roots x):x∈l:=by
 induction r with
 |root h=>exact hr _ h
 |@step n m _ hm _=>
  by_cases hn:n∈ky h
  .obtain⟨t,rs,a,b,e,fk,e2,e3,e4⟩:=q.at hn
   have c:=q.cl _ (jc e) t rs a b rfl;rw[e3] at hm
   rcases List.mem_append.mp hm with z|z
   .obtain⟨p,hp,rfl⟩:=List.mem_map.mp z
    exact c.1 p hp
   .unfold wt at z
    split at z
    .rename_i w
     rw[List.mem_singleton.mp z];exact c.2 w
    .cases z
  .rw[(nX q n).2 hn] at hm
   cases hm
include q hr hr2 in
theorem yX(T:Tp):∃S,iY [.d (.dict (ao (dl h (ky h)))),.d (.list (nm roots))] T=some (.list (nm (ck S)),T)/\Inv h roots S []:=by
 have hq:=q.len;have hq40:=q.le
 have u0:uc h []<=h.length:=by
  unfold uc;refine Nat.le_trans (List.length_filter_le _ _) ?_;simp[ky]
 obtain⟨S,o,e,I⟩:=sX q hr2 (D0:=.list (nm roots)) (T:=T) 100000 [] roots none (Inv.start h roots) (by omega);refine⟨S,?_,I⟩;have ct:=I.ct
 have s64:(tr S).length<64:=by
  unfold tr;rw[List.length_map];have:=cY I.nd (N:=l) fun x hx=>Bu q hr (I.rS x hx);omega
 have so:=ur s64;rw[lw] at so;rw[wZ];unfold rcC ρR at e;have t0:ao (tr [])=[]:=rfl;rw[t0] at e;have sl:∀(o3 o4:Option W),lg 3 (aa 1) [some (.d (.dict (ao (dl h (ky h))))),some (.d (.list (nm roots))),some (.loc (.dict [])),o3,o4] T=some ((.nx,[some (.d (.dict (ao (dl h (ky h))))),some (.d (.list (nm roots))),some (.loc (.dict [])),some (.loc (.list (nm roots))),o4]),T):=fun _ _=>rfl;rw[dX];simp only[dj,dq,if_true];show bP (aj _ _ [some (.d (.dict (ao (dl h (ky h))))),some (.d (.list (nm roots))),none,none,none] T)=_;rw[aP (ρ1:=[some (.d (.dict (ao (dl h (ky h))))),some (.d (.list (nm roots))),some (.loc (.dict [])),none,none]) (T1:=T) (by simp),aP (sl none none),aP e];simp[fu,so]
theorem m9{T:Tp}{x1:PyData}:∀(r A:List Str) (o3:Option W),(A++r).Nodup->A.length+r.length<=900->∃p3,forL 3 fR (nm r) [some (.d (.dict (ao (dl h (ky h))))),some (.d x1),some (.loc (.dict (ao (dl h A)))),o3] T=some ((.nx,[some (.d (.dict (ao (dl h (ky h))))),some (.d x1),some (.loc (.dict (ao (dl h (A++r.filter fun n=>decide (n∈ky h)))))),p3]),T)
 |[],A,o3,_,_=>⟨o3,by simp[nm];rfl⟩
 |n::r,A,o3,nd,hl=>by
  have hn:n∉A:=fun z=>by
   rw[List.nodup_append] at nd;exact nd.2.2 n z n List.mem_cons_self rfl
  rw[List.length_cons] at hl
  have z:(ao (dl h A)).length<=1000:=by rw[eg];unfold dl;rw[List.length_map];omega
  by_cases hk:n∈ky h
  .obtain⟨p3,ih⟩:=m9 (T:=T) (x1:=x1) r (A++[n]) (some (.d (.str n))) (by rw[List.append_assoc];exact nd) (by simp;omega)
   refine⟨p3,?_⟩
   have kd:aO (ao (dl h (ky h))) n=some (ln h n):=by rw[cw,iy,if_pos hk]
   have bd:fR [some (.d (.dict (ao (dl h (ky h))))),some (.d x1),some (.loc (.dict (ao (dl h A)))),some (.d (.str n))] T=some ((.nx,[some (.d (.dict (ao (dl h (ky h))))),some (.d x1),some (.loc (.dict (ao (dl h (A++[n]))))),some (.d (.str n))]),T):=by
    simp[fR,jx,g9,hk,kd,z,cK,Eu hn]
   show forL 3 fR (.str n::nm r) _ T=_;unfold forL;simp only[List.set_cons_succ,List.set_cons_zero];rw[bd];refine Eq.trans ih ?_;simp[hk]
  .obtain⟨p3,ih⟩:=m9 (T:=T) (x1:=x1) r A (some (.d (.str n))) (by
    rw[List.nodup_append] at nd ⊢
    exact⟨nd.1,(List.nodup_cons.mp nd.2.1).2,fun a ha b hb=>nd.2.2 a ha b (List.mem_cons_of_mem _ hb)⟩) (by omega)
   refine⟨p3,?_⟩
   have bd:fR [some (.d (.dict (ao (dl h (ky h))))),some (.d x1),some (.loc (.dict (ao (dl h A)))),some (.d (.str n))] T=some ((.nx,[some (.d (.dict (ao (dl h (ky h))))),some (.d x1),some (.loc (.dict (ao (dl h A)))),some (.d (.str n))]),T):=by
    simp[fR,jx,g9,hk]
   show forL 3 fR (.str n::nm r) _ T=_;unfold forL;simp only[List.set_cons_succ,List.set_cons_zero];rw[bd];refine Eq.trans ih ?_;simp[hk]
include q hr hr2 in
theorem yY(T:Tp):∃K,j4 [.d (.dict (ao (dl h (ky h)))),.d (.list (nm roots))] T=some (.dict (ao (dl h K)),T)/\K.Nodup/\∀x,x∈K↔(Reach h roots x/\x∈ky h):=by
 obtain⟨S,e,I⟩:=yX q hr hr2 T;have ct:=I.ct;have hq:=q.len;have hq40:=q.le
 have sl:(ck S).length<=900:=by rw[(ic S).length_eq];simp at ct;omega
 obtain⟨p3,lp⟩:=m9 (h:=h) (T:=T) (x1:=.list (nm roots)) (ck S) [] none (by simpa using mV I.nd) (by simpa using sl);refine⟨(ck S).filter fun n=>decide (n∈ky h),?_,List.Nodup.sublist List.filter_sublist (mV I.nd),fun x=>?_⟩
 .rw[w8]
  have t0:ao (dl h [])=[]:=rfl;rw[t0,List.nil_append] at lp;simp[e];rw[lp];simp[fu]
 .rw[List.mem_filter,sort_mem,I.done]
  simp
end
theorem El{α:Type}(p:α->Bool)(l:List α):lS [.list (l.map fun d=>.bool (p d))]=some (.bool (l.any p)):=by
 show (fw _).map (fun bs=>PyData.bool (bs.any id))=_;rw[l5,Option.map_some,List.any_map];rfl
def bz(h:Dl)(A:List Str)(n:Str):Bool:=(rnH h n).any fun m=>decide (m∈A)
def iQ(h:Dl)(A:List Str):List Str:=A.filter (bz h A)
section
variable {l:List Str}{h:Dl}(q:Hq l h)
theorem ER{A:List Str}{rs:List SS}(ρ:Rho)(T:Tp):cH bq (af inA (af ixD (aa 0) (fC (.int 0))) (aa 1)) (some (.d (.dict (ao (dl h A))))::ρ) (Rd rs) T=some ((Rd rs).map fun d=>.bool (decide ((unP d).1∈A)),T):=c9 (g:=fun d=>.bool (decide ((unP d).1∈A))) fun d hd=>by
 obtain⟨p,_,rfl⟩:=List.mem_map.mp hd;simp[bg,jx,g9,unP,unS];exact decide_eq_decide.mpr Iff.rfl
theorem Di(rs:List SS)(A:List Str):((Rd rs).any fun d=>decide ((unP d).1∈A))=(rn rs).any fun m=>decide (m∈A):=by
 unfold Rd rn;rw[List.any_map,List.any_map];rfl
include q in
theorem CO{A:List Str}{n:Str}(hn:n∈ky h)(T:Tp):gr [.d (.dict (ao (dl h A))),.d (ln h n)] T=some (.bool (!bz h A n),T):=by
 obtain⟨t,rs,a,b,e,fk,e2,e3,e4⟩:=q.at hn;have an:=El (fun d=>decide ((unP d).1∈A)) (Rd rs);rw[Di] at an;unfold bz;rw[e2,e4];unfold lnD;simp[gr,at3,ER,an]
theorem Cy{A:List Str}{s:Str}:cZ (ao (dl h A)) s=ao (dl h (A.filter fun n=>!decide (n=s))):=by
 induction A with
 |nil=>rfl
 |cons a r ih=>
  show List.filter _ ((PyData.str a,ln h a)::ao (dl h r))=_;unfold cZ at ih;rw[List.filter_cons,ih]
  by_cases e:a=s
  .simp[e]
  .simp[e,dl,ao]
def ρO(D:PyData)(Q A:List Str)(o3 o4:Option W):Rho:=[some (.d D),some (.loc (.list (Q.map (ln h)))),some (.loc (.dict (ao (dl h A)))),o3,o4]
theorem ul{D:PyData}{T:Tp}{o3:Option W}:∀(F Q A:List Str) (o4:Option W),F.Nodup->(∀x∈F,x∈A)->Q.length+F.length<=900->∃p4,forL 4 i4 (nm F) (ρO (h:=h) D Q A o3 o4) T=some ((.nx,ρO (h:=h) D (Q++F) (A.filter fun n=>!decide (n∈F)) o3 p4),T)
 |[],Q,A,o4,_,_,_=>⟨o4,by
  have:A.filter (fun n=>!decide (n∈([]:List Str)))=A:=by simp
  rw[this,List.append_nil];rfl⟩
 |x::F,Q,A,o4,nd,hs,hl=>by
  rw[List.nodup_cons] at nd;rw[List.length_cons] at hl;have hx:=hs x List.mem_cons_self
  have hf:∀y∈F,y∈A.filter fun n=>!decide (n=x):=fun y hy=>List.mem_filter.mpr ⟨hs y (List.mem_cons_of_mem _ hy),by
   have:y≠x:=fun z=>nd.1 (z ▸ hy)
   simp[this]⟩
  obtain⟨p4,ih⟩:=ul (D:=D) (T:=T) (o3:=o3) F (Q++[x]) (A.filter fun n=>!decide (n=x)) (some (.d (.str x))) nd.2 hf (by simp;omega);refine⟨p4,?_⟩
  have kd:aO (ao (dl h A)) x=some (ln h x):=by rw[cw,iy,if_pos hx]
  have z:(Q.map (ln h)).length<1000:=by rw[List.length_map];omega
  have bd:i4 ((ρO (h:=h) D Q A o3 o4).set 4 (some (.d (.str x)))) T=some ((.nx,ρO (h:=h) D (Q++[x]) (A.filter fun n=>!decide (n=x)) o3 (some (.d (.str x)))),T):=by
   have e0:aa 4 ((ρO (h:=h) D Q A o3 o4).set 4 (some (.d (.str x)))) T=some (.d (.str x),T):=rfl;unfold i4 lR;rw[e0,cD];show jX 1 2 _ (.d (.str x)) T (some (some (.loc (.list (Q.map (ln h)))))) (some (some (.loc (.dict (ao (dl h A))))))=_;unfold jX;dsimp only;rw[kd];dsimp only;rw[if_pos z,Cy];simp[ρO]
  show forL 4 i4 (.str x::nm F) _ T=_;unfold forL;rw[bd];refine Eq.trans ih ?_
  have fe:(A.filter fun n=>!decide (n=x)).filter (fun n=>!decide (n∈F))=A.filter fun n=>!decide (n∈x::F):=by
   rw[List.filter_filter]
   congr 1
   funext n
   by_cases e1:n=x <;> by_cases e2:n∈F <;> simp[e1,e2]
  rw[List.append_assoc,fe];rfl
end
def frB(h:Dl)(A:List Str)(d:PyData):Bool:=match d with
 |.str n=>!bz h A n
 |_=>false
theorem zm(h:Dl)(A L:List Str):(nm L).filter (frB h A)=nm (L.filter fun n=>!bz h A n):=by
 unfold nm;rw[List.filter_map];rfl
def fQ(h:Dl):List Str->List Str->Prop
 |_,[]=>True
 |laid,n::r=>(∀m∈rnH h n,m∈ky h->m∈laid)/\fQ h (laid++[n]) r
theorem tH{h:Dl}:∀{Q laid F:List Str},fQ h laid Q->fQ h (laid++Q) F->fQ h laid (Q++F)
 |[],laid,F,_,g=>by rw[List.append_nil] at g;exact g
 |n::r,laid,F,q,g=>⟨q.1,tH q.2 (by rw[List.append_assoc];exact g)⟩
theorem tI{h:Dl}:∀{F laid laid':List Str},(∀x∈laid,x∈laid')->(∀n∈F,∀m∈rnH h n,m∈ky h->m∈laid)->fQ h laid' F
 |[],_,_,_,_=>trivial
 |n::r,laid,laid',hs,g=>⟨fun m hm hk=>hs m (g n List.mem_cons_self m hm hk),tI (laid:=laid) (fun x hx=>List.mem_append_left _ (hs x hx)) fun x hx=>g x (List.mem_cons_of_mem _ hx)⟩
structure KI(h:Dl)(K Q A:List Str):Prop where
 nd:(Q++A).Nodup
 mem:∀x,x∈Q++A↔x∈K
 od:fQ h [] Q
def ioC:FT:=(aD (af gtD (fCB aT (ae (aa 2) ai)) (fC (.int 0))))
section
variable {l:List Str}{h:Dl}(q:Hq l h){K:List Str}(hK:∀x∈K,x∈ky h)(hc:∀n∈K,∀m∈rnH h n,m∈ky h->m∈K)(pr:∀A:List Str,A≠[]->(∀x∈A,x∈K)->∃x∈A,bz h A x=false)
theorem pd{D:PyData}{Q A:List Str}{o3 o4:Option W}{T:Tp}:ioC (ρO (h:=h) D Q A o3 o4) T=some (decide (0<A.length),T):=by
 have:aT [.dict (ao (dl h A))]=some (.int A.length):=by
  show some (PyData.int (ao (dl h A)).length)=_;rw[eg];unfold dl;rw[List.length_map]
 simp[ioC,ρO,this]
include q in
theorem B8{D:PyData}{Q A:List Str}(hA:∀x∈A,x∈ky h)(hl:A.length<64){o3 o4:Option W}{T:Tp}:aG 3 (bo (aZ (fUn eh (aa 2))) (aX (eA (aB gr (ae (aa 3) (ae (af ixA (aa 3) (aa 0)) ai))))) (aa 0)) (ρO (h:=h) D Q A o3 o4) T=some ((.nx,ρO (h:=h) D Q A (some (.d (.list (nm ((ck A).filter fun n=>!bz h A n))))) o4),T):=by
 have so:=ur (A:=dl h A) (by unfold dl;rw[List.length_map];exact hl);rw[g9] at so
 have c:=j6 (c:=aX (eA (aB gr (ae (aa 3) (ae (af ixA (aa 3) (aa 0)) ai))))) (ρ:=ρO (h:=h) D Q A o3 o4) (T:=T) (p:=frB h A) (ds:=nm (ck A)) fun d hd=>by
  obtain⟨n,hn,rfl⟩:=List.mem_map.mp hd;have hn':=sort_mem.mp hn
  have kd:aO (ao (dl h A)) n=some (ln h n):=by rw[cw,iy,if_pos hn']
  have rn:=CO q (A:=A) (hA n hn') [];have lk:f7 T (some (.d (.bool (!bz h A n)),[]))=some (.d (.bool (!bz h A n)),T):=mG rfl;simp[ρO,kd,rn,lk,frB]
 rw[zm] at c
 have un:fUn eh (aa 2) (ρO (h:=h) D Q A o3 o4) T=some (.d (.list (nm (ck A))),T):=by
  show op1 eh T (.loc (.dict (ao (dl h A))))=_;show mkD T (eh (.dict (ao (dl h A))))=_;rw[so];rfl
 rw[lj,kS,Cs,un];simp only[cD,Ej,zL,Ek,c,Cq];rfl
include q hK hc pr in
theorem B7{D:PyData}{T:Tp}(hk7:K.length<=40):∀(N m:Nat) (Q A:List Str) (o3 o4:Option W),KI h K Q A->A.length<=N->N<m ->
  ∃Q' p3 p4,bv ioC j5 m (ρO (h:=h) D Q A o3 o4) T=some ((.nx,ρO (h:=h) D Q' [] p3 p4),T)/\KI h K Q' []:=by
 intro N
 induction N with
 |zero=>
  intro m Q A o3 o4 I hA hm;have:A=[]:=List.eq_nil_of_length_eq_zero (by omega);subst this;obtain⟨j,rfl⟩:∃j,m=j+1:=⟨m-1,by omega⟩;exact⟨Q,o3,o4,du (by rw[pd];rfl),I⟩
 |succ N ih=>
  intro m Q A o3 o4 I hA hm;obtain⟨j,rfl⟩:∃j,m=j+1:=⟨m-1,by omega⟩
  by_cases h0:A=[]
  .subst h0
   exact⟨Q,o3,o4,du (by rw[pd];rfl),I⟩
  .have hp:0<A.length:=List.length_pos_iff.mpr h0
   have cT:ioC (ρO (h:=h) D Q A o3 o4) T=some (true,T):=by rw[pd,decide_eq_true hp]
   have sub:∀x∈A,x∈ky h:=fun x hx=>hK x ((I.mem x).mp (List.mem_append_right _ hx));have kl:=cY I.nd (N:=K) fun x hx=>(I.mem x).mp hx;rw[List.length_append] at kl;have s1:=B8 q (D:=D) (Q:=Q) sub (by omega) (o3:=o3) (o4:=o4) (T:=T);obtain⟨F,hF⟩:∃F,F=(ck A).filter fun n=>!bz h A n:=⟨_,rfl⟩;rw[←hF] at s1
   have Fm:∀x,x∈F↔x∈A/\bz h A x=false:=fun x=>by
    rw[hF,List.mem_filter,sort_mem];simp
   have nda:A.Nodup:=(List.nodup_append.mp I.nd).2.1
   have Fnd:F.Nodup:=by rw[hF];exact List.Nodup.sublist List.filter_sublist (mV nda)
   have hf:F≠[]:=by
    obtain⟨y,hy,by_⟩:=pr A h0 fun z hz=>(I.mem z).mp (List.mem_append_right _ hz);intro w;have:=(Fm y).mpr ⟨hy,by_⟩;rw[w] at this;cases this
   .have fl:0<F.length:=List.length_pos_iff.mpr hf
    have Fl2:=cY Fnd (N:=A) fun x hx=>((Fm x).mp hx).1;obtain⟨p4,lp⟩:=ul (h:=h) (D:=D) (T:=T) (o3:=some (.d (.list (nm F)))) F Q A o4 Fnd (fun x hx=>((Fm x).mp hx).1) (by omega)
    have pe:(A.filter fun n=>!decide (n∈F))=iQ h A:=by
     unfold iQ;refine List.filter_congr fun a ha=>?_
     cases hb:bz h A a with
     |true=>
      have:a∉F:=fun z=>by
       have:=((Fm a).mp z).2;rw[hb] at this;cases this
      simp[this]
     |false=>simp[(Fm a).mpr ⟨ha,hb⟩]
    rw[pe] at lp
    have b2:j5 (ρO (h:=h) D Q A o3 o4) T=some ((.nx,ρO (h:=h) D (Q++F) (iQ h A) (some (.d (.list (nm F)))) p4),T):=by
     unfold j5;rw[aP s1]
     have fl':¬F.length=0:=by omega
     have i1:fIf (aD (af eqD (fCB aT (ae (aa 3) ai)) (fC (.int 0)))) lh aH (ρO (h:=h) D Q A (some (.d (.list (nm F)))) o4) T=some ((.nx,ρO (h:=h) D Q A (some (.d (.list (nm F)))) o4),T):=by
      unfold ρO;simp[cL,fl',hf]
     rw[aP i1,jB];have it:aZ (aa 3) (ρO (h:=h) D Q A (some (.d (.list (nm F)))) o4) T=some (nm F,T):=rfl;rw[it];exact lp
    rw[gT cT b2]
    have lt:(iQ h A).length<A.length:=by
     obtain⟨x,hx⟩:∃x,x∈F:=List.exists_mem_of_length_pos fl;have hx':=(Fm x).mp hx;have:(A.filter (bz h A)).length<(A.filter fun _=>true).length:=nq (x:=x) (fun _ _ _=>rfl) hx'.1 rfl hx'.2;rw[show (A.filter fun _=>true)=A from List.filter_eq_self.mpr fun _ _=>rfl] at this;exact this
    refine ih j (Q++F) (iQ h A) _ _ ⟨?_,fun x=>?_,?_⟩ (by omega) (by omega)
    .have n1:=List.nodup_append.mp I.nd
     rw[List.append_assoc,List.nodup_append];refine⟨n1.1,?_,fun a ha b hb=>?_⟩
     .rw[List.nodup_append]
      refine⟨Fnd,List.Nodup.sublist List.filter_sublist nda,fun a ha b hb=>?_⟩;rintro rfl;have h1:=((Fm a).mp ha).2;have h2:=(List.mem_filter.mp hb).2;rw[h1] at h2;cases h2
     .refine n1.2.2 a ha b ?_
      rcases List.mem_append.mp hb with z|z
      .exact((Fm b).mp z).1
      .exact(List.mem_filter.mp z).1
    .rw[←I.mem x,List.append_assoc,List.mem_append,List.mem_append,List.mem_append,Fm]
     unfold iQ;rw[List.mem_filter];constructor
     .rintro(z|z|z)
      .exact .inl z
      .exact .inr z.1
      .exact .inr z.1
     .rintro(z|z)
      .exact .inl z
      .cases hb:bz h A x with
       |true=>exact .inr (.inr ⟨z,rfl⟩)
       |false=>exact .inr (.inl ⟨z,rfl⟩)
    .refine tH I.od (tI (laid:=Q) (fun x hx=>by rw[List.nil_append];exact hx) fun n hn m hm hk=>?_)
     have hn':=(Fm n).mp hn;have nK:n∈K:=(I.mem n).mp (List.mem_append_right _ hn'.1);have mK:=hc n nK m hm hk
     rcases List.mem_append.mp ((I.mem m).mpr mK) with z|z
     .exact z
     .exfalso
      have hb:=hn'.2;unfold bz at hb;rw[List.any_eq_false] at hb;exact hb m hm (decide_eq_true z)
end
section
variable {l:List Str}{h:Dl}(q:Hq l h)
include q in
theorem CP{K:List Str}(hK:∀x∈K,x∈ky h)(nd:K.Nodup)(hc:∀n∈K,∀m∈rnH h n,m∈ky h->m∈K)(pr:∀A:List Str,A≠[]->(∀x∈A,x∈K)->∃x∈A,bz h A x=false)(T:Tp):∃Q,kf [.d (.dict (ao (dl h K)))] T=some (.list (Q.map (ln h)),T)/\KI h K Q []:=by
 have kl:K.length<=40:=by
  have h1:=cY nd (N:=ky h) hK;have h2:=q.len;have h3:=q.le
  have:(ky h).length=h.length:=by simp[ky]
  omega
 obtain⟨Q,p3,p4,e,I⟩:=B7 q hK hc pr (D:=.dict (ao (dl h K))) (T:=T) kl 40 100000 [] K none none ⟨by simpa using nd,fun x=>by simp,trivial⟩ kl (by omega);refine⟨Q,?_,I⟩;rw[xH,Ei];simp only[dj,dq,if_true];show k9 (aj _ _ [some (.d (.dict (ao (dl h K)))),none,none,none,none] T)=_;have e':=e;unfold ioC ρO at e';rw[List.map_nil] at e';rw[aP (ρ1:=[some (.d (.dict (ao (dl h K)))),some (.loc (.list [])),none,none,none]) (T1:=T) (by simp),aP (ρ1:=[some (.d (.dict (ao (dl h K)))),some (.loc (.list [])),some (.loc (.dict (ao (dl h K)))),none,none]) (T1:=T) (by rfl),aP e'];rfl
end
def LET:Str:=Str.ofString "abcdefghijklmnopqrstuvwxyz"
def N(k:Nat):Str:=Txt.mul ⟨#[LET.cps.toList.getD (k % 26) 0]⟩ ((1:Int)+(k:Int) / 26)
theorem eS:∀i<40,∀j<40,N i=N j->i=j:=by decide +kernel
def okR(r:Option (PyData×Tp)):Bool:=match r with
 |some (.bool true,[])=>true
 |_=>false
theorem nV{r:Option (PyData×Tp)}(h:okR r=true):r=some (.bool true,[]):=by
 unfold okR at h;split at h
 .rfl
 .cases h
theorem CN:∀k<40,okR (ff [.d (.str (N k))] [])=true:=by decide +kernel
theorem lu{k:Nat}(h:k<40):ff [.d (.str (N k))] []=some (.bool true,[]):=nV (CN k h)
def V:PyData:=.tuple [.str "a",.int 7]
def ST:Str:=Str.ofString "('a,7)"
def SAY:PyData:=.tuple [.str "say",.tuple [.str "got",.int 0]]
def dZ:PyData:=.tuple [.str "fail",.str "part"]
def wn(k:Nat)(r:PyData):PyData:=.tuple [.str "want",.tuple [.str "put",.str (N k)],r]
def rcp:List Nat->PyData
 |[]=>SAY
 |k::r=>wn k (rcp r)
theorem kW:eZ 25 [.d V] []=some (.str ST,[]):=by rfl
def okV(r:Option (PyData×Tp)):Bool:=match r with
 |some (.tuple [.str a,.int i],[])=>a == Str.ofString "a"&&i == 7
 |_=>false
theorem DN{r:Option (PyData×Tp)}(h:okV r=true):r=some (V,[]):=by
 unfold okV at h;split at h
 .rw[Bool.and_eq_true,beq_iff_eq,beq_iff_eq] at h
  rw[h.1,h.2];rfl
 .cases h
theorem sO:gw [.d (.str ST)] []=some (V,[]):=DN (by decide +kernel)
theorem v7:kb [.d (.str ST)] []=some (.bool true,[]):=nV (by decide +kernel)
theorem z6{k:Nat}{g:PyData}:e9 25 [.d (.tuple [.str "put",.str (N k)]),.d g] []=some (.tuple [.str "value",.str (N k)],[]):=by simp[e9,gE,bg]
theorem z7{r:List PyData}:e9 25 [.d (.tuple [.str "got",.int 0]),.d (.tuple (V::r))] []=some (.tuple [.str "value",V],[]):=by
 have:atI (V::r) 0=some V:=by unfold atI ixN;simp
 simp[e9,gE,bg,this]
theorem y6{r:List PyData}:e9 25 [.d (.tuple [.str "got",.int 0]),.d (.list (V::r))] []=some (.tuple [.str "value",V],[]):=by
 have:atI (V::r) 0=some V:=by unfold atI ixN;simp
 simp[e9,gE,bg,this]
def WS(k:Nat)(r:PyData):PyData:=.tuple [.str "want",.str (N k),r]
def MV:PyData:=.tuple [.str "made",V]
def FP:PyData:=.tuple [.str "fails",.str "part"]
theorem jf{k:Nat}(hk:k<40)(r:PyData)(g:PyData):bT 25 [.d (wn k r),.d g] []=some (WS k r,[]):=by
 have h:=lu hk;unfold wn WS;simp[bT,gE,bg,at3,z6,h]
theorem C6{r:List PyData}:bT 25 [.d SAY,.d (.tuple (V::r))] []=some (MV,[]):=by
 unfold SAY MV;simp[bT,gE,bg,z7]
theorem Bq{r:List PyData}:bT 25 [.d SAY,.d (.list (V::r))] []=some (MV,[]):=by
 unfold SAY MV;simp[bT,gE,bg,y6]
theorem sQ{g:PyData}:bT 25 [.d dZ,.d g] []=some (FP,[]):=by
 unfold dZ FP;simp[bT,gE,bg]
def rdV(t:Nat):PyData:=.tuple [.str (N t),V]
def stp:List Nat->PyData
 |[]=>MV
 |t::r=>WS t (rcp r)
def ce(g rs:List PyData)(s:PyData):PyData:=.tuple [.tuple g,.tuple rs,s]
def cst(pre r:List Nat):PyData:=ce (List.replicate pre.length V) (pre.map rdV) (stp r)
def FC:PyData:=ce [] [] FP
def gD(A:List Nat):Dl:=A.map fun k=>(N k,V)
theorem tb2{a b:PyData}(h1:bD a=true)(h2:bD b=true):bD (.tuple [a,b])=true:=je fun d hd=>by
 rcases List.mem_cons.mp hd with rfl|hd
 .exact h1
 .rw[List.mem_singleton.mp hd];exact h2
theorem tb3{a b c:PyData}(h1:bD a=true)(h2:bD b=true)(h3:bD c=true):bD (.tuple [a,b,c])=true:=je fun d hd=>by
 rcases List.mem_cons.mp hd with rfl|hd
 .exact h1
 .rcases List.mem_cons.mp hd with rfl|hd
  .exact h2
  .rw[List.mem_singleton.mp hd];exact h3
theorem F5:bD V=true:=rfl
theorem mX:∀r,bD (rcp r)=true
 |[]=>rfl
 |_::r=>tb3 rfl rfl (mX r)
theorem mT:∀r,bD (stp r)=true
 |[]=>rfl
 |_::r=>tb3 rfl rfl (mX r)
theorem CG(pre r:List Nat):bD (cst pre r)=true:=tb3 (je fun d hd=>by rw[(List.mem_replicate.mp hd).2];rfl) (je fun d hd=>by
 obtain⟨t,_,rfl⟩:=List.mem_map.mp hd
 exact tb2 rfl F5) (mT r)
theorem oN(A:List Nat)(hA:∀x∈A,x<40){t:Nat}(ht:t<40):aO (ao (gD A)) (N t)=if t∈A then some V else none:=by
 rw[cw]
 induction A with
 |nil=>rfl
 |cons a r ih=>
  have ih:=ih fun x hx=>hA x (List.mem_cons_of_mem _ hx);show List.lookup (N t) ((N a,V)::gD r)=_;rw[List.lookup_cons,ih]
  by_cases h:t=a
  .subst h;simp
  .have:(N t == N a)=false:=beq_eq_false_iff_ne.mpr fun z=>h (eS t ht a (hA a List.mem_cons_self) z)
   simp[this,h]
theorem inW:inD (.str "want") (.tuple [.str "want",.str "peek"])=some (.bool true):=rfl
theorem inM:inD (.str "made") (.tuple [.str "want",.str "peek"])=some (.bool false):=rfl
theorem inF:inD (.str "fails") (.tuple [.str "want",.str "peek"])=some (.bool false):=rfl
theorem mQ{g rs:List PyData}{t:Nat}{r:PyData}:dh [.d (ce g rs (WS t r))] []=some (.str (N t),[]):=by
 unfold ce WS;simp[dh,at3,inW]
theorem Bg{g rs:List PyData}:dh [.d (ce g rs MV)] []=some (.none,[]):=by
 unfold ce MV;simp[dh,at3,bg,inM,inF]
theorem Bh{g rs:List PyData}:dh [.d (ce g rs FP)] []=some (.none,[]):=by
 unfold ce FP;simp[dh,at3,bg,inM,inF]
theorem tT{l:Dl}:inA .none (.dict (ao l))=some (.bool false):=by
 induction l with
 |nil=>rfl
 |cons a r ih=>exact ih
theorem z8{pre r:List Nat}{t:Nat}(hr:∀x∈r,x<40):bT 25 [.d (rcp r),.d (.tuple (List.replicate pre.length V++[V]))] []=some (stp r,[]):=by
 cases r with
 |nil=>
  have:List.replicate pre.length V++[V]=V::List.replicate pre.length V:=by rw[←List.replicate_succ',List.replicate_succ]
  rw[this];exact C6
 |cons x r=>exact jf (hr x List.mem_cons_self) _ _
theorem CT{pre r:List Nat}{t:Nat}(hp:pre.length<=100)(hr:∀x∈r,x<40):jl [.d (cst pre (t::r)),.d V] []=some (cst (pre++[t]) r,[]):=by
 have s:=z8 (pre:=pre) (r:=r) (t:=t) hr
 have z1:pre.length+1<=sizeLine:=by rw[sz];omega
 have z2:pre.length<sizeLine:=by rw[sz];omega
 unfold cst ce stp WS;simp[jl,at3,bg,s,z1,z2,List.replicate_succ',rdV]
 cases r <;> rfl
theorem cy{s:Str}{ds:Dc}:inA (.str s) (.dict ds)=some (.bool (aO ds s).isSome):=rfl
def goC:FT:=aD (af inA (aB dh (ae (aa 0) ai)) (aa 1))
section
variable {A:List Nat}(hA:∀x∈A,x<40)
include hA
theorem tU:∀(r pre:List Nat) (fuel:Nat),pre.length+r.length<=100->(∀x∈r,x<40)->r.length<fuel ->
  bv goC i5 fuel [some (.d (cst pre r)),some (.d (.dict (ao (gD A))))] []=some ((.nx,[some (.d (cst (pre++r.takeWhile fun t=>decide (t∈A)) (r.dropWhile fun t=>decide (t∈A)))),some (.d (.dict (ao (gD A))))]),[])
 |_,_,0,_,_,h=>by omega
 |[],pre,f+1,_,_,_=>by
  have c:goC [some (.d (cst pre [])),some (.d (.dict (ao (gD A))))] []=some (false,[]):=by
   unfold goC cst stp;simp[Bg,tT]
  rw[du c,List.takeWhile_nil,List.dropWhile_nil,List.append_nil]
 |t::r,pre,f+1,hp,hr,hf=>by
  have ht:=hr t List.mem_cons_self;have kt:=oN A hA ht;rw[List.length_cons] at hp hf
  by_cases h:t∈A
  .rw[if_pos h] at kt
   have c:goC [some (.d (cst pre (t::r))),some (.d (.dict (ao (gD A))))] []=some (true,[]):=by
    unfold goC cst stp;simp[mQ,cy,kt]
   have g:=CT (pre:=pre) (r:=r) (t:=t) (by omega) fun x hx=>hr x (List.mem_cons_of_mem _ hx)
   have b:i5 [some (.d (cst pre (t::r))),some (.d (.dict (ao (gD A))))] []=some ((.nx,[some (.d (cst (pre++[t]) r)),some (.d (.dict (ao (gD A))))]),[]):=by
    have aw:dh [.d (cst pre (t::r))] []=some (.str (N t),[]):=mQ;unfold i5;simp[aw,kt,g]
   rw[gT c b,tU r (pre++[t]) f (by simp;omega) (fun x hx=>hr x (List.mem_cons_of_mem _ hx)) (by omega)];simp[h,List.append_assoc]
  .rw[if_neg h] at kt
   have c:goC [some (.d (cst pre (t::r))),some (.d (.dict (ao (gD A))))] []=some (false,[]):=by
    unfold goC cst stp;simp[mQ,cy,kt]
   rw[du c];simp[h]
theorem EB{r pre:List Nat}(hp:pre.length+r.length<=100)(hr:∀x∈r,x<40):fg [.d (cst pre r),.d (.dict (ao (gD A)))] []=some (cst (pre++r.takeWhile fun t=>decide (t∈A)) (r.dropWhile fun t=>decide (t∈A)),[]):=by
 have e:=tU hA r pre 100000 hp hr (by omega);rw[pQ];unfold goC at e;simp[e]
end
theorem CQ{l:Dl}:fg [.d FC,.d (.dict (ao l))] []=some (FC,[]):=by
 have c:goC [some (.d FC),some (.d (.dict (ao l)))] []=some (false,[]):=by
  unfold goC FC;simp[Bh,tT]
 have e:=du (b:=i5) (m:=99999) c;rw[pQ];unfold goC at e;simp[e]
abbrev Cm:=Nat->List Nat×List Nat
def cmD(m:Nat)(f:Cm)(ex:Dl):Dl:=(List.range m).map (fun k=>(N k,cst (f k).1 (f k).2))++ex
def tk(A r:List Nat):List Nat:=r.takeWhile fun t=>decide (t∈A)
def dk(A r:List Nat):List Nat:=r.dropWhile fun t=>decide (t∈A)
def ins(A:List Nat)(k:Nat):List Nat:=if k∈A then A else A++[k]
def bL(s:Cm×List Nat)(k:Nat):Cm×List Nat:=(fun i=>if i=k then ((s.1 k).1++tk s.2 (s.1 k).2,dk s.2 (s.1 k).2) else s.1 i,if dk s.2 (s.1 k).2=[] then ins s.2 k else s.2)
def rnd(ks:List Nat)(s:Cm×List Nat):Cm×List Nat:=ks.foldl bL s
theorem EF(A r:List Nat):tk A r++dk A r=r:=List.takeWhile_append_dropWhile
structure WF(m:Nat)(W:Nat->List Nat)(s:Cm×List Nat):Prop where
 a40:∀x∈s.2,x<40
 al:s.2.length<=100
 nd:s.2.Nodup
 pr:∀k<m,(s.1 k).1++(s.1 k).2=W k
structure Ws(n m:Nat)(W:Nat->List Nat):Prop where
 n2:2<=n
 n40:n<=40
 mn:m<=n
 ne:∀k<m,W k≠[]
 le:∀k<m,(W k).length<=12
 lt:∀k<m,∀t∈W k,t<n
theorem gj{A:List Nat}(nd:A.Nodup)(h:∀x∈A,x<40):A.length<=40:=by
 have:=cY nd (N:=List.range 40) fun x hx=>List.mem_range.mpr (h x hx);simpa using this
theorem ins_mem{A:List Nat}{k x:Nat}:x∈ins A k↔x∈A\/x=k:=by
 unfold ins;split
 .rename_i h
  exact⟨.inl,fun z=>z.elim id fun e=>e ▸ h⟩
 .simp
theorem Ec{A:List Nat}{k:Nat}(h:A.Nodup):(ins A k).Nodup:=by
 unfold ins;split
 .exact h
 .rename_i z
  rw[List.nodup_append];exact⟨h,by simp,fun a ha b hb=>by simp at hb;subst hb;exact fun q=>z (q ▸ ha)⟩
theorem WF.step{m:Nat}{W:Nat->List Nat}{s:Cm×List Nat}(h:WF m W s){k:Nat}(hk:k<40):WF m W (bL s k):=by
 have a:∀x∈(bL s k).2,x<40:=fun x hx=>by
  unfold bL at hx;dsimp only at hx;split at hx
  .rcases ins_mem.mp hx with z|rfl
   .exact h.a40 x z
   .exact hk
  .exact h.a40 x hx
 have nd:(bL s k).2.Nodup:=by
  unfold bL;dsimp only;split
  .exact Ec h.nd
  .exact h.nd
 refine⟨a,Nat.le_trans (gj nd a) (by omega),nd,fun i hi=>?_⟩;unfold bL;dsimp only;split
 .rename_i z
  subst z;rw[List.append_assoc,EF,h.pr i hi]
 .exact h.pr i hi
theorem WF.rnd{m:Nat}{W:Nat->List Nat}:∀{ks:List Nat}{s:Cm×List Nat},(∀k∈ks,k<40)->WF m W s->WF m W (rnd ks s)
 |[],_,_,h=>h
 |k::r,s,hk,h=>WF.rnd (ks:=r) (fun x hx=>hk x (List.mem_cons_of_mem _ hx)) (h.step (hk k List.mem_cons_self))
theorem F6{m:Nat}(h:m<=40):((List.range m).map N).Nodup:=by
 rw[List.nodup_iff_pairwise_ne,List.pairwise_map];refine List.Pairwise.imp_of_mem (fun {a b} ha hb z e=>z (eS a ?_ b ?_ e)) List.nodup_range
 .have:=List.mem_range.mp ha;omega
 .have:=List.mem_range.mp hb;omega
section
variable {n m:Nat}{W:Nat->List Nat}(w:Ws n m W){ex:Dl}(hx:∀p∈ex,p=(N (n-1),FC))(xl:ex.length<=1)(xm:ex≠[]->m<n)
theorem jS(f:Cm):ky (cmD m f ex)=(List.range m).map N++ky ex:=by
 unfold ky cmD;rw[List.map_append,List.map_map];rfl
include w hx xl xm in
theorem gh(f:Cm):(ky (cmD m f ex)).Nodup:=by
 have h40:=w.n40;have hmn:=w.mn;rw[jS,List.nodup_append];refine⟨F6 (by omega),?_,fun a ha b hb e=>?_⟩
 .match ex,xl with
  |[],_=>simp[ky]
  |[_],_=>simp[ky]
 .obtain⟨p,hp,rfl⟩:=List.mem_map.mp hb
  obtain⟨i,hi,rfl⟩:=List.mem_map.mp ha;rw[hx p hp] at e;have h1:=List.mem_range.mp hi
  have h2:=xm fun z=>by rw[z] at hp;cases hp
  have:=eS i (by omega) (n-1) (by omega) e;omega
include w hx xl xm in
theorem ui(f:Cm){k:Nat}(hk:k<m):aO (ao (cmD m f ex)) (N k)=some (cst (f k).1 (f k).2):=by
 rw[cw];exact ef (gh w hx xl xm f) (List.mem_append_left _ (List.mem_map.mpr ⟨k,List.mem_range.mpr hk,rfl⟩))
include w hx xm in
theorem Ey(f:Cm){k:Nat}(hk:k<m)(p r:List Nat):putL (cmD m f ex) (N k) (cst p r)=cmD m (fun i=>if i=k then (p,r) else f i) ex:=by
 have h40:=w.n40;have hmn:=w.mn
 have:N k∈ky (cmD m f ex):=by rw[jS];exact List.mem_append_left _ (List.mem_map.mpr ⟨k,List.mem_range.mpr hk,rfl⟩)
 unfold putL;rw[if_pos this];unfold cmD;rw[List.map_append,List.map_map]
 congr 1
 .refine List.map_congr_left fun j hj=>?_
  have hj:=List.mem_range.mp hj
  by_cases e:j=k
  .subst e;simp
  .have:¬N j=N k:=fun z=>e (eS j (by omega) k (by omega) z)
   simp[this,e]
 .refine(List.map_congr_left fun q hq=>?_).trans (List.map_id _)
  have:=hx q hq
  have h2:=xm fun z=>by rw[z] at hq;cases hq
  rw[this]
  have:¬N (n-1)=N k:=fun z=>by have:=eS (n-1) (by omega) k (by omega) z;omega
  simp[this]
theorem Fx{A:List Nat}(hA:∀x∈A,x<40){k:Nat}(hk:k<40):putL (gD A) (N k) V=gD (ins A k):=by
 have e:N k∈ky (gD A)↔k∈A:=by
  unfold ky gD;rw[List.map_map];constructor
  .intro h
   obtain⟨i,hi,e⟩:=List.mem_map.mp h;rw[←eS i (hA i hi) k hk e];exact hi
  .exact fun h=>List.mem_map.mpr ⟨k,h,rfl⟩
 unfold putL ins
 by_cases h:k∈A
 .rw[if_pos (e.mpr h),if_pos h]
  unfold gD;rw[List.map_map];refine List.map_congr_left fun j _=>?_;simp
 .rw[if_neg fun z=>h (e.mp z),if_neg h]
  simp[gD]
def ρM(b:PyData)(g c:Dl)(o3 o4 o5 o6:Option D.W):Rho:=[some (.d b),some (.loc (.dict (ao g))),some (.loc (.dict (ao c))),o3,o4,o5,o6]
variable {b:PyData}{o4 o5 o6:Option D.W}
include w hx xl xm in
theorem Bv{s:Cm×List Nat}(h:WF m W s){k:Nat}(hk:k<m){o3:Option D.W}:eI ((ρM b (gD s.2) (cmD m s.1 ex) o3 o4 o5 o6).set 3 (some (.d (.str (N k))))) []=some ((.nx,ρM b (gD (bL s k).2) (cmD m (bL s k).1 ex) (some (.d (.str (N k)))) o4 o5 o6),[]):=by
 have h40:=w.n40;have hmn:=w.mn;have hp:=h.pr k hk;have hl:=w.le k hk
 have ll:(s.1 k).1.length+(s.1 k).2.length<=100:=by rw[←List.length_append,hp];omega
 have l40:∀x∈(s.1 k).2,x<40:=fun x hx=>by
  have:=w.lt k hk x (by rw[←hp];exact List.mem_append_right _ hx);omega
 have g:=EB h.a40 ll l40;have c1:=ui w hx xl xm s.1 hk;have c2:=ui w hx xl xm (bL s k).1 hk;have lc:f7 [] (some (.d (cst ((s.1 k).1++tk s.2 (s.1 k).2) (dk s.2 (s.1 k).2)),[]))=some (.d (cst ((s.1 k).1++tk s.2 (s.1 k).2) (dk s.2 (s.1 k).2)),[]):=mG (CG _ _)
 have xl1:(ao (cmD m s.1 ex)).length<=1000:=by rw[eg];unfold cmD;simp;omega
 have xg:(ao (gD s.2)).length<=1000:=by rw[eg];unfold gD;rw[List.length_map];have:=h.al;omega
 have pt:=Ey w hx xm s.1 hk ((s.1 k).1++tk s.2 (s.1 k).2) (dk s.2 (s.1 k).2)
 have st1:(bL s k).1=fun i=>if i=k then ((s.1 k).1++tk s.2 (s.1 k).2,dk s.2 (s.1 k).2) else s.1 i:=rfl
 rw[←st1] at pt
 have s1:bj 2 (aa 3) (eA (aB fg (ae (af ixA (aa 2) (aa 3)) (ae (aa 1) ai)))) ((ρM b (gD s.2) (cmD m s.1 ex) o3 o4 o5 o6).set 3 (some (.d (.str (N k))))) []=some ((.nx,ρM b (gD s.2) (cmD m (bL s k).1 ex) (some (.d (.str (N k)))) o4 o5 o6),[]):=by
  unfold ρM;unfold tk dk at *;simp[c1,g,lc,xl1,cK,pt]
 unfold eI;rw[aP s1]
 have cc:(bL s k).1 k=((s.1 k).1++tk s.2 (s.1 k).2,dk s.2 (s.1 k).2):=by rw[st1];simp
 rw[cc] at c2;dsimp only at c2;have gp:=Fx h.a40 (k:=k) (by omega)
 cases e:dk s.2 (s.1 k).2 with
 |nil=>
  rw[e] at c2
  have:(bL s k).2=ins s.2 k:=by unfold bL;dsimp only;rw[if_pos e]
  rw[this];unfold cst ce stp MV at c2;unfold ρM;simp[oA,c2,at3,bg,xg,cK,gp]
 |cons t r=>
  rw[e] at c2
  have:(bL s k).2=s.2:=by unfold bL;dsimp only;rw[if_neg (by rw[e];simp)]
  rw[this];unfold cst ce stp WS at c2;unfold ρM;simp[oA,c2,at3]
include w hx xl xm in
theorem tw{rest:List PyData}:∀(ks:List Nat) (s:Cm×List Nat) (o3:Option D.W),(∀k∈ks,k<m)->WF m W s->∃p3,forL 3 eI (nm (ks.map N)++rest) (ρM b (gD s.2) (cmD m s.1 ex) o3 o4 o5 o6) []=forL 3 eI rest (ρM b (gD (rnd ks s).2) (cmD m (rnd ks s).1 ex) p3 o4 o5 o6) []
 |[],s,o3,_,_=>⟨o3,rfl⟩
 |k::r,s,o3,hk,h=>by
  have h40:=w.n40;have hmn:=w.mn;have hk0:=hk k List.mem_cons_self;obtain⟨p3,e⟩:=tw r (bL s k) (some (.d (.str (N k)))) (fun x hx=>hk x (List.mem_cons_of_mem _ hx)) (h.step (by omega));refine⟨p3,Eq.trans ?_ e⟩;show forL 3 eI (.str (N k)::(nm (r.map N)++rest)) _ _=_
  conv=>lhs;unfold forL
  rw[Bv w hx xl xm h hk0];rfl
end
section
variable {n m:Nat}{W:Nat->List Nat}(w:Ws n m W){ex:Dl}(hx:∀p∈ex,p=(N (n-1),FC))(xl:ex.length<=1)(xm:ex≠[]->m<n)
variable {b:PyData}{o4 o5 o6:Option D.W}
include w hx xl xm in
theorem Cp{s:Cm×List Nat}(h:WF m W s){o3:Option D.W}:∃p3,forL 3 eI (nm (ky ex)) (ρM b (gD s.2) (cmD m s.1 ex) o3 o4 o5 o6) []=some ((.nx,ρM b (gD s.2) (cmD m s.1 ex) p3 o4 o5 o6),[]):=by
 match ex,hx,xl,xm with
 |[],_,_,_=>exact⟨o3,rfl⟩
 |[p],hx,xl,xm=>
  have hp:=hx p List.mem_cons_self;subst hp
  have c1:aO (ao (cmD m s.1 [(N (n-1),FC)])) (N (n-1))=some FC:=by
   rw[cw];exact ef (gh w hx xl xm s.1) (List.mem_append_right _ List.mem_cons_self)
  have pt:putL (cmD m s.1 [(N (n-1),FC)]) (N (n-1)) FC=cmD m s.1 [(N (n-1),FC)]:=by
   have hm:N (n-1)∈ky (cmD m s.1 [(N (n-1),FC)]):=by rw[jS];exact List.mem_append_right _ List.mem_cons_self
   unfold putL;rw[if_pos hm];refine(List.map_congr_left fun q hq=>?_).trans (List.map_id _);split
   .rename_i z
    have:=ef (gh w hx xl xm s.1) (s:=q.1) (d:=q.2) hq;rw[z,←cw,c1] at this;cases q;dsimp only at z this ⊢;rw[z,Option.some.inj this];rfl
   .rfl
  have g:fg [.d FC,.d (.dict (ao (gD s.2)))] []=some (FC,[]):=CQ;have lc:f7 [] (some (.d FC,[]))=some (.d FC,[]):=mG rfl;have hmn:=w.mn;have h40:=w.n40
  have xl1:(ao (cmD m s.1 [(N (n-1),FC)])).length<=1000:=by rw[eg];unfold cmD;simp;omega
  have s1:bj 2 (aa 3) (eA (aB fg (ae (af ixA (aa 2) (aa 3)) (ae (aa 1) ai)))) ((ρM b (gD s.2) (cmD m s.1 [(N (n-1),FC)]) o3 o4 o5 o6).set 3 (some (.d (.str (N (n-1)))))) []=some ((.nx,ρM b (gD s.2) (cmD m s.1 [(N (n-1),FC)]) (some (.d (.str (N (n-1))))) o4 o5 o6),[]):=by
   unfold ρM;simp[c1,g,lc,xl1,cK,pt]
  refine⟨some (.d (.str (N (n-1)))),?_⟩;show forL 3 eI [.str (N (n-1))] _ _=_;unfold forL eI;rw[aP s1];unfold FC ce FP at c1;unfold ρM;simp[oA,c1,at3,bg,FC,ce,FP];rfl
def mk1:FT:=aX (aa 5)
variable {recs:Dl}(hr:ky recs=(List.range m).map N++ky ex){g0:PyData}
include w hx xl xm hr in
theorem Bw{s:Cm×List Nat}(h:WF m W s){o3 o4 o5 o6:Option D.W}:∃p3 p6,j3 (ρM (.tuple [g0,.dict (ao recs)]) (gD s.2) (cmD m s.1 ex) o3 o4 o5 o6) []=some ((.nx,ρM (.tuple [g0,.dict (ao recs)]) (gD (rnd (List.range m) s).2) (cmD m (rnd (List.range m) s).1 ex) p3 o4 (some (.d (.bool (decide (s.2.length<(rnd (List.range m) s).2.length))))) p6),[]):=by
 have h40:=w.n40;have hmn:=w.mn;have hks:∀k∈List.range m,k<m:=fun k hk=>List.mem_range.mp hk;have h2:WF m W (rnd (List.range m) s):=WF.rnd (fun k hk=>by have:=hks k hk;omega) h
 have ln:∀A:List Nat,aT [.dict (ao (gD A))]=some (.int A.length):=fun A=>by
  show some (PyData.int (ao (gD A)).length)=_;rw[eg];unfold gD;rw[List.length_map]
 obtain⟨p3,e1⟩:=tw w hx xl xm (b:=.tuple [g0,.dict (ao recs)]) (o4:=o4) (o5:=o5) (o6:=some (.d (.int s.2.length))) (rest:=nm (ky ex)) (List.range m) s o3 hks h;obtain⟨q3,e2⟩:=Cp w hx xl xm (b:=.tuple [g0,.dict (ao recs)]) (o4:=o4) (o5:=o5) (o6:=some (.d (.int s.2.length))) h2 (o3:=p3);have e3:=e1.trans e2
 have kk:nm ((List.range m).map N)++nm (ky ex)=(ao recs).map (·.1):=by
  rw[mH,hr];simp[nm]
 rw[kk] at e3;refine⟨q3,some (.d (.int s.2.length)),?_⟩
 have s1:aG 6 (fCB aT (ae (aa 1) ai)) (ρM (.tuple [g0,.dict (ao recs)]) (gD s.2) (cmD m s.1 ex) o3 o4 o5 o6) []=some ((.nx,ρM (.tuple [g0,.dict (ao recs)]) (gD s.2) (cmD m s.1 ex) o3 o4 o5 (some (.d (.int s.2.length)))),[]):=by
  unfold ρM;simp[ln]
 have s2:bw 3 (aZ (af ixD (aa 0) (fC (.int 1)))) eI (ρM (.tuple [g0,.dict (ao recs)]) (gD s.2) (cmD m s.1 ex) o3 o4 o5 (some (.d (.int s.2.length)))) []=some ((.nx,ρM (.tuple [g0,.dict (ao recs)]) (gD (rnd (List.range m) s).2) (cmD m (rnd (List.range m) s).1 ex) q3 o4 o5 (some (.d (.int s.2.length)))),[]):=by
  rw[←e3];rfl
 unfold j3;rw[aP s1,aP s2];unfold ρM;simp[ln]
include w hx xl xm hr in
theorem Ad{P:Cm×List Nat->Prop}(hP:∀s,P s->WF m W s/\P (rnd (List.range m) s)/\s.2.length<=(rnd (List.range m) s).2.length):∀(d:Nat) (s:Cm×List Nat) (fuel:Nat) (o3 o4 o6:Option D.W),P s->100-s.2.length<=d->d+1<fuel ->
  ∃s' p3 p6,P s'/\(rnd (List.range m) s').2.length=s'.2.length/\bv mk1 j3 fuel (ρM (.tuple [g0,.dict (ao recs)]) (gD s.2) (cmD m s.1 ex) o3 o4 (some (.d (.bool true))) o6) []=some ((.nx,ρM (.tuple [g0,.dict (ao recs)]) (gD (rnd (List.range m) s').2) (cmD m (rnd (List.range m) s').1 ex) p3 o4 (some (.d (.bool false))) p6),[]):=by
 intro d
 induction d with
 |zero=>
  intro s fuel o3 o4 o6 hs hd hf;obtain⟨f,rfl⟩:∃f,fuel=f+2:=⟨fuel-2,by omega⟩;obtain⟨h1,h2,h3⟩:=hP s hs;have h4:=(hP _ h2).1.al;have h5:=gj (hP _ h2).1.nd (hP _ h2).1.a40;exact absurd h1.al (by omega)
 |succ d ih=>
  intro s fuel o3 o4 o6 hs hd hf;obtain⟨f,rfl⟩:∃f,fuel=f+2:=⟨fuel-2,by omega⟩;obtain⟨h1,h2,h3⟩:=hP s hs;obtain⟨p3,p6,e⟩:=Bw w hx xl xm hr (g0:=g0) h1 (o3:=o3) (o4:=o4) (o5:=some (.d (.bool true))) (o6:=o6);have c:mk1 (ρM (.tuple [g0,.dict (ao recs)]) (gD s.2) (cmD m s.1 ex) o3 o4 (some (.d (.bool true))) o6) []=some (true,[]):=rfl;rw[gT c e]
  by_cases g:s.2.length<(rnd (List.range m) s).2.length
  .rw[decide_eq_true g]
   exact ih _ (f+1) p3 o4 p6 h2 (by omega) (by omega)
  .rw[decide_eq_false g]
   exact⟨s,p3,p6,hs,by omega,du rfl⟩
end
def exC(n:Nat)(fl:Bool):Dl:=if fl then [(N (n-1),FC)] else []
def exR(n:Nat)(fl:Bool):Dl:=if fl then [(N (n-1),dZ)] else []
def rcs(n m:Nat)(W:Nat->List Nat)(fl:Bool):Dl:=(List.range m).map (fun k=>(N k,rcp (W k)))++exR n fl
def s0(W:Nat->List Nat)(A:List Nat):Cm×List Nat:=(fun k=>([],W k),A)
theorem tK{b:PyData}{g:Dl}{o5 o6:Option D.W}:∀(r:List (Str×PyData×PyData)) (A:Dl) (o3 o4:Option D.W),(∀p∈r,eY [.d p.2.1] []=some (p.2.2,[]))->(ky A++r.map (·.1)).Nodup->A.length+r.length<=900 ->
  ∃p3 p4,eU 3 4 iX (r.map fun p=>(.str p.1,p.2.1)) (ρM b g A o3 o4 o5 o6) []=some ((.nx,ρM b g (A++r.map fun p=>(p.1,p.2.2)) p3 p4 o5 o6),[])
 |[],A,o3,o4,_,_,_=>⟨o3,o4,by rw[List.map_nil,List.map_nil,List.append_nil];rfl⟩
 |(x,y,z)::r,A,o3,o4,h,nd,hl=>by
  rw[List.length_cons] at hl;have hs:=h _ List.mem_cons_self
  have hn:x∉ky A:=fun q=>by
   rw[List.nodup_append] at nd;exact nd.2.2 x q x (by simp) rfl
  have ka:ky (A++[(x,z)])=ky A++[x]:=by simp[ky]
  obtain⟨p3,p4,e⟩:=tK (b:=b) (g:=g) (o5:=o5) (o6:=o6) r (A++[(x,z)]) (some (.d (.str x))) (some (.d y)) (fun p hp=>h p (List.mem_cons_of_mem _ hp)) (by rw[ka,List.append_assoc];exact nd) (by simp;omega);refine⟨p3,p4,?_⟩
  have zl:(ao A).length<=1000:=by rw[eg];omega
  have bd:iX (((ρM b g A o3 o4 o5 o6).set 3 (some (.d (.str x)))).set 4 (some (.d y))) []=some ((.nx,ρM b g (A++[(x,z)]) (some (.d (.str x))) (some (.d y)) o5 o6),[]):=by
   unfold ρM iX;simp[hs,zl,cK,putL,hn]
  show eU 3 4 iX ((.str x,y)::r.map fun p=>(.str p.1,p.2.1)) _ _=_;unfold eU;rw[bd];refine Eq.trans e ?_;simp
theorem z9{W:List Nat}(h:W≠[])(h40:∀x∈W,x<40):eY [.d (rcp W)] []=some (cst [] W,[]):=by
 cases W with
 |nil=>exact absurd rfl h
 |cons t r=>
  have:=jf (h40 t List.mem_cons_self) (rcp r) (.tuple []);show eY [.d (wn t (rcp r))] []=_;simp[eY,this,cst,ce,stp]
theorem yq:eY [.d dZ] []=some (FC,[]):=by
 have:=sQ (g:=.tuple []);simp[eY,this,FC,ce]
section
variable {n m:Nat}{W:Nat->List Nat}(w:Ws n m W){fl:Bool}(xm:fl=true->m<n)
theorem iC:∀p∈exC n fl,p=(N (n-1),FC):=fun p hp=>by
 unfold exC at hp;split at hp
 .exact List.mem_singleton.mp hp
 .cases hp
theorem jo:(exC n fl).length<=1:=by unfold exC;split <;> simp
include xm in
theorem jQ:exC n fl≠[]->m<n:=fun h=>by
 unfold exC at h;split at h
 .rename_i z;exact xm z
 .exact absurd rfl h
theorem n5:ky (rcs n m W fl)=(List.range m).map N++ky (exC n fl):=by
 unfold rcs ky;rw[List.map_append,List.map_map]
 congr 1
 unfold exR exC
 split <;> rfl
def tri(n m:Nat)(W:Nat->List Nat)(fl:Bool):List (Str×PyData×PyData):=(List.range m).map (fun k=>(N k,rcp (W k),cst [] (W k)))++if fl then [(N (n-1),dZ,FC)] else []
include w xm in
theorem vh{P:Cm×List Nat->Prop}(hP:∀s,P s->WF m W s/\P (rnd (List.range m) s)/\s.2.length<=(rnd (List.range m) s).2.length){A:List Nat}(h0:P (s0 W A)) :
  ∃s,P s/\(rnd (List.range m) s).2.length=s.2.length/\fS [.d (.tuple [.dict (ao (gD A)),.dict (ao (rcs n m W fl))])] []=some (.tuple [.dict (ao (gD (rnd (List.range m) s).2)),.dict (ao (cmD m (rnd (List.range m) s).1 (exC n fl)))],[]):=by
 have h40:=w.n40;have hmn:=w.mn
 have t1:(tri n m W fl).map (fun p=>(PyData.str p.1,p.2.1))=ao (rcs n m W fl):=by
  unfold tri rcs ao;rw[List.map_append,List.map_append,List.map_map,List.map_map]
  congr 1
  unfold exR
  split <;> rfl
 have t2:(tri n m W fl).map (fun p=>(p.1,p.2.2))=cmD m (s0 W A).1 (exC n fl):=by
  unfold tri cmD s0 exC;rw[List.map_append,List.map_map]
  congr 1
  split <;> rfl
 have t3:(tri n m W fl).map (·.1)=ky (cmD m (s0 W A).1 (exC n fl)):=by
  rw[←t2];unfold ky;rw[List.map_map];rfl
 have nd:=gh w (ex:=exC n fl) iC jo (jQ xm) (s0 W A).1
 obtain⟨p3,p4,e1⟩:=tK (b:=.tuple [.dict (ao (gD A)),.dict (ao (rcs n m W fl))]) (g:=gD A) (o5:=none) (o6:=none) (tri n m W fl) [] none none (fun p hp=>by
   unfold tri at hp
   rcases List.mem_append.mp hp with z|z
   .obtain⟨k,hk,rfl⟩:=List.mem_map.mp z
    have hk:=List.mem_range.mp hk
    exact z9 (w.ne k hk) fun x hx=>by have:=w.lt k hk x hx;omega
   .split at z
    .rw[List.mem_singleton.mp z];exact yq
    .cases z) (by rw[t3];simpa[ky] using nd) (by
   have:(tri n m W fl).length<=m+1:=by unfold tri;split <;> simp
   simp
   omega)
 rw[t1,List.nil_append,t2] at e1;obtain⟨s,q3,q6,hs,hl,e2⟩:=Ad w iC jo (jQ xm) (n5 (W:=W)) (g0:=.dict (ao (gD A))) hP 100 (s0 W A) 100000 p3 p4 none h0 (by omega) (by omega);refine⟨s,hs,hl,?_⟩;rw[xj,dX];simp only[dj,dq,if_true];show bP (aj _ _ [some (.d (.tuple [.dict (ao (gD A)),.dict (ao (rcs n m W fl))])),none,none,none,none,none,none] [])=_;rw[aP (ρ1:=[some (.d (.tuple [.dict (ao (gD A)),.dict (ao (rcs n m W fl))])),some (.loc (.dict (ao (gD A)))),none,none,none,none,none]) (T1:=[]) (by rfl)];rw[aP (ρ1:=ρM (.tuple [.dict (ao (gD A)),.dict (ao (rcs n m W fl))]) (gD A) [] none none none none) (T1:=[]) (by rfl)];rw[aP (ρ1:=ρM (.tuple [.dict (ao (gD A)),.dict (ao (rcs n m W fl))]) (gD A) (cmD m (s0 W A).1 (exC n fl)) p3 p4 none none) (T1:=[]) (by exact e1)];rw[aP (ρ1:=ρM (.tuple [.dict (ao (gD A)),.dict (ao (rcs n m W fl))]) (gD A) (cmD m (s0 W A).1 (exC n fl)) p3 p4 (some (.d (.bool true))) none) (T1:=[]) (by rfl)];have sA:(s0 W A).2=A:=rfl;unfold mk1 at e2;rw[sA] at e2;rw[aP e2];rfl
theorem sY:∀(ks:List Nat),(∀k∈ks,W k≠[])->rnd ks (s0 W [])=s0 W []
 |[],_=>rfl
 |k::r,h=>by
  have h0:=h k List.mem_cons_self
  have t0:∀r:List Nat,tk [] r=[]:=fun r=>by cases r <;> simp[tk]
  have d0:∀r:List Nat,dk [] r=r:=fun r=>by cases r <;> simp[dk]
  have:bL (s0 W []) k=s0 W []:=by
   unfold bL s0;rw[t0,d0];dsimp only;rw[if_neg h0];refine Prod.ext (funext fun i=>?_) rfl;dsimp only;split
   .rename_i z;rw[z];rfl
   .rfl
  show rnd r (bL (s0 W []) k)=_;rw[this];exact sY r fun x hx=>h x (List.mem_cons_of_mem _ hx)
include w xm in
theorem ma:fS [.d (.tuple [.dict [],.dict (ao (rcs n m W fl))])] []=some (.tuple [.dict [],.dict (ao (cmD m (s0 W []).1 (exC n fl)))],[]):=by
 have r0:=sY (W:=W) (List.range m) fun k hk=>w.ne k (List.mem_range.mp hk)
 obtain⟨s,hs,_,e⟩:=vh w xm (P:=fun s=>s=s0 W []) (A:=[]) (fun s h=>by
  subst h
  refine⟨⟨fun x hx=>(nomatch hx),Nat.zero_le _,List.nodup_nil,fun k _=>rfl⟩,r0,by rw[r0];exact Nat.le_refl _⟩) rfl
 subst hs;rw[r0] at e;exact e
structure Iv(n m:Nat)(W:Nat->List Nat)(s:Cm×List Nat):Prop where
 wf:WF m W s
 an:∀x∈s.2,x<n
 la:n-1∈s.2
 dn:∀k<m,k∈s.2->(s.1 k).2=[]
theorem my(s:Cm×List Nat)(k:Nat):∀x∈s.2,x∈(bL s k).2:=fun x hx=>by
 unfold bL;dsimp only;split
 .exact ins_mem.mpr (.inl hx)
 .exact hx
theorem ji:∀(ks:List Nat) (s:Cm×List Nat),∀x∈s.2,x∈(rnd ks s).2
 |[],_,_,h=>h
 |k::r,s,x,h=>ji r (bL s k) x (my s k x h)
theorem u9{A:List Nat}:∀{r:List Nat},(∀x∈r,x∈A)->dk A r=[]
 |[],_=>rfl
 |x::r,h=>by
  have:=u9 (r:=r) fun y hy=>h y (List.mem_cons_of_mem _ hy);unfold dk at this ⊢;simp[h x List.mem_cons_self,this]
include w in
theorem Iv.step{s:Cm×List Nat}(h:Iv n m W s){k:Nat}(hk:k<m):Iv n m W (bL s k):=by
 have h40:=w.n40;have hmn:=w.mn;refine⟨h.wf.step (by omega),fun x hx=>?_,my s k _ h.la,fun i hi hm=>?_⟩
 .unfold bL at hx
  dsimp only at hx;split at hx
  .rcases ins_mem.mp hx with z|rfl
   .exact h.an x z
   .omega
  .exact h.an x hx
 .unfold bL at hm ⊢
  dsimp only at hm ⊢
  by_cases e:i=k
  .subst e
   rw[if_pos rfl];dsimp only;split at hm
   .rename_i z;exact z
   .rw[h.dn i hi hm];rfl
  .rw[if_neg e]
   split at hm
   .rcases ins_mem.mp hm with z|z
    .exact h.dn i hi z
    .exact absurd z e
   .exact h.dn i hi hm
include w in
theorem Iv.rnd:∀{ks:List Nat}{s:Cm×List Nat},(∀k∈ks,k<m)->Iv n m W s->Iv n m W (rnd ks s)
 |[],_,_,h=>h
 |k::r,s,hk,h=>Iv.rnd (ks:=r) (fun x hx=>hk x (List.mem_cons_of_mem _ hx)) (h.step w (hk k List.mem_cons_self))
include w in
theorem sZ{k:Nat}:∀(ks:List Nat) (s:Cm×List Nat),(∀k∈ks,k<m)->Iv n m W s->k∈ks->(∀t∈W k,t∈s.2)->k∈(rnd ks s).2
 |i::r,s,hk,h,hm,ht=>by
  have h1:=h.step w (hk i List.mem_cons_self)
  by_cases e:k=i
  .subst e
   refine ji r (bL s k) k ?_;have hd:dk s.2 (s.1 k).2=[]:=u9 fun x hx=>ht x (by rw[←h.wf.pr k (hk k List.mem_cons_self)];exact List.mem_append_right _ hx);unfold bL;dsimp only;rw[if_pos hd];exact ins_mem.mpr (.inr rfl)
  .exact sZ r (bL s i) (fun x hx=>hk x (List.mem_cons_of_mem _ hx)) h1 ((List.mem_cons.mp hm).resolve_left e) fun t z=>my s i t (ht t z)
theorem sub_eq{A B:List Nat}(na:A.Nodup)(hs:∀x∈A,x∈B)(hl:B.length<=A.length):∀x∈B,x∈A:=fun x hx=>by
 apply Classical.byContradiction;intro z
 have:=cY (L:=x::A) (N:=B) (List.nodup_cons.mpr ⟨z,na⟩) fun y hy=>by
  rcases List.mem_cons.mp hy with rfl|q
  .exact hx
  .exact hs y q
 rw[List.length_cons] at this;omega
include w in
theorem mE(hm:m+1=n)(up:∀k<m,∀t∈W k,k<t):∃A:List Nat,A.Nodup/\(∀x,x∈A↔x<n)/\A.length=n/\fS [.d (.tuple [.dict (ao (gD [n-1])),.dict (ao (rcs n m W false))])] []=some (.tuple [.dict (ao (gD A)),.dict (ao (cmD m (fun k=>(W k,[])) []))],[]):=by
 have h40:=w.n40;have n2:=w.n2;have hks:∀k∈List.range m,k<m:=fun k hk=>List.mem_range.mp hk;obtain⟨s,hs,hl,e⟩:=vh w (fl:=false) (fun z=>nomatch z) (P:=Iv n m W) (A:=[n-1]) (fun s h=>⟨h.wf,h.rnd w hks,cY h.wf.nd (ji _ s)⟩) ⟨⟨fun x hx=>by rw[List.mem_singleton.mp hx];omega,by simp[s0],by simp[s0],fun k _=>rfl⟩,fun x hx=>by rw[List.mem_singleton.mp hx];omega,List.mem_singleton.mpr rfl,fun k hk hz=>by have:=List.mem_singleton.mp hz;omega⟩;have hr:=hs.rnd w hks;have back:=sub_eq hs.wf.nd (ji (List.range m) s) (by omega)
 have all:∀d k,k<m->m-k<=d->k∈s.2:=by
  intro d
  induction d with
  |zero=>intro k hk h;omega
  |succ d ih=>
   intro k hk h;refine back k (sZ w (List.range m) s hks hs (List.mem_range.mpr hk) fun t ht=>?_);have h1:=up k hk t ht;have h2:=w.lt k hk t ht
   by_cases h3:t<m
   .exact ih t h3 (by omega)
   .have:t=n-1:=by omega
    rw[this];exact hs.la
 have mem:∀x,x∈(rnd (List.range m) s).2↔x<n:=fun x=>⟨hr.an x,fun h=>by
  by_cases h3:x<m
  .exact ji _ s x (all m x h3 (by omega))
  .have:x=n-1:=by omega
   rw[this];exact hr.la⟩
 refine⟨_,hr.wf.nd,mem,?_,?_⟩
 .have a:=cY hr.wf.nd (N:=List.range n) fun x hx=>List.mem_range.mpr ((mem x).mp hx)
  have b:=cY (List.nodup_range (n:=n)) (N:=(rnd (List.range m) s).2) fun x hx=>(mem x).mpr (List.mem_range.mp hx);rw[List.length_range] at a b;omega
 .rw[e]
  have cm:cmD m (rnd (List.range m) s).1 (exC n false)=cmD m (fun k=>(W k,[])) []:=by
    unfold cmD;refine congrArg (·++[]) (List.map_congr_left fun k hk=>?_);have hk:=hks k hk;have d:=hr.dn k hk ((mem k).mpr (by omega));have p:=hr.wf.pr k hk;rw[d,List.append_nil] at p;rw[d,p]
  rw[cm]
end
def ES:Str:=Str.ofString ""
def bI:Str:=Str.ofString "wants"
def bO:Str:=Str.ofString "fails"
def c6:Str:=Str.ofString "part"
abbrev Lf:=Nat->List SS×Str×Str
def lnK(lf:Lf)(k:Nat):PyData:=lnD (N k) (lf k).1 (lf k).2.1 (lf k).2.2
def lnX(n:Nat):PyData:=lnD (N (n-1)) [] bO c6
def exL(n:Nat)(fl:Bool):Dl:=if fl then [(N (n-1),.tuple [.str ES,lnX n])] else []
def hL(n m:Nat)(lf:Lf)(fl:Bool):Dl:=(List.range m).map (fun k=>(N k,.tuple [.str ES,lnK lf k]))++exL n fl
def lfN(W:Nat->List Nat):Lf:=fun k=>([],bI,N ((W k).headD 0))
def rsA(W:List Nat):List SS:=W.map fun t=>(N t,ST)
def lfA(W:Nat->List Nat):Lf:=fun k=>(rsA (W k),bx,ST)
def nms(n:Nat):List Str:=(List.range n).map N
theorem ua{h:Dl}(nd:(ky h).Nodup):dl h (ky h)=h.map fun p=>(p.1,oZ p.2):=by
 unfold dl;have:ky h=h.map (·.1):=rfl;rw[this,List.map_map];refine List.map_congr_left fun p hp=>?_;have e:=ef nd (s:=p.1) (d:=p.2) hp;show (p.1,ln h p.1)=_;unfold ln;rw[e]
theorem tM{d:PyData}{g:Str->PyData->PyData}{come:Dl}(nc:(ky come).Nodup)(hg:∀p∈come,di [.d (.str p.1),.d p.2] []=some (g p.1 p.2,[])):∀(r A:Dl) (o2:Option D.W),(∀p∈r,p∈come)->(ky A++ky r).Nodup->A.length+r.length<=900 ->
  ∃p2,forL 2 iZ (nm (ky r)) [some (.d (.dict (ao come))),some (.loc (.dict (ao A))),o2] []=some ((.nx,[some (.d (.dict (ao come))),some (.loc (.dict (ao (A++r.map fun p=>(p.1,g p.1 p.2))))),p2]),[])
 |[],A,o2,_,_,_=>⟨o2,by rw[List.map_nil,List.append_nil];rfl⟩
 |(x,y)::r,A,o2,hm,nd,hl=>by
  rw[List.length_cons] at hl;have hp:=hm _ List.mem_cons_self;have hs:=hg _ hp
  have kc:aO (ao come) x=some y:=by rw[cw];exact ef nc hp
  have hn:x∉ky A:=fun q=>by
   rw[List.nodup_append] at nd;exact nd.2.2 x q x (by simp[ky]) rfl
  have ka:ky (A++[(x,g x y)])=ky A++[x]:=by simp[ky]
  obtain⟨p2,e⟩:=tM (d:=d) nc hg r (A++[(x,g x y)]) (some (.d (.str x))) (fun p hp=>hm p (List.mem_cons_of_mem _ hp)) (by rw[ka,List.append_assoc];exact nd) (by simp;omega);refine⟨p2,?_⟩
  have zl:(ao A).length<=1000:=by rw[eg];omega
  have bd:iZ [some (.d (.dict (ao come))),some (.loc (.dict (ao A))),some (.d (.str x))] []=some ((.nx,[some (.d (.dict (ao come))),some (.loc (.dict (ao (A++[(x,g x y)])))),some (.d (.str x))]),[]):=by
   unfold iZ;simp[kc,hs,zl,cK,putL,hn]
  show forL 2 iZ (.str x::nm (ky r)) _ _=_;unfold forL;simp only[List.set_cons_succ,List.set_cons_zero];rw[bd];refine Eq.trans e ?_;simp
theorem qk{g:Str->PyData->PyData}{come:Dl}(nc:(ky come).Nodup)(hl:come.length<=900)(hg:∀p∈come,di [.d (.str p.1),.d p.2] []=some (g p.1 p.2,[])):gu [.d (.dict (ao come))] []=some (.dict (ao (come.map fun p=>(p.1,g p.1 p.2))),[]):=by
 obtain⟨p2,e⟩:=tM (d:=.none) nc hg come [] none (fun p hp=>hp) (by simpa[ky] using nc) (by simpa using hl);rw[xo];have kd:(ao come).map (·.1)=nm (ky come):=mH come;have d0:ao []=[]:=rfl;rw[d0,List.nil_append,←kd] at e;simp;rw[e];simp[fu]
theorem AV:fh [.d MV] []=some (tlD bx ST,[]):=by
 unfold MV;simp[fh,bg,kW,tlD,bx]
theorem AU{t:Nat}{r:PyData}:fh [.d (WS t r)] []=some (tlD bI (N t),[]):=by
 unfold WS;simp[fh,at3,tlD,bI]
theorem AW:fh [.d FP] []=some (tlD bO c6,[]):=by
 unfold FP;simp[fh,bg,tlD,bO,c6]
theorem Ac(pre:List Nat)(ρ:Rho):cH bq (aE .tuple (ae (af ixD (aa 0) (fC (.int 0))) (ae (aB (eZ 25) (ae (af ixD (aa 0) (fC (.int 1))) ai)) ai))) ρ (pre.map rdV) []=some (Rd (rsA pre),[]):=by
 rw[c9 (g:=fun d=>match d with | .tuple [a,_]=>.tuple [a,.str ST]|_=>.none) fun d hd=>by
  obtain⟨t,_,rfl⟩:=List.mem_map.mp hd
  simp[rdV,bg,kW]]
 congr 2
 unfold Rd rsA;rw[List.map_map,List.map_map];rfl
theorem mF{x:Str}{pre:List Nat}{s:PyData}{a b:Str}{g:List PyData}(hp:pre.length<=900)(h:fh [.d s] []=some (tlD a b,[])):di [.d (.str x),.d (ce g (pre.map rdV) s)] []=some (lnD x (rsA pre) a b,[]):=by
 unfold ce lnD;simp[di,at3,Ac,h]
section
variable {n m:Nat}{W:Nat->List Nat}(w:Ws n m W){fl:Bool}(xm:fl=true->m<n)
theorem gZ(lf:Lf):ky (hL n m lf fl)=(List.range m).map N++ky (exC n fl):=by
 unfold hL ky;rw[List.map_append,List.map_map]
 congr 1
 unfold exL exC
 split <;> rfl
include w xm in
theorem iL(lf:Lf):(ky (hL n m lf fl)).Nodup:=by
 have:=gh w (ex:=exC n fl) iC jo (jQ xm) (s0 W []).1;rw[jS] at this;rw[gZ];exact this
theorem jj{k:Nat}(h:k<n):N k∈nms n:=List.mem_map.mpr ⟨k,List.mem_range.mpr h,rfl⟩
theorem n9{lf:Lf}{p:Str×PyData}(h:p∈hL n m lf fl):(∃k<m,p=(N k,.tuple [.str ES,lnK lf k]))\/(fl=true/\p=(N (n-1),.tuple [.str ES,lnX n])):=by
 unfold hL at h
 rcases List.mem_append.mp h with z|z
 .obtain⟨k,hk,rfl⟩:=List.mem_map.mp z
  exact .inl ⟨k,List.mem_range.mp hk,rfl⟩
 .unfold exL at z
  split at z
  .rename_i q;exact .inr ⟨q,List.mem_singleton.mp z⟩
  .cases z
theorem uy:∀{a b:List SS},Rd a=Rd b->a=b
 |[],[],_=>rfl
 |[],_::_,h=>nomatch h
 |_::_,[],h=>nomatch h
 |(a1,a2)::a,(b1,b2)::b,h=>by
  have h':PyData.tuple [.str a1,.str a2]::Rd a=PyData.tuple [.str b1,.str b2]::Rd b:=h
  injection h' with h1 h2
  rw[uy h2];simp at h1;rw[h1.1,h1.2]
theorem jm{x y:Str}{r s:List SS}{a b c d:Str}(h:lnD x r a b=lnD y s c d):x=y/\r=s/\a=c/\b=d:=by
 unfold lnD tlD at h;simp at h;exact⟨h.1,uy h.2.1,h.2.2.1,h.2.2.2⟩
include w xm in
theorem wH{lf:Lf}(hl:∀k<m,(lf k).1.length<=12)(hr:∀k<m,∀r∈(lf k).1,r.1∈nms n)(hw:∀k<m,(lf k).2.1=bI->(lf k).2.2∈nms n):Hq (nms n) (hL n m lf fl):=by
 have mn:=w.mn;have n2:=w.n2;refine⟨iL w xm lf,fun p hp=>?_,fun p hp t rs a b e=>?_,by unfold nms;simpa using w.n40⟩
 .rcases n9 hp with⟨k,hk,rfl⟩|⟨_,rfl⟩
  .exact⟨jj (by omega),ES,_,_,_,rfl,hl k hk⟩
  .exact⟨jj (by omega),ES,_,_,_,rfl,by simp⟩
 .rcases n9 hp with⟨k,hk,rfl⟩|⟨_,rfl⟩
  .have e':lnK lf k=lnD (N k) rs a b:=by simpa using(show PyData.tuple [.str ES,lnK lf k]=_ from e) |> fun z=>(by simp at z;exact z.2)
   obtain⟨_,rfl,rfl,rfl⟩:=jm e';exact⟨hr k hk,hw k hk⟩
  .have e':lnX n=lnD (N (n-1)) rs a b:=(show PyData.tuple [.str ES,lnX n]=_ from e) |> fun z=>(by simp at z;exact z.2)
   obtain⟨_,rfl,rfl,rfl⟩:=jm e';exact⟨fun r hr=>(nomatch hr),fun z=>absurd z (by simp[bO])⟩
include w xm in
theorem qN:Hq (nms n) (hL n m (lfN W) fl):=wH w xm (fun _ _=>by simp[lfN]) (fun _ _ r hr=>nomatch hr) fun k hk _=>by
 show N ((W k).headD 0)∈nms n;have h1:=w.ne k hk
 cases e:W k with
 |nil=>exact absurd e h1
 |cons t r=>exact jj (w.lt k hk t (by rw[e];exact List.mem_cons_self))
include w xm in
theorem qA:Hq (nms n) (hL n m (lfA W) fl):=wH w xm (fun k hk=>by simpa[lfA,rsA] using w.le k hk) (fun k hk r hr=>by
 obtain⟨t,ht,rfl⟩:=List.mem_map.mp hr
 exact jj (w.lt k hk t ht)) fun k hk z=>absurd z (by simp[lfA,bx,bI])
include w xm in
theorem oM(lf:Lf){k:Nat}(hk:k<m):(hL n m lf fl).lookup (N k)=some (.tuple [.str ES,lnK lf k]):=ef (iL w xm lf) (List.mem_append_left _ (List.mem_map.mpr ⟨k,List.mem_range.mpr hk,rfl⟩))
theorem sk(lf:Lf):(hL n m lf fl).map (fun p=>(p.1,oZ p.2))=(List.range m).map (fun k=>(N k,lnK lf k))++if fl then [(N (n-1),lnX n)] else []:=by
 unfold hL;rw[List.map_append,List.map_map]
 congr 1
 unfold exL
 split <;> rfl
def gL:Str->PyData->PyData:=fun x d=>(di [.d (.str x),.d d] []).elim .none (·.1)
include w xm in
theorem qv:gu [.d (.dict (ao (cmD m (s0 W []).1 (exC n fl))))] []=some (.dict (ao (dl (hL n m (lfN W) fl) (ky (hL n m (lfN W) fl)))),[]):=by
 have mn:=w.mn;have h40:=w.n40;have nd:=gh w (ex:=exC n fl) iC jo (jQ xm) (s0 W []).1
 have l1:∀k<m,di [.d (.str (N k)),.d (cst [] (W k))] []=some (lnK (lfN W) k,[]):=fun k hk=>by
  cases e:W k with
  |nil=>exact absurd e (w.ne k hk)
  |cons t r=>
   have:=mF (x:=N k) (pre:=[]) (g:=[]) (by simp) (AU (t:=t) (r:=rcp r));unfold lnK lfN;rw[e];exact this
 have l2:di [.d (.str (N (n-1))),.d FC] []=some (lnX n,[]):=mF (pre:=[]) (g:=[]) (by simp) AW
 have e:=qk (g:=gL) nd (by unfold cmD exC;split <;> simp <;> omega) fun p hp=>by
  unfold cmD at hp
  rcases List.mem_append.mp hp with z|z
  .obtain⟨k,hk,rfl⟩:=List.mem_map.mp z
   have:=l1 k (List.mem_range.mp hk);show di [.d (.str (N k)),.d (cst [] (W k))] []=some (gL (N k) (cst [] (W k)),[]);unfold gL;rw[this];rfl
  .rw[iC p z]
   unfold gL;rw[l2];rfl
 rw[e,ua (iL w xm _),sk]
 congr 4
 unfold cmD;rw[List.map_append,List.map_map]
 congr 1
 .refine List.map_congr_left fun k hk=>?_
  have:=l1 k (List.mem_range.mp hk);show (N k,gL (N k) (cst [] (W k)))=_;unfold gL;rw[this];rfl
 .unfold exC
  split
  .show [(N (n-1),gL (N (n-1)) FC)]=_
   unfold gL;rw[l2];rfl
  .rfl
include w in
theorem zr:gu [.d (.dict (ao (cmD m (fun k=>(W k,[])) [])))] []=some (.dict (ao (dl (hL n m (lfA W) false) (ky (hL n m (lfA W) false)))),[]):=by
 have mn:=w.mn;have h40:=w.n40;have nd:=gh w (ex:=[]) (fun _ z=>nomatch z) (by simp) (fun z=>absurd rfl z) (fun k=>(W k,[]));have l1:∀k<m,di [.d (.str (N k)),.d (cst (W k) [])] []=some (lnK (lfA W) k,[]):=fun k hk=>mF (by have:=w.le k hk;omega) AV
 have e:=qk (g:=gL) nd (by unfold cmD;simp;omega) fun p hp=>by
  unfold cmD at hp;rw[List.append_nil] at hp;obtain⟨k,hk,rfl⟩:=List.mem_map.mp hp;have:=l1 k (List.mem_range.mp hk);show di [.d (.str (N k)),.d (cst (W k) [])] []=some (gL (N k) (cst (W k) []),[]);unfold gL;rw[this];rfl
 rw[e,ua (iL w (fl:=false) (fun z=>nomatch z) (lfA W)),sk]
 congr 4
 unfold cmD;rw[List.map_append,List.map_map]
 congr 1
 refine List.map_congr_left fun k hk=>?_;have:=l1 k (List.mem_range.mp hk);show (N k,gL (N k) (cst (W k) []))=_;unfold gL;rw[this];rfl
end
@[simp] theorem Hh{o:PyData->PyData->Option PyData}{T:Tp}{y:PyData}{xs:List PyData}:op2 o T (.loc (.list xs)) (.d y)=mkD T (o (.list xs) y):=rfl
@[simp] theorem Hi{o:PyData->PyData->Option PyData}{T:Tp}{x:PyData}{xs:List PyData}:op2 o T (.d x) (.loc (.list xs))=mkD T (o x (.list xs)):=rfl
@[simp] theorem Hj{o:PyData->Option PyData}{T:Tp}{xs:List PyData}:op1 o T (.loc (.list xs))=mkD T (o (.list xs)):=rfl
theorem ng(ps:List Str)(x:Str):atI (nm (ps++[x])) (-1)=some (.str x):=by
 unfold atI ixN nm
 have h:(List.map PyData.str (ps++[x])).length=ps.length+1:=by simp
 rw[h,if_neg (by omega),if_pos (by omega)]
 have e:((-1:Int)+((ps.length+1:Nat):Int)).toNat=ps.length:=by omega
 simp only[Option.bind_some,e];simp
theorem sJ(ps:List Str)(x:Str):cB (nm (ps++[x])) none (some (-1))=nm ps:=by
 have e:HT.sIx (nm (ps++[x])).length 0 none=0:=rfl
 have e2:HT.sIx (nm (ps++[x])).length (nm (ps++[x])).length (some (-1))=ps.length:=by
  show (if (-1:Int)<0 then ((-1:Int)+((nm (ps++[x])).length:Int)).toNat else min ((-1:Int)).toNat (nm (ps++[x])).length)=_;rw[if_pos (by omega)];simp[nm];omega
 unfold cB;rw[e,e2];simp[nm]
theorem gq{r:List Nat}{x:Nat}(hr:∀i∈r,i<40)(hx:x<40):N x∈r.map N↔x∈r:=by
 constructor
 .intro h
  obtain⟨i,hi,e⟩:=List.mem_map.mp h;rw[←eS i (hr i hi) x hx e];exact hi
 .exact fun h=>List.mem_map.mpr ⟨x,h,rfl⟩
def rw'(r:List Nat):List PyData:=nm (r.map N)
def raC:FT:=(eB (aD (af inA (af ixD (aa 2) (fUn bf (fC (.int 1)))) (aa 0))) (aD (af dJ (af ixD (aa 2) (fUn bf (fC (.int 1)))) (fSl (aa 2) b9 (fP (fUn bf (fC (.int 1))))))))
def duC:FT:=(eB (aD (af inA (af ixD (aa 6) (fUn bf (fC (.int 1)))) (aa 3))) (aD (af dJ (af ixD (aa 6) (fUn bf (fC (.int 1)))) (fSl (aa 6) b9 (fP (fUn bf (fC (.int 1))))))))
def ρA(ld:Dl)(nE:PyData)(r:List Nat)(o:Option D.W):Rho:=[some (.d (.dict (ao ld))),some (.d nE),some (.loc (.list (rw' r))),o]
def ρU(wd nE bk:PyData)(nx:Dl)(ns:PyData)(way:Int)(r:List Nat):Rho:=[some (.d wd),some (.d nE),some (.d bk),some (.d (.dict (ao nx))),some (.d ns),some (.d (.int way)),some (.loc (.list (rw' r)))]
def dU(r:List Nat):PyData:=.tuple [.str bO,.tuple (rw' r),.str c6]
structure LdOk(n m:Nat)(W:Nat->List Nat)(fl:Bool)(S:Nat->Prop)(ld:Dl):Prop where
 cl:∀k,S k->k<m->S ((W k).headD 0)
 at_:∀k,S k->k<m->aO (ao ld) (N k)=some (lnK (lfN W) k)
 xt:∀k,S k->k<n->¬k<m->aO (ao ld) (N k)=if fl then some (lnX n) else none
structure NxOk(n m:Nat)(W:Nat->List Nat)(nx:Dl):Prop where
 at_:∀k<m,aO (ao nx) (N k)=some (.str (N ((W k).headD 0)))
 xt:∀k,k<n->¬k<m->aO (ao nx) (N k)=none
section
variable {n m:Nat}{W:Nat->List Nat}(w:Ws n m W){fl:Bool}(xm:fl=true->m<n)
include w in
theorem lE{k:Nat}(hk:k<m):(W k).headD 0<n/\(W k).headD 0∈W k:=by
 cases e:W k with
 |nil=>exact absurd e (w.ne k hk)
 |cons t r=>exact⟨w.lt k hk t (by rw[e];exact List.mem_cons_self),List.mem_cons_self⟩
include w in
theorem both_rows{S:Nat->Prop}{ld nx:Dl}(hd:LdOk n m W fl S ld)(hx:NxOk n m W nx){wd nE bk ns nE':PyData}{way:Int}:∀(d:Nat) (r:List Nat) (x:Nat),41-r.length<=d->r.Nodup->(∀i∈r,i<m)->x<n->S x->((∀k<m,∀t∈W k,k<t)->∀i∈r,i<x) ->
  ∃r' x',r'.length<=41/\x' < n/\S x'/\(∀i∈r',i<m)/\((∀k<m,∀t∈W k,k<t)->∀i∈r',i<x')/\(x' < m->x'∈r') /\
   (∀f,d<f->bv duC kJ f (ρU wd nE bk nx ns way (r++[x])) []=some ((.nx,ρU wd nE bk nx ns way (r'++[x'])),[])) /\
   (∀f o,d<f->∃o',bv raC eV f (ρA ld nE' (r++[x]) o) []=some ((if fl&&!decide (x' < m) then .rt (dU (r'++[x'])) else .nx,ρA ld nE' (r'++[x']) o'),[])):=by
 have h40:=w.n40;have hmn:=w.mn;intro d
 induction d with
 |zero=>
  intro r x hd0 nd hr hxn hS _;have:=cY nd (N:=List.range m) fun i hi=>List.mem_range.mpr (hr i hi);rw[List.length_range] at this;omega
 |succ d ih=>
  intro r x hd0 nd hr hxn hS hup
  have rl:r.length<=m:=by
   have:=cY nd (N:=List.range m) fun i hi=>List.mem_range.mpr (hr i hi)
   rwa [List.length_range] at this
  have r40:∀i∈r,i<40:=fun i hi=>by have:=hr i hi;omega
  have la:=ng (r.map N) (N x);have cl:=sJ (r.map N) (N x)
  have e1:rw' (r++[x])=nm (r.map N++[N x]):=by unfold rw';rw[List.map_append];rfl
  have ni:=nZ (N x) (r.map N);have dN:decide (N x∈r.map N)=decide (x∈r):=decide_eq_decide.mpr (gq r40 (by omega));rw[dN] at ni
  by_cases h1:x<m
  .have k1:=hd.at_ x hS h1
   have k2:=hx.at_ x h1
   by_cases h2:x∈r
   .refine⟨r,x,by omega,hxn,hS,hr,hup,fun _=>h2,fun f hf=>?_,fun f o hf=>⟨o,?_⟩⟩
    .obtain⟨f,rfl⟩:=fJ f (by omega)
     refine du ?_;unfold duC ρU;simp[e1,la,cl,cy,k2,ni,h2]
    .obtain⟨f,rfl⟩:=fJ f (by omega)
     have:(if fl&&!decide (x<m) then Fl.rt (dU (r++[x])) else .nx)=.nx:=by simp[h1]
     rw[this];refine du ?_;unfold raC ρA;simp[e1,la,cl,cy,k1,ni,h2]
   .obtain⟨r',x',a1,a2,a3,a4,a5,a6,a7,a8⟩:=ih (r++[x]) ((W x).headD 0) (by simp;omega) (by
      rw[List.nodup_append]
      exact⟨nd,by simp,fun a ha b hb=>by simp at hb;subst hb;exact fun q=>h2 (q ▸ ha)⟩) (fun i hi=>by
      rcases List.mem_append.mp hi with z|z
      .exact hr i z
      .rw[List.mem_singleton.mp z];exact h1) (lE w h1).1 (hd.cl x hS h1) (fun up i hi=>by
      have ux:=up x h1 _ (lE w h1).2
      rcases List.mem_append.mp hi with z|z
      .have:=hup up i z;omega
      .rw[List.mem_singleton.mp z];exact ux)
    have e2:rw' (r++[x])++[.str (N ((W x).headD 0))]=rw' (r++[x]++[(W x).headD 0]):=by unfold rw' nm;simp
    have z:(rw' (r++[x])).length<sizeLine:=by unfold rw';rw[cL,sz];simp;omega
    rw[e1] at z;refine⟨r',x',a1,a2,a3,a4,a5,a6,fun f hf=>?_,fun f o hf=>?_⟩
    .obtain⟨f,rfl⟩:=fJ f (by omega)
     have c:duC (ρU wd nE bk nx ns way (r++[x])) []=some (true,[]):=by
      unfold duC ρU;simp[e1,la,cl,cy,k2,ni,h2]
     have b:kJ (ρU wd nE bk nx ns way (r++[x])) []=some ((.nx,ρU wd nE bk nx ns way (r++[x]++[(W x).headD 0])),[]):=by
      unfold kJ ρU;rw[←e2,e1];simp[la,k2,z]
     rw[gT c b];exact a7 f (by omega)
    .obtain⟨f,rfl⟩:=fJ f (by omega)
     have c:raC (ρA ld nE' (r++[x]) o) []=some (true,[]):=by
      unfold raC ρA;simp[e1,la,cl,cy,k1,ni,h2]
     have b:eV (ρA ld nE' (r++[x]) o) []=some ((.nx,ρA ld nE' (r++[x]++[(W x).headD 0]) (some (.d (tlD bI (N ((W x).headD 0)))))),[]):=by
      unfold eV ρA;unfold lnK lfN lnD tlD bI at k1;rw[←e2,e1];simp[la,k1,at3,bg,z,tlD,bI]
     obtain⟨o',e⟩:=a8 f (some (.d (tlD bI (N ((W x).headD 0))))) (by omega);exact⟨o',by rw[gT c b];exact e⟩
  .have k1:=hd.xt x hS hxn h1
   have k2:=hx.xt x hxn h1;have h2:x∉r:=fun z=>h1 (hr x z);refine⟨r,x,by omega,hxn,hS,hr,hup,fun z=>absurd z h1,fun f hf=>?_,fun f o hf=>?_⟩
   .obtain⟨f,rfl⟩:=fJ f (by omega)
    refine du ?_;unfold duC ρU;simp[e1,la,cy,k2]
   .obtain⟨f,rfl⟩:=fJ f (by omega)
    cases hfl:fl with
    |false=>
     rw[hfl] at k1;refine⟨o,?_⟩;show _=some ((Fl.nx,_),[]);refine du ?_;unfold raC ρA;simp[e1,la,cy,k1]
    |true=>
     rw[hfl,if_pos rfl] at k1;refine⟨some (.d (tlD bO c6)),?_⟩
     have:(if true&&!decide (x<m) then Fl.rt (dU (r++[x])) else .nx)=.rt (dU (r++[x])):=by simp[h1]
     rw[this]
     refine ot (by
      unfold raC ρA
      simp[e1,la,cl,cy,k1,ni,h2]) ?_
     have tu:bY [.list (nm (r.map N++[N x]))]=some (.tuple (nm (r.map N++[N x]))):=rfl;unfold eV ρA;unfold lnX lnD tlD bO c6 at k1;unfold dU;rw[e1];simp[la,k1,at3,bg,tu,tlD,bO,c6]
end
@[simp] theorem IB{xs:List PyData}{i:Int}:ixA (.tuple xs) (.int i)=atI xs i:=rfl
@[simp] theorem Ho{ds:Dc}:aT [.dict ds]=some (.int ds.length):=rfl
theorem vQ:cS .int .dct=false:=rfl
theorem vM:cS .str .dct=false:=rfl
theorem vN:cS .str .bl=false:=rfl
theorem vL:cS .str .int=false:=rfl
theorem vR:cS .int .bl=false:=rfl
theorem vP:cS .int .int=true:=rfl
theorem jK:cS .str .str=true:=rfl
theorem jr(l:List PyData):cU [.list (l.map fun _=>.bool true)]=some (.bool true):=by
 rw[u3 (fun _=>true)];simp
inductive SV:Nat->PyData->Prop where
 |int {n:Nat}{i:Int}:SV n (.int i)
 |str {n:Nat}{x:Str}:SV n (.str x)
 |tup {n:Nat}{xs:List PyData}:xs.length<=1000->(∀d∈xs,SV n d)->SV (n+1) (.tuple xs)
theorem vg{n:Nat}{d:PyData}(h:SV n d):∀k T,n<k->dF k [.d d,.d d] T=some (.bool true,T):=by
 induction h with
 |int=>
  intro k T hk;obtain⟨k,rfl⟩:=fJ k (by omega);simp[dF,jJ,hV,isNone,vQ,vM,vN,vL,vR,vP,jK]
 |str=>
  intro k T hk;obtain⟨k,rfl⟩:=fJ k (by omega);simp[dF,jJ,hV,isNone,vQ,vM,vN,vL,vR,vP,jK]
 |tup hl hs ih=>
  rename_i n xs;intro k T hk;obtain⟨k,rfl⟩:=fJ k (by omega);have hr:=rng_ok (j:=(xs.length:Int)) (by omega) (by omega)
  have c:=c9 (e:=aB (dF k) (ae (af ixA (aa 1) (aa 0)) (ae (af ixA (aa 2) (aa 0)) ai))) (ρ:=[some (.d (.tuple xs)),some (.d (.tuple xs))]) (T:=T) (g:=fun _=>.bool true) (ds:=bc 0 xs.length) fun d hd=>by
   obtain⟨i,hi,rfl⟩:=List.mem_map.mp hd;have hi':=List.mem_range.mp hi;obtain⟨a,ha,hm⟩:=oo (xs:=xs) (i:=0+(i:Int)) (by omega) (by omega);have:=ih a hm k T (by omega);rw[Int.zero_add] at ha;simp[ha,this]
  have al:=jr (bc 0 xs.length);simp[dF,jJ,hV,hr,c,al]
def gU(z:String)(r:List Nat):PyData:=.tuple [.str (Str.ofString z),.tuple (rw' r)]
def wdD(bk:PyData)(nx:Dl)(n:Nat)(way:Int):PyData:=.list [bk,.dict (ao nx),.list (nm (nms n)),.int way]
inductive WayN(n m:Nat)(W:Nat->List Nat):Int->Bool->Prop where
 |fails:m+1=n->(∀k<m,∀t∈W k,k<t)->WayN n m W 1 true
 |ring:m=n->WayN n m W 2 false
 |lacks:m+1=n->(∀k<m,∀t∈W k,k<t)->WayN n m W 3 false
theorem De(r:List Nat):(rw' r).length=r.length:=by unfold rw';rw[cL,List.length_map]
theorem vt{k:Nat}{r:List Nat}(h:r.length<=1000):SV (k+1) (.tuple (rw' r)):=.tup (by rw[De];exact h) fun d hd=>by
 obtain⟨x,_,rfl⟩:=List.mem_map.mp hd;exact .str
theorem Bm{r:List Nat}(h:r.length<=1000):SV 2 (dU r):=.tup (show (3:Nat)<=1000 by decide) fun d hd=>by
 rcases List.mem_cons.mp hd with rfl|hd
 .exact .str
 .rcases List.mem_cons.mp hd with rfl|hd
  .exact vt h
  .rw[List.mem_singleton.mp hd];exact .str
theorem sP{z:String}{r:List Nat}(h:r.length<=1000):SV 2 (gU z r):=.tup (show (2:Nat)<=1000 by decide) fun d hd=>by
 rcases List.mem_cons.mp hd with rfl|hd
 .exact .str
 .rw[List.mem_singleton.mp hd];exact vt h
section
variable {n m:Nat}{W:Nat->List Nat}(w:Ws n m W){fl:Bool}{way:Int}(hw:WayN n m W way fl)
include hw in
theorem WayN.xm:fl=true->m<n:=fun h=>by
 cases hw with
 |fails h1 _=>omega
 |ring _=>cases h
 |lacks _ _=>cases h
include w hw in
theorem sC{S:Nat->Prop}{ld nx:Dl}(hd:LdOk n m W fl S ld)(hx:NxOk n m W nx){bk:PyData}{x:Nat}(hxn:x<n)(hS:S x):∃R,SV 2 R/\c7 [.d (wdD bk nx n way),.d (.str (N x))] []=some (R,[])/\eX [.d (.dict (ao ld)),.d (.str (N x))] []=some (R,[]):=by
 obtain⟨r,y,a1,a2,a3,a4,a5,a6,a7,a8⟩:=both_rows w hd hx (wd:=wdD bk nx n way) (nE:=.str (N x)) (bk:=bk) (ns:=.list (nm (nms n))) (nE':=.str (N x)) (way:=way) 50 [] x (by simp) List.nodup_nil (fun _ z=>nomatch z) hxn hS (fun _ _ z=>nomatch z);have e1:=a7 100000 (by omega);obtain⟨o',e2⟩:=a8 100000 none (by omega);rw[List.nil_append] at e1 e2
 have rl:(r++[y]).length<=1000:=by simp;omega
 have tu:bY [.list (rw' (r++[y]))]=some (.tuple (rw' (r++[y]))):=rfl
 have la:atI (rw' (r++[y])) (-1)=some (.str (N y)):=by
  have:=ng (r.map N) (N y)
  have e:rw' (r++[y])=nm (r.map N++[N y]):=by unfold rw';rw[List.map_append];rfl
  rw[e];exact this
 have x0:rw' [x]=[.str (N x)]:=rfl
 have D1:∀{R:PyData},bP (aj (fIf (aD (af eqD (aa 5) (fC (.int 1)))) (ax (aE .tuple (ae (fC (.str "fails")) (ae (fCB bY (ae (aa 6) ai)) (ae (fC (.str "part")) ai))))) aH) (ax (af ixD (aE .list (ae (aE .tuple (ae (fC (.str "lacks")) (ae (fCB bY (ae (aa 6) ai)) ai))) (ae (aE .tuple (ae (fC (.str "ring")) (ae (fCB bY (ae (aa 6) ai)) ai))) ai))) (fCB intD (ae (af eqD (aa 5) (fC (.int 2))) ai)))) (ρU (wdD bk nx n way) (.str (N x)) bk nx (.list (nm (nms n))) way (r++[y])) [])=some (R,[])->way≠0->c7 [.d (wdD bk nx n way),.d (.str (N x))] []=some (R,[]):=fun {R} h h0=>by
  rw[si,dX];simp only[dj,dq,if_true];show bP (aj _ _ [some (.d (wdD bk nx n way)),some (.d (.str (N x))),none,none,none,none,none] [])=_;rw[aP (ρ1:=[some (.d (wdD bk nx n way)),some (.d (.str (N x))),some (.d bk),some (.d (.dict (ao nx))),some (.d (.list (nm (nms n)))),some (.d (.int way)),none]) (T1:=[]) (by rfl)];rw[aP (ρ1:=[some (.d (wdD bk nx n way)),some (.d (.str (N x))),some (.d bk),some (.d (.dict (ao nx))),some (.d (.list (nm (nms n)))),some (.d (.int way)),none]) (T1:=[]) (by simp[h0])];rw[aP (ρ1:=ρU (wdD bk nx n way) (.str (N x)) bk nx (.list (nm (nms n))) way [x]) (T1:=[]) (by rfl)];unfold duC at e1;rw[aP e1];exact h
 have D2:eX [.d (.dict (ao ld)),.d (.str (N x))] []=bP (aj (bv raC eV 100000) (ax (aE .tuple (ae (cI (aD (af inA (af ixD (aa 2) (fUn bf (fC (.int 1)))) (aa 0))) (fC (.str "ring")) (fC (.str "lacks"))) (ae (fCB bY (ae (aa 2) ai)) ai)))) (ρA ld (.str (N x)) [x] none) []):=by
  rw[pH,dX];simp only[dj,dq,if_true];show bP (aj _ _ [some (.d (.dict (ao ld))),some (.d (.str (N x))),none,none] [])=_;rw[aP (ρ1:=ρA ld (.str (N x)) [x] none) (T1:=[]) (by rfl)];rfl
 rw[D2]
 cases hw with
 |fails h1 up=>
  have hy:¬y<m:=fun z=>Nat.lt_irrefl _ (a5 up y (a6 z));refine⟨dU (r++[y]),Bm rl,D1 ?_ (by decide),?_⟩
  .unfold ρU dU bO c6
   simp[tu]
  .have:(if true&&!decide (y<m) then Fl.rt (dU (r++[y])) else .nx)=.rt (dU (r++[y])):=by simp[hy]
   rw[this] at e2;rw[iD,e2];rfl
 |ring h1=>
  have hy:y<m:=by omega
  have k1:=hd.at_ y a3 hy;have:(if false&&!decide (y<m) then Fl.rt (dU (r++[y])) else .nx)=.nx:=rfl;rw[this] at e2;refine⟨gU "ring" (r++[y]),sP rl,D1 ?_ (by decide),?_⟩
  .unfold ρU gU
   simp[tu,n8,bg]
  .rw[aP e2]
   unfold ρA gU;simp[tu,la,cy,k1]
 |lacks h1 up=>
  have hy:¬y<m:=fun z=>Nat.lt_irrefl _ (a5 up y (a6 z));have k1:=hd.xt y a3 a2 hy;have:(if false&&!decide (y<m) then Fl.rt (dU (r++[y])) else .nx)=.nx:=rfl;rw[this] at e2;refine⟨gU "lacks" (r++[y]),sP rl,D1 ?_ (by decide),?_⟩
  .unfold ρU gU
   simp[tu,n8,bg]
  .rw[aP e2]
   unfold ρA gU;simp[tu,la,cy,k1]
end
theorem vb{l:List Str}:(dd l).length=l.length↔l.Nodup:=by
 constructor
 .intro h
  by_cases z:l.Nodup
  .exact z
  .exfalso
   have:∀l:List Str,¬l.Nodup->∃k:List Str,k.length<l.length/\∀x∈l,x∈k:=by
    intro l
    induction l with
    |nil=>intro h;exact absurd List.nodup_nil h
    |cons a r ih=>
     intro h;rw[List.nodup_cons] at h
     by_cases ha:a∈r
     .exact⟨r,by simp,fun x hx=>by
       rcases List.mem_cons.mp hx with rfl|z
       .exact ha
       .exact z⟩
     .obtain⟨k,hk,hm⟩:=ih fun z=>h ⟨ha,z⟩
      exact⟨a::k,by simp;omega,fun x hx=>by
       rcases List.mem_cons.mp hx with rfl|z
       .exact List.mem_cons_self
       .exact List.mem_cons_of_mem _ (hm x z)⟩
   obtain⟨k,hk,hm⟩:=this l z;have:=cY (lG l) (N:=k) fun x hx=>hm x (dd_mem.mp hx);omega
 .intro h
  have a:=cY (lG l) (N:=l) fun x hx=>dd_mem.mp hx;have b:=cY h (N:=dd l) fun x hx=>dd_mem.mpr hx;omega
theorem tO{l:List Str}(h:l.length<1000):f9 (.list (nm l))=some (.int (dd l).length):=by
 have s:de (nm l)=some l:=by have:=l6 (fun x:Str=>x) l;simpa[nm] using this
 unfold f9;dsimp only;rw[s];dsimp only;rw[if_pos h]
theorem zg:ff [.d (.str c6)] []=some (.bool true,[]):=nV (by decide +kernel)
theorem Gy:inD (.str "fails") (.tuple [.str "fails",.str "wants"])=some (.bool true):=rfl
theorem Gx:inD (.str "wants") (.tuple [.str "fails",.str "wants"])=some (.bool true):=rfl
theorem iK:cS .tup .tup=true:=rfl
theorem vO:cS .lst .lst=true:=rfl
theorem B4{k:Nat}(h:k<40):eK [.d (tlD bI (N k))] []=some (.bool true,[]):=by
 have:=lu h;unfold tlD bI;simp[eK,bg,Gx,this,iK,jK]
theorem B6:eK [.d (tlD bO c6)] []=some (.bool true,[]):=by
 have:=zg;unfold tlD bO;simp[eK,bg,Gy,this,iK,jK]
theorem B5:eK [.d (tlD bx ST)] []=some (.bool true,[]):=by
 have:=v7;unfold tlD bx;simp[eK,bg,this,iK,jK]
theorem Bf{l:List Nat}(h:∀t∈l,t<40)(hl:l.length<=12):j7 [.d (.tuple (Rd (rsA l)))] []=some (.bool true,[]):=by
 have c:=c9 (e:=aB kr (ae (aa 0) ai)) (ρ:=[some (.d (.tuple (Rd (rsA l))))]) (T:=[]) (g:=fun _=>.bool true) (ds:=Rd (rsA l)) fun d hd=>by
  obtain⟨p,hp,rfl⟩:=List.mem_map.mp hd;obtain⟨t,ht,rfl⟩:=List.mem_map.mp hp;have a:=lu (h t ht);have b:=v7;simp[kr,bg,a,b,iK]
 have al:=jr (Rd (rsA l))
 have ln:(Rd (rsA l)).length<=12:=by rw[Dh];simpa[rsA] using hl
 have ln':¬(12:Int)<((Rd (rsA l)).length:Int):=by omega
 have ln2:¬12<(Rd (rsA l)).length:=by omega
 simp[j7,c,al,iK,ln',ln2]
theorem D9{x:Str}{l:List Nat}{a b:Str}(hx:ff [.d (.str x)] []=some (.bool true,[]))(h:∀t∈l,t<40)(hl:l.length<=12)(he:eK [.d (tlD a b)] []=some (.bool true,[])):i8 [.d (lnD x (rsA l) a b)] []=some (.bool true,[]):=by
 have r:=Bf h hl;unfold lnD;simp[i8,at3,hx,r,he,iK]
def lnI(n m:Nat)(lf:Lf)(k:Nat):PyData:=if k<m then lnK lf k else lnX n
def inH(n m:Nat)(fl:Bool)(k:Nat):Prop:=k<m\/(fl=true/\k=n-1)
def bkT(g r:Dl):PyData:=.tuple [.dict (ao g),.dict (ao r)]
structure Bo(n m:Nat)(lf:Lf)(fl:Bool)(g r:Dl):Prop where
 n2:2<=n
 n40:n<=40
 mn:m<=n
 xm:fl=true->m<n
 ln:∀k,inH n m fl k->∃l a b,lnI n m lf k=lnD (N k) (rsA l) a b/\(∀t∈l,t<40)/\l.length<=12/\eK [.d (tlD a b)] []=some (.bool true,[])
 so:∀k,inH n m fl k->eJ [.d (bkT g r),.d (.str (N k))] []=some (.str "made",[])
 ri:∀k,inH n m fl k->∃c,aO (ao r) (N k)=some c/\e8 [.d c,.d (lnI n m lf k)] []=some (.bool true,[])
section
variable {n m:Nat}{lf:Lf}{fl:Bool}{g r:Dl}(B:Bo n m lf fl g r){q:List Nat}(hq:∀k∈q,inH n m fl k)(ql:q.length<=100)
include B in
theorem dM{k:Nat}(h:inH n m fl k):k<n:=by
 have:=B.n2;have:=B.mn
 rcases h with h|⟨_,h⟩ <;> omega
include B hq ql in
theorem rN:ke [.d (.list (q.map (lnI n m lf)))] []=some (.bool true,[]):=by
 have n40:=B.n40
 have c:=c9 (e:=aB i8 (ae (aa 0) ai)) (ρ:=[some (.d (.list (q.map (lnI n m lf))))]) (T:=[]) (g:=fun _=>.bool true) (ds:=q.map (lnI n m lf)) fun d hd=>by
  obtain⟨k,hk,rfl⟩:=List.mem_map.mp hd;obtain⟨l,a,b,e,h1,h2,h3⟩:=B.ln k (hq k hk);have:=D9 (lu (k:=k) (by have:=dM B (hq k hk);omega)) h1 h2 h3;rw[e];simp[this]
 have al:=jr (q.map (lnI n m lf))
 have z:((q.map (lnI n m lf)).length:Int)<=100:=by rw[List.length_map];omega
 have z2:(q.map (lnI n m lf)).length<=100:=by rw[List.length_map];omega
 generalize q.map (lnI n m lf)=P at *;simp[ke,c,al,vO,z,z2]
include B hq in
theorem mC{ρ:Rho}:cH bq (af ixD (aa 0) (fC (.int 0))) ρ (q.map (lnI n m lf)) []=some (nm (q.map N),[]):=by
 rw[c9 (g:=fun d=>match d with | .tuple (a::_)=>a|_=>.none) fun d hd=>by
  obtain⟨k,hk,rfl⟩:=List.mem_map.mp hd;obtain⟨l,a,b,e,_⟩:=B.ln k (hq k hk);rw[e]
  simp[lnD,at3]]
 congr 2
 unfold nm;rw[List.map_map,List.map_map];refine List.map_congr_left fun k hk=>?_;obtain⟨l,a,b,e,_⟩:=B.ln k (hq k hk);show (match lnI n m lf k with | .tuple (a::_)=>a|_=>.none)=PyData.str (N k);rw[e];rfl
theorem k8(h40:∀k∈q,k<40):(q.map N).Nodup↔q.Nodup:=by
 constructor
 .intro h
  rw[List.nodup_iff_pairwise_ne,List.pairwise_map] at h;rw[List.nodup_iff_pairwise_ne];exact h.imp fun {a b} z e=>z (congrArg N e)
 .intro h
  rw[List.nodup_iff_pairwise_ne,List.pairwise_map];exact List.Pairwise.imp_of_mem (fun {a b} ha hb z e=>z (eS a (h40 a ha) b (h40 b hb) e)) h
include B hq ql in
theorem um:iW [.d (bkT g r),.d (.list (q.map (lnI n m lf)))] []=some (.bool (decide q.Nodup),[]):=by
 have n40:=B.n40
 have h40:∀k∈q,k<40:=fun k hk=>by have:=dM B (hq k hk);omega
 have c:=c9 (e:=af eqD (aB eJ (ae (aa 1) (ae (aa 0) ai))) (fC (.str "made"))) (ρ:=[some (.d (bkT g r)),some (.d (.list (q.map (lnI n m lf)))),some (.d (.list (nm (q.map N))))]) (T:=[]) (g:=fun _=>.bool true) (ds:=nm (q.map N)) fun d hd=>by
  obtain⟨x,hx,rfl⟩:=List.mem_map.mp hd;obtain⟨k,hk,rfl⟩:=List.mem_map.mp hx;have:=B.so k (hq k hk);simp[this]
 have al:=jr (nm (q.map N));have ls:=tO (l:=q.map N) (by rw[List.length_map];omega);have nf:=fun ρ=>mC B hq (ρ:=ρ);have dl:=vb (l:=q.map N);rw[k8 h40,List.length_map] at dl
 by_cases h:q.Nodup
 .have e:=dl.mpr h
  have e2:decide q.Nodup=true:=decide_eq_true h;rw[e2];simp[iW,nf,ls,c,al,cL,e]
 .have e:¬(dd (q.map N)).length=q.length:=fun z=>h (dl.mp z)
  have e2:decide q.Nodup=false:=decide_eq_false h;rw[e2]
  have e3:¬((dd (q.map N)).length:Int)=(q.length:Int):=by omega
  simp[iW,nf,ls,cL,e,e3]
include B hq in
theorem zb{ρ:Rho}{o1:Option D.W}:cH bq (aB e8 (ae (af ixA (af ixD (aa 1) (fC (.int 1))) (af ixD (aa 0) (fC (.int 0)))) (ae (aa 0) ai))) (some (.d (bkT g r))::o1::ρ) (q.map (lnI n m lf)) []=some ((q.map (lnI n m lf)).map fun _=>.bool true,[]):=c9 (g:=fun _=>.bool true) fun d hd=>by
 obtain⟨k,hk,rfl⟩:=List.mem_map.mp hd;obtain⟨l,a,b,e,_⟩:=B.ln k (hq k hk);obtain⟨c,kc,h⟩:=B.ri k (hq k hk);rw[e] at h ⊢;have h0:ixD (lnD (N k) (rsA l) a b) (.int 0)=some (.str (N k)):=rfl;generalize lnD (N k) (rsA l) a b=D0 at *;unfold bkT;simp[h0,bg,kc,h]
include B hq ql in
theorem sg(h:¬q.Nodup):cb [.d (bkT g r),.d (.list (q.map (lnI n m lf)))] []=some (.bool false,[]):=by
 have a:=rN B hq ql;have b:=um B hq ql;rw[decide_eq_false h] at b;simp[cb,a,b]
include B hq ql in
theorem tN(h:q.Nodup){sh en:Bool}{ed:Dl}(h1:h9 [.d (bkT g r),.d (.list (q.map (lnI n m lf)))] []=some (.bool sh,[]))(h2:i7 [.d (.list (q.map (lnI n m lf)))] []=some (.dict (ao ed),[]))(h3:sh=true->∀k∈q,∀l a b,lnI n m lf k=lnD (N k) (rsA l) a b->d7 [.d (bkT g r),.d (.dict (ao ed)),.d (tlD a b)] []=some (.bool true,[])):cb [.d (bkT g r),.d (.list (q.map (lnI n m lf)))] []=some (.bool sh,[]):=by
 have a:=rN B hq ql;have b:=um B hq ql;rw[decide_eq_true h] at b;have c:=fun ρ o1=>zb B hq (ρ:=ρ) (o1:=o1);have al:=jr (q.map (lnI n m lf))
 cases sh with
 |false=>
  generalize q.map (lnI n m lf)=P at *;simp[cb,a,b,c,al,h1,h2]
 |true=>
  have d:=c9 (e:=aB d7 (ae (aa 1) (ae (aa 3) (ae (af ixD (aa 0) (fC (.int 2))) ai)))) (ρ:=[some (.d (bkT g r)),some (.d (.list (q.map (lnI n m lf)))),some (.d (.dict (ao ed)))]) (T:=[]) (g:=fun _=>.bool true) (ds:=q.map (lnI n m lf)) fun d hd=>by
   obtain⟨k,hk,rfl⟩:=List.mem_map.mp hd;obtain⟨l,a,b,e,_⟩:=B.ln k (hq k hk);have:=h3 rfl k hk l a b e;rw[e];unfold lnD;simp[at3,this]
  generalize q.map (lnI n m lf)=P at *;simp[cb,a,b,c,al,h1,h2,d]
end
def mD(f:Nat->PyData)(A:List Nat):Dl:=A.map fun k=>(N k,f k)
theorem oB(f:Nat->PyData)(A:List Nat):ky (mD f A)=A.map N:=by
 unfold ky mD;rw[List.map_map];rfl
theorem fD{f:Nat->PyData}(A:List Nat)(hA:∀x∈A,x<40){t:Nat}(ht:t<40):aO (ao (mD f A)) (N t)=if t∈A then some (f t) else none:=by
 rw[cw]
 induction A with
 |nil=>rfl
 |cons a r ih=>
  have ih:=ih fun x hx=>hA x (List.mem_cons_of_mem _ hx);show List.lookup (N t) ((N a,f a)::mD f r)=_;rw[List.lookup_cons,ih]
  by_cases h:t=a
  .subst h;simp
  .have:(N t == N a)=false:=beq_eq_false_iff_ne.mpr fun z=>h (eS t ht a (hA a List.mem_cons_self) z)
   simp[this,h]
theorem n4{f:Nat->PyData}{A:List Nat}(hA:∀x∈A,x<40){k:Nat}(hk:k<40)(hn:k∉A):putL (mD f A) (N k) (f k)=mD f (A++[k]):=by
 unfold putL;rw[if_neg (by rw[oB,gq hA hk];exact hn)];simp[mD]
theorem jw(f:Nat->PyData)(A:List Nat):(ao (mD f A)).length=A.length:=by rw[eg];unfold mD;rw[List.length_map]
def enI(m:Nat)(lf:Lf)(k:Nat):PyData:=if k<m then tlD (lf k).2.1 (lf k).2.2 else tlD bO c6
def rsI(m:Nat)(lf:Lf)(k:Nat):List SS:=if k<m then (lf k).1 else []
section
variable {n m:Nat}{lf:Lf}{fl:Bool}{g r:Dl}(B:Bo n m lf fl g r)
theorem oF{k:Nat}(h:inH n m fl k):ixD (lnI n m lf k) (.int 0)=some (.str (N k)):=by
 unfold lnI;split
 .rfl
 .rename_i z
  rcases h with h|⟨_,h⟩
  .exact absurd h z
  .rw[h];rfl
theorem oE{k:Nat}:ixD (lnI n m lf k) (.int 1)=some (.tuple (Rd (rsI m lf k))):=by
 unfold lnI rsI
 split <;> rfl
theorem vI{k:Nat}:ixD (lnI n m lf k) (.int 2)=some (enI m lf k):=by
 unfold lnI enI
 split <;> rfl
include B in
theorem sW{P:PyData}:∀(q A:List Nat) (o2:Option D.W),(∀k∈A,inH n m fl k)->(∀k∈q,inH n m fl k)->(A++q).Nodup->A.length+q.length<=900 ->
  ∃p2,forL 2 i3 (q.map (lnI n m lf)) [some (.d P),some (.loc (.dict (ao (mD (enI m lf) A)))),o2] []=some ((.nx,[some (.d P),some (.loc (.dict (ao (mD (enI m lf) (A++q))))),p2]),[])
 |[],A,o2,_,_,_,_=>⟨o2,by rw[List.append_nil];rfl⟩
 |k::q,A,o2,hA,hq,nd,hl=>by
  rw[List.length_cons] at hl;have n40:=B.n40
  have h40:∀x∈A,x<40:=fun x hx=>by have:=dM B (hA x hx);omega
  have hk:=hq k List.mem_cons_self;have k40:=dM B hk
  have hn:k∉A:=fun z=>by
   rw[List.nodup_append] at nd;exact nd.2.2 k z k List.mem_cons_self rfl
  have e0:=oF (lf:=lf) hk;have e2:=vI (n:=n) (m:=m) (lf:=lf) (k:=k)
  have zl:(ao (mD (enI m lf) A)).length<=1000:=by rw[jw];omega
  have pt:=n4 (f:=enI m lf) h40 (k:=k) (by omega) hn
  obtain⟨p2,e⟩:=sW (P:=P) q (A++[k]) (some (.d (lnI n m lf k))) (fun x hx=>by
   rcases List.mem_append.mp hx with z|z
   .exact hA x z
   .rw[List.mem_singleton.mp z];exact hk) (fun x hx=>hq x (List.mem_cons_of_mem _ hx)) (by rw[List.append_assoc];exact nd) (by simp;omega)
  refine⟨p2,?_⟩;show forL 2 i3 (lnI n m lf k::q.map (lnI n m lf)) _ _=_;unfold forL;simp only[List.set_cons_succ,List.set_cons_zero]
  have bd:i3 [some (.d P),some (.loc (.dict (ao (mD (enI m lf) A)))),some (.d (lnI n m lf k))] []=some ((.nx,[some (.d P),some (.loc (.dict (ao (mD (enI m lf) (A++[k]))))),some (.d (lnI n m lf k))]),[]):=by
   unfold i3;simp[e0,e2,zl,cK,pt]
  rw[bd];refine Eq.trans e ?_;rw[List.append_assoc];rfl
include B in
theorem rM{q:List Nat}(hq:∀k∈q,inH n m fl k)(nd:q.Nodup)(hl:q.length<=900):i7 [.d (.list (q.map (lnI n m lf)))] []=some (.dict (ao (mD (enI m lf) q)),[]):=by
 obtain⟨p2,e⟩:=sW B (P:=.list (q.map (lnI n m lf))) q [] none (fun _ z=>nomatch z) hq (by simpa using nd) (by simpa using hl);have d0:ao (mD (enI m lf) [])=[]:=rfl;rw[d0,List.nil_append] at e;rw[xG];simp;rw[e];simp[fu]
include B in
theorem tQ{P:PyData}:∀(q A:List Nat) (o2:Option D.W),(∀k∈A,inH n m fl k)->(∀k∈q,inH n m fl k)->(A++q).Nodup->A.length+q.length<=900 ->
  ∃p2,forL 2 iV (q.map (lnI n m lf)) [some (.d P),some (.loc (.dict (ao (mD (lnI n m lf) A)))),o2] []=some ((.nx,[some (.d P),some (.loc (.dict (ao (mD (lnI n m lf) (A++q))))),p2]),[])
 |[],A,o2,_,_,_,_=>⟨o2,by rw[List.append_nil];rfl⟩
 |k::q,A,o2,hA,hq,nd,hl=>by
  rw[List.length_cons] at hl;have n40:=B.n40
  have h40:∀x∈A,x<40:=fun x hx=>by have:=dM B (hA x hx);omega
  have hk:=hq k List.mem_cons_self;have k40:=dM B hk
  have hn:k∉A:=fun z=>by
   rw[List.nodup_append] at nd;exact nd.2.2 k z k List.mem_cons_self rfl
  have e0:=oF (lf:=lf) hk
  have zl:(ao (mD (lnI n m lf) A)).length<=1000:=by rw[jw];omega
  have pt:=n4 (f:=lnI n m lf) h40 (k:=k) (by omega) hn
  obtain⟨p2,e⟩:=tQ (P:=P) q (A++[k]) (some (.d (lnI n m lf k))) (fun x hx=>by
   rcases List.mem_append.mp hx with z|z
   .exact hA x z
   .rw[List.mem_singleton.mp z];exact hk) (fun x hx=>hq x (List.mem_cons_of_mem _ hx)) (by rw[List.append_assoc];exact nd) (by simp;omega)
  refine⟨p2,?_⟩;show forL 2 iV (lnI n m lf k::q.map (lnI n m lf)) _ _=_;unfold forL;simp only[List.set_cons_succ,List.set_cons_zero]
  have bd:iV [some (.d P),some (.loc (.dict (ao (mD (lnI n m lf) A)))),some (.d (lnI n m lf k))] []=some ((.nx,[some (.d P),some (.loc (.dict (ao (mD (lnI n m lf) (A++[k]))))),some (.d (lnI n m lf k))]),[]):=by
   unfold iV;simp[e0,zl,cK,pt]
  rw[bd];refine Eq.trans e ?_;rw[List.append_assoc];rfl
include B in
theorem zY{q:List Nat}(hq:∀k∈q,inH n m fl k)(nd:q.Nodup)(hl:q.length<=900):jZ [.d (.list (q.map (lnI n m lf)))] []=some (.dict (ao (mD (lnI n m lf) q)),[]):=by
 obtain⟨p2,e⟩:=tQ B (P:=.list (q.map (lnI n m lf))) q [] none (fun _ z=>nomatch z) hq (by simpa using nd) (by simpa using hl);have d0:ao (mD (lnI n m lf) [])=[]:=rfl;rw[d0,List.nil_append] at e;rw[wX];simp;rw[e];simp[fu]
def shB(lk:Nat->List Nat):List Nat->List Nat->Bool
 |_,[]=>true
 |laid,k::q=>(lk k).all (fun t=>decide (t∈laid))&&shB lk (laid++[k]) q
theorem GH(o:Option PyData)(h:o=none\/o=some (tlD bx ST)):eqG (o.getD .none) (.tuple [.str "made",.str ST])=some (.bool o.isSome):=by
 rcases h with rfl|rfl
 .show (if _ then some (PyData.bool (PyData.eqv .none (.tuple [.str "made",.str ST]))) else _)=_
  rw[if_pos (by decide +kernel)];exact congrArg (fun b=>some (PyData.bool b)) (by decide +kernel)
 .show (if _ then _ else _)=_
  rw[if_pos (by decide +kernel)];rfl
def ρS(b P:PyData)(ah:Dl)(o3 o4 o5:Option D.W):Rho:=[some (.d b),some (.d P),some (.loc (.dict (ao ah))),o3,o4,o5]
variable {lk:Nat->List Nat}(hlk:∀k,inH n m fl k->rsI m lf k=rsA (lk k)/\(∀t∈lk k,t<n)){ea:Nat->PyData}(hea:∀k,inH n m fl k->ea k=enI m lf k)(hem:∀k,inH n m fl k->∀t∈lk k,ea t=tlD bx ST)
include B hlk hea hem in
theorem nB{b P:PyData}{o3 o4:Option D.W}:∀(q laid:List Nat) (o5:Option D.W),(∀k∈laid,k<n)->(∀k∈q,inH n m fl k)->(laid++q).Nodup->laid.length+q.length<=900 ->
  ∃ρ',forL 5 dD (q.map (lnI n m lf)) (ρS b P (mD ea laid) o3 o4 o5) []=some ((if shB lk laid q then .nx else .rt (.bool false),ρ'),[])
 |[],laid,o5,_,_,_,_=>⟨_,rfl⟩
 |k::q,laid,o5,hA,hq,nd,hl=>by
  rw[List.length_cons] at hl;have n40:=B.n40
  have h40:∀x∈laid,x<40:=fun x hx=>by have:=hA x hx;omega
  have hk:=hq k List.mem_cons_self;have k40:=dM B hk;obtain⟨l1,l2⟩:=hlk k hk
  have hn:k∉laid:=fun z=>by
   rw[List.nodup_append] at nd;exact nd.2.2 k z k List.mem_cons_self rfl
  have e0:=oF (lf:=lf) hk;have e1:=oE (n:=n) (m:=m) (lf:=lf) (k:=k);have e2:=vI (n:=n) (m:=m) (lf:=lf) (k:=k);rw[l1] at e1
  have zl:(ao (mD ea laid)).length<=1000:=by rw[jw];omega
  have pt:=n4 (f:=ea) h40 (k:=k) (by omega) hn;rw[hea k hk] at pt
  have c:=c9 (e:=af eqG (jO (aa 3) (af ixD (aa 0) (fC (.int 0)))) (aE .tuple (ae (fC (.str "made")) (ae (af ixD (aa 0) (fC (.int 1))) ai)))) (ρ:=ρS b P (mD ea laid) o3 o4 (some (.d (lnI n m lf k)))) (T:=[]) (g:=fun d=>match d with | .tuple [.str x,_]=>.bool (aO (ao (mD ea laid)) x).isSome|_=>.none) (ds:=Rd (rsA (lk k))) fun d hd=>by
   obtain⟨p,hp,rfl⟩:=List.mem_map.mp hd;obtain⟨t,ht,rfl⟩:=List.mem_map.mp hp;have kt:=fD (f:=ea) laid h40 (t:=t) (by have:=l2 t ht;omega)
   have eq:=GH (aO (ao (mD ea laid)) (N t)) (by
    rw[kt];split
    .exact .inr (by rw[hem k hk t ht])
    .exact .inl rfl)
   have gt:jO (aa 3) (af ixD (aa 0) (fC (.int 0))) (some (.d (.tuple [.str (N t),.str ST]))::ρS b P (mD ea laid) o3 o4 (some (.d (lnI n m lf k)))) []=some (.d ((aO (ao (mD ea laid)) (N t)).getD .none),[]):=rfl;simp only[uZ,gt,cD];simp[bg,eq]
  have al:cU [.list ((Rd (rsA (lk k))).map fun d=>match d with | .tuple [.str x,_]=>.bool (aO (ao (mD ea laid)) x).isSome|_=>.none)]=some (.bool ((lk k).all fun t=>decide (t∈laid))):=by
   have:((Rd (rsA (lk k))).map fun d=>match d with | .tuple [.str x,_]=>PyData.bool (aO (ao (mD ea laid)) x).isSome|_=>.none)=(lk k).map fun t=>.bool (decide (t∈laid)):=by
    unfold Rd rsA;rw[List.map_map,List.map_map];refine List.map_congr_left fun t ht=>?_;show PyData.bool (aO (ao (mD ea laid)) (N t)).isSome=_;rw[fD (f:=ea) laid h40 (t:=t) (by have:=l2 t ht;omega)]
    by_cases z:t∈laid <;> simp[z]
   rw[this,u3]
  show ∃ρ',forL 5 dD (lnI n m lf k::q.map (lnI n m lf)) _ _=_;unfold forL shB
  cases hc:(lk k).all fun t=>decide (t∈laid) with
  |false=>
   rw[hc] at al;refine⟨ρS b P (mD ea laid) o3 o4 (some (.d (lnI n m lf k))),?_⟩
   have bd:dD ((ρS b P (mD ea laid) o3 o4 o5).set 5 (some (.d (lnI n m lf k)))) []=some ((.rt (.bool false),ρS b P (mD ea laid) o3 o4 (some (.d (lnI n m lf k)))),[]):=by
    unfold ρS at c ⊢;unfold dD;simp[e1,c,al]
   rw[bd];rfl
  |true=>
   rw[hc] at al
   have bd:dD ((ρS b P (mD ea laid) o3 o4 o5).set 5 (some (.d (lnI n m lf k)))) []=some ((.nx,ρS b P (mD ea (laid++[k])) o3 o4 (some (.d (lnI n m lf k)))),[]):=by
    unfold ρS at c ⊢;unfold dD;simp[e1,c,al,e0,e2,zl,cK,pt]
   obtain⟨ρ',e⟩:=nB (b:=b) (P:=P) (o3:=o3) (o4:=o4) q (laid++[k]) (some (.d (lnI n m lf k))) (fun x hx=>by
    rcases List.mem_append.mp hx with z|z
    .exact hA x z
    .rw[List.mem_singleton.mp z];exact k40) (fun x hx=>hq x (List.mem_cons_of_mem _ hx)) (by rw[List.append_assoc];exact nd) (by simp;omega)
   refine⟨ρ',?_⟩;rw[bd,Bool.true_and];exact e
end
def wK:Str:=Str.ofString "want"
def pK:Str:=Str.ofString "peek"
def dW(a b:PyData):PyData:=.dict [(.str wK,a),(.str pK,b)]
def ρF(r:PyData)(all:List Nat)(i:Nat)(s:PyData)(o7 o8:Option D.W):Rho:=[some (.d r),some (.d (.list (all.map rdV))),some (.d (.list [])),some (.loc (dW (.list (all.map rdV)) (.list []))),some (.loc (dW (.int i) (.int 0))),some (.loc (.list (List.replicate i V))),some (.d s),o7,o8]
def foC:FT:=(aD (af et (af ixD (aa 6) (fC (.int 0))) (aa 3)))
theorem kw{a b:PyData}:aO [(.str wK,a),(.str pK,b)] wK=some a:=by
 show (if wK=wK then some a else _)=_;rw[if_pos rfl]
theorem km{a b:PyData}:aO [(.str wK,a),(.str pK,b)] bx=none:=by
 have h1:¬wK=bx:=by decide +kernel
 have h2:¬pK=bx:=by decide +kernel
 show (if wK=bx then some a else if pK=bx then some b else none)=_;rw[if_neg h1,if_neg h2]
theorem kf'{a b:PyData}:aO [(.str wK,a),(.str pK,b)] bO=none:=by
 have h1:¬wK=bO:=by decide +kernel
 have h2:¬pK=bO:=by decide +kernel
 show (if wK=bO then some a else if pK=bO then some b else none)=_;rw[if_neg h1,if_neg h2]
theorem pw{a b c:PyData}:cW [(.str wK,a),(.str pK,b)] wK c=[(.str wK,c),(.str pK,b)]:=by
 have h2:¬pK=wK:=by decide +kernel
 show (if wK=wK then (PyData.str wK,c)::cW [(.str pK,b)] wK c else _)=_;rw[if_pos rfl];show (PyData.str wK,c)::(if pK=wK then _ else (PyData.str pK,b)::cW [] wK c)=_;rw[if_neg h2];rfl
section
variable {r:PyData}{all:List Nat}{i:Nat}{o7 o8:Option D.W}
theorem wI{t:Nat}{x:PyData}:foC (ρF r all i (WS t x) o7 o8) []=some (true,[]):=by
 have e:af ixD (aa 6) (fC (.int 0)) (ρF r all i (WS t x) o7 o8) []=some (.d (.str wK),[]):=rfl
 have e2:op2 et [] (.d (.str wK)) (.loc (dW (.list (all.map rdV)) (.list [])))=some (.d (.bool true),[]):=by
  show mkD [] (some (.bool (aO [(.str wK,.list (all.map rdV)),(.str pK,.list [])] wK).isSome))=_;rw[kw];rfl
 unfold foC;rw[Eh,uZ,e,cD];show bnd (op2 et [] (.d (.str wK)) (.loc (dW (.list (all.map rdV)) (.list [])))) jT=_;rw[e2];rfl
theorem GE:foC (ρF r all i MV o7 o8) []=some (false,[]):=by
 have e2:op2 et [] (.d (.str bx)) (.loc (dW (.list (all.map rdV)) (.list [])))=some (.d (.bool false),[]):=by
  show mkD [] (some (.bool (aO [(.str wK,.list (all.map rdV)),(.str pK,.list [])] bx).isSome))=_;rw[km];rfl
 show bnd (op2 et [] (.d (.str bx)) (.loc (dW (.list (all.map rdV)) (.list [])))) jT=_;rw[e2];rfl
theorem GF:foC (ρF r all i FP o7 o8) []=some (false,[]):=by
 have e2:op2 et [] (.d (.str bO)) (.loc (dW (.list (all.map rdV)) (.list [])))=some (.d (.bool false),[]):=by
  show mkD [] (some (.bool (aO [(.str wK,.list (all.map rdV)),(.str pK,.list [])] bO).isSome))=_;rw[kf'];rfl
 show bnd (op2 et [] (.d (.str bO)) (.loc (dW (.list (all.map rdV)) (.list [])))) jT=_;rw[e2];rfl
theorem Cj{t:Nat}{x:PyData}(hi:i=all.length):∃ρ',gs (ρF r all i (WS t x) o7 o8) []=some ((.rt (.tuple [tlD bI (N t),.int i]),ρ'),[]):=by
 refine⟨ρF r all i (WS t x) (some (.d (.list (all.map rdV)))) (some (.d (.int i))),?_⟩
 have s1:aG 7 (af cA (aa 3) (af ixD (aa 6) (fC (.int 0)))) (ρF r all i (WS t x) o7 o8) []=some ((.nx,ρF r all i (WS t x) (some (.d (.list (all.map rdV)))) o8),[]):=by
  show bnd (mkD [] (aO [(.str wK,.list (all.map rdV)),(.str pK,.list [])] wK)) (fH 7 (ρF r all i (WS t x) o7 o8))=_;rw[kw];rfl
 have s2:aG 8 (af cA (aa 4) (af ixD (aa 6) (fC (.int 0)))) (ρF r all i (WS t x) (some (.d (.list (all.map rdV)))) o8) []=some ((.nx,ρF r all i (WS t x) (some (.d (.list (all.map rdV)))) (some (.d (.int i)))),[]):=by
  show bnd (mkD [] (aO [(.str wK,.int i),(.str pK,.int 0)] wK)) (fH 8 (ρF r all i (WS t x) (some (.d (.list (all.map rdV)))) o8))=_;rw[kw];rfl
 unfold gs;rw[aP s1,aP s2]
 have cT:bK (aD (af geD (aa 8) (fCB aT (ae (aa 7) ai)))) (aD (af neD (af ixD (af ixD (aa 7) (aa 8)) (fC (.int 0))) (af ixD (aa 6) (fC (.int 1))))) (ρF r all i (WS t x) (some (.d (.list (all.map rdV)))) (some (.d (.int i)))) []=some (true,[]):=by
  unfold ρF;simp[hi]
 have w4:af cA (aa 4) (fC (.str "want")) (ρF r all i (WS t x) (some (.d (.list (all.map rdV)))) (some (.d (.int i)))) []=some (.d (.int i),[]):=by
  show mkD [] (aO [(.str wK,.int i),(.str pK,.int 0)] wK)=_;rw[kw];rfl
 have a6:fUn (atS [("want","wants"),("peek","peeks")]) (af ixD (aa 6) (fC (.int 0))) (ρF r all i (WS t x) (some (.d (.list (all.map rdV)))) (some (.d (.int i)))) []=some (.d (.str "wants"),[]):=by rfl
 have b6:af ixD (aa 6) (fC (.int 1)) (ρF r all i (WS t x) (some (.d (.list (all.map rdV)))) (some (.d (.int i)))) []=some (.d (.str (N t)),[]):=rfl
 have rt:ax (aE .tuple (ae (aE .tuple (ae (fUn (atS [("want","wants"),("peek","peeks")]) (af ixD (aa 6) (fC (.int 0)))) (ae (af ixD (aa 6) (fC (.int 1))) ai))) (ae (af cA (aa 4) (fC (.str "want"))) ai))) (ρF r all i (WS t x) (some (.d (.list (all.map rdV)))) (some (.d (.int i)))) []=some ((.rt (.tuple [tlD bI (N t),.int i]),ρF r all i (WS t x) (some (.d (.list (all.map rdV)))) (some (.d (.int i)))),[]):=by
  simp only[uX,tX,tY,a6,cD,su,b6,uY,w4];rfl
 rw[iD,oO,cT,cD,oh,if_pos rfl,rt];rfl
theorem Ck{t:Nat}{x y:PyData}(hi:(all.map rdV)[i]? = some (rdV t))(h100:all.length<=100)(hs:bT 25 [.d x,.d (.list (List.replicate (i+1) V))] []=some (y,[]))(hy:bD y=true):∃p7 p8,gs (ρF r all i (WS t x) o7 o8) []=some ((.nx,ρF r all (i+1) y p7 p8),[]):=by
 refine⟨some (.d (.list (all.map rdV))),some (.d (.int i)),?_⟩
 have il:i<all.length:=by
  have:=(List.getElem?_eq_some_iff.mp hi).1;simpa using this
 have s1:aG 7 (af cA (aa 3) (af ixD (aa 6) (fC (.int 0)))) (ρF r all i (WS t x) o7 o8) []=some ((.nx,ρF r all i (WS t x) (some (.d (.list (all.map rdV)))) o8),[]):=by
  show bnd (mkD [] (aO [(.str wK,.list (all.map rdV)),(.str pK,.list [])] wK)) (fH 7 (ρF r all i (WS t x) o7 o8))=_;rw[kw];rfl
 have s2:aG 8 (af cA (aa 4) (af ixD (aa 6) (fC (.int 0)))) (ρF r all i (WS t x) (some (.d (.list (all.map rdV)))) o8) []=some ((.nx,ρF r all i (WS t x) (some (.d (.list (all.map rdV)))) (some (.d (.int i)))),[]):=by
  show bnd (mkD [] (aO [(.str wK,.int i),(.str pK,.int 0)] wK)) (fH 8 (ρF r all i (WS t x) (some (.d (.list (all.map rdV)))) o8))=_;rw[kw];rfl
 have at1:atI (all.map rdV) (i:Int)=some (rdV t):=by
  unfold atI ixN;rw[if_pos (by omega),if_pos (by simpa using il)];simpa using hi
 have p0:ixD (.list (all.map rdV)) (.int i)=some (rdV t):=at1;have r0:ixD (rdV t) (.int 0)=some (.str (N t)):=rfl;have r1:ixD (rdV t) (.int 1)=some V:=rfl;have w1:ixD (WS t x) (.int 1)=some (.str (N t)):=rfl;have w2:ixD (WS t x) (.int 2)=some x:=rfl;have w0:ixD (WS t x) (.int 0)=some (.str wK):=rfl
 have cF:bK (aD (af geD (aa 8) (fCB aT (ae (aa 7) ai)))) (aD (af neD (af ixD (af ixD (aa 7) (aa 8)) (fC (.int 0))) (af ixD (aa 6) (fC (.int 1))))) (ρF r all i (WS t x) (some (.d (.list (all.map rdV)))) (some (.d (.int i)))) []=some (false,[]):=by
  have z:¬(all.length:Int)<=(i:Int):=by omega
  have z2:¬all.length<=i:=by omega
  clear s1 s2;unfold ρF;have pl:(all.map rdV).length=all.length:=List.length_map _;generalize all.map rdV=P at *;generalize WS t x=Q at *;generalize rdV t=R at *;simp[z,z2,r0,w1,at1,pl]
 unfold gs;rw[aP s1,aP s2]
 have s3:∀{A:FS},fIf (bK (aD (af geD (aa 8) (fCB aT (ae (aa 7) ai)))) (aD (af neD (af ixD (af ixD (aa 7) (aa 8)) (fC (.int 0))) (af ixD (aa 6) (fC (.int 1)))))) A aH (ρF r all i (WS t x) (some (.d (.list (all.map rdV)))) (some (.d (.int i)))) []=some ((.nx,ρF r all i (WS t x) (some (.d (.list (all.map rdV)))) (some (.d (.int i)))),[]):=fun {A}=>by
  rw[oO,cF,cD,oh];rfl
 rw[aP s3]
 have s4:c5 5 (af ixD (af ixD (aa 7) (aa 8)) (fC (.int 1))) (ρF r all i (WS t x) (some (.d (.list (all.map rdV)))) (some (.d (.int i)))) []=some ((.nx,[some (.d r),some (.d (.list (all.map rdV))),some (.d (.list [])),some (.loc (dW (.list (all.map rdV)) (.list []))),some (.loc (dW (.int i) (.int 0))),some (.loc (.list (List.replicate (i+1) V))),some (.d (WS t x)),some (.d (.list (all.map rdV))),some (.d (.int i))]),[]):=by
  have z:i<sizeLine:=by rw[sz];omega
  clear cF s3 s1 s2;unfold ρF;generalize all.map rdV=P at *;generalize WS t x=Q at *;generalize rdV t=R at *;simp[at1,r1,z,List.replicate_succ']
 rw[aP s4]
 have s5:lF 4 (af ixD (aa 6) (fC (.int 0))) (af aR (aa 8) (fC (.int 1))) [some (.d r),some (.d (.list (all.map rdV))),some (.d (.list [])),some (.loc (dW (.list (all.map rdV)) (.list []))),some (.loc (dW (.int i) (.int 0))),some (.loc (.list (List.replicate (i+1) V))),some (.d (WS t x)),some (.d (.list (all.map rdV))),some (.d (.int i))] []=some ((.nx,ρF r all (i+1) (WS t x) (some (.d (.list (all.map rdV)))) (some (.d (.int i)))),[]):=by
  show (if (aO [(.str wK,.int i),(.str pK,.int 0)] wK).isSome=true/\2<=1000 then some ((Fl.nx,List.set (α:=Option D.W) [some (.d r),some (.d (.list (all.map rdV))),some (.d (.list [])),some (.loc (dW (.list (all.map rdV)) (.list []))),some (.loc (dW (.int i) (.int 0))),some (.loc (.list (List.replicate (i+1) V))),some (.d (WS t x)),some (.d (.list (all.map rdV))),some (.d (.int i))] 4 (some (.loc (.dict (cW [(.str wK,.int i),(.str pK,.int 0)] wK (.int ((i:Int)+1))))))),[]) else none)=_;rw[kw,if_pos ⟨rfl,by decide⟩,pw];rfl
 rw[aP s5];have cf:gR (bT 25) [.d x,.loc (.list (List.replicate (i+1) V))] []=some (.d y,[]):=rF rfl hs hy;show bnd (bnd (ae (af ixD (aa 6) (fC (.int 2))) (ae (aa 5) ai) (ρF r all (i+1) (WS t x) (some (.d (.list (all.map rdV)))) (some (.d (.int i)))) []) (gR (bT 25))) (fH 6 (ρF r all (i+1) (WS t x) (some (.d (.list (all.map rdV)))) (some (.d (.int i)))))=_;have ar:ae (af ixD (aa 6) (fC (.int 2))) (ae (aa 5) ai) (ρF r all (i+1) (WS t x) (some (.d (.list (all.map rdV)))) (some (.d (.int i)))) []=some ([.d x,.loc (.list (List.replicate (i+1) V))],[]):=rfl;rw[ar,cD,cf];rfl
end
def okE(r:Option PyData):Bool:=match r with
 |some (.bool true)=>true
 |_=>false
theorem nW{r:Option PyData}(h:okE r=true):r=some (.bool true):=by
 unfold okE at h;split at h
 .rfl
 .cases h
theorem FF:∀t<40,okE (eqG (tlD bI (N t)) (tlD bI (N t)))=true:=by decide +kernel
theorem eqW{t:Nat}(h:t<40):eqG (tlD bI (N t)) (tlD bI (N t))=some (.bool true):=nW (FF t h)
theorem GJ:eqG (tlD bO c6) (tlD bO c6)=some (.bool true):=nW (by decide +kernel)
theorem GI:eqG (tlD bx ST) (tlD bx ST)=some (.bool true):=nW (by decide +kernel)
theorem tW{r:PyData}{all:List Nat}(h100:all.length<=100)(h40:∀t∈all,t<40):∀(rest pre:List Nat) (fuel:Nat) (o7 o8:Option D.W),all=pre++rest->rest.length<fuel ->
  ∃p7 p8,bv foC gs fuel (ρF r all pre.length (stp rest) o7 o8) []=some ((.nx,ρF r all all.length MV p7 p8),[])
 |_,_,0,_,_,_,h=>by omega
 |[],pre,f+1,o7,o8,h,_=>⟨o7,o8,by
  have:all.length=pre.length:=by rw[h];simp
  rw[this]
  exact du GE⟩
 |t::rest,pre,f+1,o7,o8,h,hf=>by
  rw[List.length_cons] at hf
  have hi:(all.map rdV)[pre.length]? = some (rdV t):=by rw[h];simp
  have hs:bT 25 [.d (rcp rest),.d (.list (List.replicate (pre.length+1) V))] []=some (stp rest,[]):=by
   cases rest with
   |nil=>
    rw[List.replicate_succ];exact Bq
   |cons y l=>exact jf (h40 y (by rw[h];simp)) _ _
  obtain⟨p7,p8,e⟩:=Ck (r:=r) (all:=all) (i:=pre.length) (o7:=o7) (o8:=o8) (t:=t) (x:=rcp rest) (y:=stp rest) hi h100 hs (mT rest);obtain⟨q7,q8,e2⟩:=tW h100 h40 rest (pre++[t]) f p7 p8 (by rw[h];simp) (by omega);refine⟨q7,q8,?_⟩;have c:foC (ρF r all pre.length (stp (t::rest)) o7 o8) []=some (true,[]):=wI;rw[gT c e];rw[List.length_append,List.length_singleton] at e2;exact e2
theorem mJ{r s:PyData}{all:List Nat}(hs:bT 25 [.d r,.d (.list [])] []=some (s,[]))(ht:bD s=true):fU [.d r,.d (.list (all.map rdV)),.d (.list [])] []=bP (aj (bv foC gs 100000) (ax (aE .tuple (ae (aa 6) (ae (af cA (aa 4) (fC (.str "want"))) ai)))) (ρF r all 0 s none none) []):=by
 rw[xI,dX];simp only[dj,dq,if_true];show bP (aj _ _ [some (.d r),some (.d (.list (all.map rdV))),some (.d (.list [])),none,none,none,none,none,none] [])=_
 have np:¬wK=pK:=by decide +kernel
 rw[aP (ρ1:=[some (.d r),some (.d (.list (all.map rdV))),some (.d (.list [])),some (.loc (dW (.list (all.map rdV)) (.list []))),none,none,none,none,none]) (T1:=[]) (by
  show (if wK=pK then none else _)=_;rw[if_neg np]
  rfl)]
 rw[aP (ρ1:=[some (.d r),some (.d (.list (all.map rdV))),some (.d (.list [])),some (.loc (dW (.list (all.map rdV)) (.list []))),some (.loc (dW (.int 0) (.int 0))),none,none,none,none]) (T1:=[]) (by
  show (if wK=pK then none else _)=_;rw[if_neg np]
  rfl)]
 rw[aP (ρ1:=[some (.d r),some (.d (.list (all.map rdV))),some (.d (.list [])),some (.loc (dW (.list (all.map rdV)) (.list []))),some (.loc (dW (.int 0) (.int 0))),some (.loc (.list [])),none,none,none]) (T1:=[]) (by rfl)];have cf:gR (bT 25) [.d r,.loc (.list [])] []=some (.d s,[]):=rF rfl hs ht
 rw[aP (ρ1:=ρF r all 0 s none none) (T1:=[]) (by
  show bnd (gR (bT 25) [.d r,.loc (.list [])] []) (fH 6 [some (.d r),some (.d (.list (all.map rdV))),some (.d (.list [])),some (.loc (dW (.list (all.map rdV)) (.list []))),some (.loc (dW (.int 0) (.int 0))),some (.loc (.list [])),none,none,none])=_;rw[cf]
  rfl)]
 rfl
theorem uW{r s:PyData}{all:List Nat}{i:Nat}{o7 o8:Option D.W}:ax (aE .tuple (ae (aa 6) (ae (af cA (aa 4) (fC (.str "want"))) ai))) (ρF r all i s o7 o8) []=some ((.rt (.tuple [s,.int i]),ρF r all i s o7 o8),[]):=by
 have w4:af cA (aa 4) (fC (.str "want")) (ρF r all i s o7 o8) []=some (.d (.int i),[]):=by
  show mkD [] (aO [(.str wK,.int i),(.str pK,.int 0)] wK)=_;rw[kw];rfl
 have w6:aa 6 (ρF r all i s o7 o8) []=some (.d s,[]):=rfl;simp only[uX,tX,tY,w6,cD,su,uY,w4];rfl
theorem Eg{W:List Nat}(hW:W≠[])(h100:W.length<=100)(h40:∀t∈W,t<40):fU [.d (rcp W),.d (.list (W.map rdV)),.d (.list [])] []=some (.tuple [MV,.int W.length],[]):=by
 have hs:bT 25 [.d (rcp W),.d (.list [])] []=some (stp W,[]):=by
  cases W with
  |nil=>exact absurd rfl hW
  |cons t r=>exact jf (h40 t List.mem_cons_self) _ _
 obtain⟨p7,p8,e⟩:=tW (r:=rcp W) h100 h40 W [] 100000 none none rfl (by omega);rw[mJ hs (mT W)];rw[List.length_nil] at e;rw[aP e,uW];rfl
theorem Ci{t:Nat}{x:PyData}(ht:t<40)(hx:bD x=true):fU [.d (wn t x),.d (.list []),.d (.list [])] []=some (.tuple [tlD bI (N t),.int 0],[]):=by
 obtain⟨ρ',e⟩:=Cj (r:=wn t x) (all:=[]) (i:=0) (o7:=none) (o8:=none) (t:=t) (x:=x) rfl;have:=mJ (r:=wn t x) (s:=WS t x) (all:=[]) (jf ht _ _) (tb3 rfl rfl hx);rw[List.map_nil] at this;rw[this,iD,ot wI e];rfl
theorem Cn:fU [.d dZ,.d (.list []),.d (.list [])] []=some (.tuple [FP,.int 0],[]):=by
 have:=mJ (r:=dZ) (s:=FP) (all:=[]) sQ rfl;rw[List.map_nil] at this;rw[this,aP (du GF),uW];rfl
theorem mP{r s:PyData}{all:List Nat}(h:fU [.d r,.d (.list (all.map rdV)),.d (.list [])] []=some (.tuple [s,.int all.length],[])):iq [.d r,.d (.list (all.map rdV)),.d (.list [])] []=some (s,[]):=by
 have pl:(all.map rdV).length=all.length:=List.length_map _;generalize all.map rdV=P at *;simp[iq,h,bg,pl]
theorem tq(l:List Nat)(ρ:Rho):cH bq (aE .tuple (ae (af ixD (aa 0) (fC (.int 0))) (ae (aB gw (ae (af ixD (aa 0) (fC (.int 1))) ai)) ai))) ρ (Rd (rsA l)) []=some (l.map rdV,[]):=by
 rw[c9 (g:=fun d=>match d with | .tuple [a,_]=>.tuple [a,V]|_=>.none) fun d hd=>by
  obtain⟨p,hp,rfl⟩:=List.mem_map.mp hd;obtain⟨t,_,rfl⟩:=List.mem_map.mp hp
  simp[bg,sO]]
 congr 2
 unfold Rd rsA;rw[List.map_map,List.map_map];rfl
theorem yS{r:PyData}{l:List Nat}(h:iq [.d r,.d (.list (l.map rdV)),.d (.list [])] []=some (MV,[])):gy [.d r,.d (.tuple (Rd (rsA l))),.d (tlD bx ST)] []=some (.bool true,[]):=by
 have c:=fun ρ=>tq l ρ;have e:eqG (tlD bx ST) (.tuple [.str "made",.str ST])=some (.bool true):=GI;have m0:ixD MV (.int 0)=some (.str "made"):=rfl;have m1:ixD MV (.int 1)=some V:=rfl;generalize l.map rdV=P at *;generalize tlD bx ST=Q at *;have vs:=kW;generalize MV=M at *;simp[gy,c,h,m0,m1,vs,e]
theorem qH{r s:PyData}{l:List Nat}{x:Str}(h:iq [.d r,.d (.list (l.map rdV)),.d (.list [])] []=some (s,[]))(s0:ixD s (.int 0)=some (.str x))(sx:¬x=Str.ofString "made")(e:eqG s s=some (.bool true)):gy [.d r,.d (.tuple (Rd (rsA l))),.d s] []=some (.bool true,[]):=by
 have c:=fun ρ=>tq l ρ;generalize l.map rdV=P at *;simp[gy,c,h,s0,sx,e]
theorem nH{r:PyData}{x a b:Str}{rs:List SS}(h:gy [.d r,.d (.tuple (Rd rs)),.d (tlD a b)] []=some (.bool true,[])):e8 [.d r,.d (lnD x rs a b)] []=some (.bool true,[]):=by
 unfold lnD;simp[e8,at3,h]
theorem zc{x:Str}{W:List Nat}(hW:W≠[])(h100:W.length<=100)(h40:∀t∈W,t<40):e8 [.d (rcp W),.d (lnD x (rsA W) bx ST)] []=some (.bool true,[]):=nH (yS (mP (Eg hW h100 h40)))
theorem yt{x:Str}{t:Nat}{y:PyData}(ht:t<40)(hy:bD y=true):e8 [.d (wn t y),.d (lnD x [] bI (N t))] []=some (.bool true,[]):=nH (qH (l:=[]) (mP (all:=[]) (Ci ht hy)) (x:=bI) rfl (by simp[bI]) (eqW ht))
theorem yu{x:Str}:e8 [.d dZ,.d (lnD x [] bO c6)] []=some (.bool true,[]):=nH (qH (l:=[]) (mP (all:=[]) Cn) (x:=bO) rfl (by simp[bO]) GJ)
section
variable {n m:Nat}{W:Nat->List Nat}(w:Ws n m W){fl:Bool}(xm:fl=true->m<n)
include w xm in
theorem uz:(ky (rcs n m W fl)).Nodup:=by
 have:=gh w (ex:=exC n fl) iC jo (jQ xm) (s0 W []).1;rw[jS] at this;rw[n5];exact this
include w xm in
theorem jF{k:Nat}(hk:k<m):aO (ao (rcs n m W fl)) (N k)=some (rcp (W k)):=by
 rw[cw];exact ef (uz w xm) (List.mem_append_left _ (List.mem_map.mpr ⟨k,List.mem_range.mpr hk,rfl⟩))
include w xm in
theorem vA(hf:fl=true):aO (ao (rcs n m W fl)) (N (n-1))=some dZ:=by
 rw[cw];refine ef (uz w xm) (List.mem_append_right _ ?_);unfold exR;rw[if_pos hf];exact List.mem_cons_self
include w in
theorem gY{k:Nat}(hk:k<n):N k∈(List.range m).map N++ky (exC n fl)↔inH n m fl k:=by
 have mn:=w.mn;have h40:=w.n40;rw[List.mem_append,gq (fun i hi=>by have:=List.mem_range.mp hi;omega) (by omega),List.mem_range];unfold inH exC
 cases fl with
 |false=>simp[ky]
 |true=>
  constructor
  .rintro(h|h)
   .exact .inl h
   .have:N k=N (n-1):=by simpa[ky] using h
    exact .inr ⟨rfl,eS k (by omega) (n-1) (by omega) this⟩
  .rintro(h|⟨_,h⟩)
   .exact .inl h
   .exact .inr (by rw[h];simp[ky])
include w in
theorem ow{k:Nat}(hk:k<n)(h:¬inH n m fl k):aO (ao (rcs n m W fl)) (N k)=none:=by
 rw[cw]
 cases e:(rcs n m W fl).lookup (N k) with
 |none=>rfl
 |some d=>
  have:=kR e;rw[n5,gY w hk] at this;exact absurd this h
theorem mU{g r:Dl}{x:Str}:eJ [.d (bkT g r),.d (.str x)] []=some (.str (Str.ofString (if (aO (ao g) x).isSome then "told" else if (aO (ao r) x).isSome then "made" else "lacks")),[]):=by
 unfold bkT
 cases h1:aO (ao g) x with
 |some d=>simp[eJ,bg,cy,h1]
 |none=>
  cases h2:aO (ao r) x with
  |some d=>simp[eJ,bg,cy,h1,h2]
  |none=>simp[eJ,bg,cy,h1,h2]
include w xm in
theorem boN:Bo n m (lfN W) fl [] (rcs n m W fl):=by
 have mn:=w.mn;have h40:=w.n40;refine⟨w.n2,w.n40,w.mn,xm,fun k hk=>?_,fun k hk=>?_,fun k hk=>?_⟩
 .rcases hk with hk|⟨hf,rfl⟩
  .exact⟨[],bI,N ((W k).headD 0),by unfold lnI;rw[if_pos hk];rfl,fun _ z=>(nomatch z),by simp,B4 (by have:=(lE w hk).1;omega)⟩
  .have:=xm hf
   exact⟨[],bO,c6,by unfold lnI;rw[if_neg (by omega)];rfl,fun _ z=>(nomatch z),by simp,B6⟩
 .rw[mU]
  have k0:aO (ao []) (N k)=none:=rfl;rw[k0]
  rcases hk with hk|⟨hf,rfl⟩
  .rw[jF w xm hk];rfl
  .rw[vA w xm hf];rfl
 .rcases hk with hk|⟨hf,rfl⟩
  .refine⟨_,jF w xm hk,?_⟩
   unfold lnI;rw[if_pos hk]
   cases e:W k with
   |nil=>exact absurd e (w.ne k hk)
   |cons t r=>
    have ht:=w.lt k hk t (by rw[e];exact List.mem_cons_self)
    have:lnK (lfN W) k=lnD (N k) [] bI (N t):=by unfold lnK lfN;rw[e];rfl
    rw[this];exact yt (by omega) (mX r)
  .have:=xm hf
   refine⟨_,vA w xm hf,?_⟩;unfold lnI;rw[if_neg (by omega)];exact yu
include w in
theorem boA(hm:m+1=n):Bo n m (lfA W) false (gD [n-1]) (rcs n m W false):=by
 have h40:=w.n40;have n2:=w.n2;refine⟨w.n2,w.n40,w.mn,(fun z=>nomatch z),fun k hk=>?_,fun k hk=>?_,fun k hk=>?_⟩
 .rcases hk with hk|⟨hf,_⟩
  .exact⟨W k,bx,ST,by unfold lnI;rw[if_pos hk];rfl,fun t ht=>by have:=w.lt k hk t ht;omega,w.le k hk,B5⟩
  .cases hf
 .rcases hk with hk|⟨hf,_⟩
  .have k0:aO (ao (gD [n-1])) (N k)=none:=by
    rw[oN [n-1] (fun x hx=>by rw[List.mem_singleton.mp hx];omega) (by omega),if_neg fun z=>by have:=List.mem_singleton.mp z;omega]
   rw[mU,k0,jF w (fl:=false) (fun z=>nomatch z) hk];rfl
  .cases hf
 .rcases hk with hk|⟨hf,_⟩
  .refine⟨_,jF w (fl:=false) (fun z=>nomatch z) hk,?_⟩
   unfold lnI;rw[if_pos hk]
   exact zc (w.ne k hk) (by have:=w.le k hk;omega) fun t ht=>by have:=w.lt k hk t ht;omega
  .cases hf
include w xm in
theorem oY(lf:Lf){k:Nat}(hk:inH n m fl k):ln (hL n m lf fl) (N k)=lnI n m lf k:=by
 rcases hk with hk|⟨hf,rfl⟩
 .unfold ln
  rw[oM w xm lf hk];unfold lnI;rw[if_pos hk];rfl
 .have:=xm hf
  have e:(hL n m lf fl).lookup (N (n-1))=some (.tuple [.str ES,lnX n]):=ef (iL w xm lf) (List.mem_append_right _ (by unfold exL;rw[if_pos hf];exact List.mem_cons_self));unfold ln lnI;rw[e,if_neg (by omega)];rfl
include w in
theorem idx{lf:Lf}:∀{Q:List Str},(∀x∈Q,x∈ky (hL n m lf fl))->∃q:List Nat,Q=q.map N/\∀k∈q,inH n m fl k
 |[],_=>⟨[],rfl,fun _ z=>nomatch z⟩
 |x::Q,h=>by
  obtain⟨q,e,hq⟩:=idx (lf:=lf) (Q:=Q) fun y hy=>h y (List.mem_cons_of_mem _ hy);have hx:=h x List.mem_cons_self;obtain⟨p,hp,e2⟩:=List.mem_map.mp hx
  rcases n9 hp with⟨k,hk,rfl⟩|⟨hf,rfl⟩
  .exact⟨k::q,by rw[e,←e2];rfl,fun j hj=>by
    rcases List.mem_cons.mp hj with rfl|z
    .exact .inl hk
    .exact hq j z⟩
  .exact⟨(n-1)::q,by rw[e,←e2];rfl,fun j hj=>by
    rcases List.mem_cons.mp hj with rfl|z
    .exact .inr ⟨hf,rfl⟩
    .exact hq j z⟩
include w xm in
theorem rZ{lf:Lf}{bk:PyData}(hq:Hq (nms n) (hL n m lf fl))(hl:gx [.d bk] []=some (.dict (ao (dl (hL n m lf fl) (ky (hL n m lf fl)))),[]))(pr:∀A:List Str,A≠[]->(∀x∈A,x∈ky (hL n m lf fl))->∃x∈A,bz (hL n m lf fl) A x=false){rt:List Nat}(hr:∀k∈rt,k<n)(hr2:rt.length<=40) :
  ∃q:List Nat,dH [.d bk,.d (.list (nm (rt.map N)))] []=some (.list (q.map (lnI n m lf)),[])/\q.Nodup/\(∀k∈q,inH n m fl k)/\(∀k,k∈q↔(inH n m fl k/\Reach (hL n m lf fl) (rt.map N) (N k)))/\fQ (hL n m lf fl) [] (q.map N):=by
 have mn:=w.mn;have n2:=w.n2;have h40:=w.n40
 obtain⟨K,e1,nd,hK⟩:=yY hq (roots:=rt.map N) (fun r h=>by
  obtain⟨k,hk,rfl⟩:=List.mem_map.mp h
  exact jj (hr k hk)) (by rw[List.length_map];exact hr2) []
 have hKk:∀x∈K,x∈ky (hL n m lf fl):=fun x hx=>((hK x).mp hx).2
 obtain⟨Q,e2,I⟩:=CP hq hKk nd (fun x hx y hy hk=>(hK y).mpr ⟨.step ((hK x).mp hx).1 (by
   unfold rnH at hy;unfold nx;split at hy
   .exact List.mem_append_left _ hy
   .cases hy),hk⟩) (fun A h0 hA=>pr A h0 fun x hx=>hKk x (hA x hx)) []
 have Im:∀x,x∈Q↔x∈K:=fun x=>by have:=I.mem x;rwa [List.append_nil] at this
 obtain⟨q,rfl,hq2⟩:=idx w (lf:=lf) (fl:=fl) (Q:=Q) fun x hx=>hKk x ((Im x).mp hx)
 have q40:∀k∈q,k<40:=fun k hk=>by rcases hq2 k hk with h|⟨_,h⟩ <;> omega
 refine⟨q,?_,?_,hq2,fun k=>⟨fun h=>⟨hq2 k h,((hK _).mp ((Im (N k)).mp (List.mem_map.mpr ⟨k,h,rfl⟩))).1⟩,fun h=>?_⟩,I.od⟩
 .have:(q.map N).map (ln (hL n m lf fl))=q.map (lnI n m lf):=by
   rw[List.map_map];exact List.map_congr_left fun k hk=>oY w xm lf (hq2 k hk)
  rw[this] at e2;simp[dH,hl,e1,nv,e2,uk]
 .have:=I.nd
  rw[List.append_nil] at this;exact(k8 q40).mp this
 .have kn:k<n:=by rcases h.1 with z|⟨_,z⟩ <;> omega
  have:N k∈q.map N:=(Im _).mpr ((hK _).mpr ⟨h.2,by rw[gZ,gY w kn];exact h.1⟩);exact(gq q40 (by omega)).mp this
include w xm in
theorem nN(lf:Lf){k:Nat}(hk:inH n m fl k):rnH (hL n m lf fl) (N k)=rn (rsI m lf k):=by
 unfold rnH rsI
 rcases hk with hk|⟨hf,rfl⟩
 .rw[oM w xm lf hk,if_pos hk]
  dsimp only;unfold lnK;rw[jh]
 .have:=xm hf
  have e:(hL n m lf fl).lookup (N (n-1))=some (.tuple [.str ES,lnX n]):=ef (iL w xm lf) (List.mem_append_right _ (by unfold exL;rw[if_pos hf];exact List.mem_cons_self));rw[e,if_neg (by omega)];rfl
include w xm in
theorem prN:∀A:List Str,A≠[]->(∀x∈A,x∈ky (hL n m (lfN W) fl))->∃x∈A,bz (hL n m (lfN W) fl) A x=false:=fun A h0 hA=>by
 cases A with
 |nil=>exact absurd rfl h0
 |cons x r=>
  refine⟨x,List.mem_cons_self,?_⟩;obtain⟨q,e,hq⟩:=idx w (lf:=lfN W) (fl:=fl) (Q:=[x]) fun y hy=>hA y (by rw[List.mem_singleton.mp hy];exact List.mem_cons_self)
  cases q with
  |nil=>cases e
  |cons k q=>
   have ex:x=N k:=by simpa using(List.cons.inj e).1
   have:rsI m (lfN W) k=[]:=by unfold rsI lfN;split <;> rfl
   unfold bz;rw[ex,nN w xm _ (hq k List.mem_cons_self),this];rfl
theorem nM(l:List Nat):rn (rsA l)=l.map N:=by
 unfold rn rsA;rw[List.map_map];rfl
include w in
theorem prA(up:∀k<m,∀t∈W k,k<t):∀A:List Str,A≠[]->(∀x∈A,x∈ky (hL n m (lfA W) false))->∃x∈A,bz (hL n m (lfA W) false) A x=false:=fun A h0 hA=>by
 have mn:=w.mn;have h40:=w.n40;apply Classical.byContradiction;intro no
 have all:∀d k,N k∈A->k<m->m-k<=d->False:=by
  intro d
  induction d with
  |zero=>intro k _ h1 h2;omega
  |succ d ih=>
   intro k hk h1 h2
   cases hb:bz (hL n m (lfA W) false) A (N k) with
   |false=>exact no ⟨N k,hk,hb⟩
   |true=>
    unfold bz at hb;rw[nN w (fl:=false) (fun z=>nomatch z) (lfA W) (.inl h1)] at hb
    have:rsI m (lfA W) k=rsA (W k):=by unfold rsI lfA;rw[if_pos h1]
    rw[this,nM,List.any_map,List.any_eq_true] at hb;obtain⟨t,ht,hm⟩:=hb;have hm':N t∈A:=of_decide_eq_true hm;have ut:=up k h1 t ht;have tn:=w.lt k h1 t ht;have tin:=hA _ hm';rw[gZ,gY w tn] at tin
    rcases tin with z|⟨z,_⟩
    .exact ih t hm' z (by omega)
    .cases z
 cases A with
 |nil=>exact absurd rfl h0
 |cons x r=>
  obtain⟨q,e,hq⟩:=idx w (lf:=lfA W) (fl:=false) (Q:=[x]) fun y hy=>hA y (by rw[List.mem_singleton.mp hy];exact List.mem_cons_self)
  cases q with
  |nil=>cases e
  |cons k q=>
   have ex:x=N k:=by simpa using(List.cons.inj e).1
   rcases hq k List.mem_cons_self with z|⟨z,_⟩
   .exact all m k (ex ▸ List.mem_cons_self) z (by omega)
   .cases z
theorem sT{lk:Nat->List Nat}(h:∀k,lk k=[]):∀(q laid:List Nat),shB lk laid q=true
 |[],_=>rfl
 |k::q,laid=>by
  unfold shB;rw[h k,sT h q];rfl
theorem vf{b P:PyData}{ah:Dl}{o3 o4:Option D.W}{xs:List PyData}{B:Bool}{ρ':Rho}(hP:P=.list xs)(e:forL 5 dD xs (ρS b P ah o3 o4 none) []=some ((if B then .nx else .rt (.bool false),ρ'),[])):bP (aj (bw 5 (aZ (aa 1)) dD) (ax (fC (.bool true))) (ρS b P ah o3 o4 none) [])=some (.bool B,[]):=by
 subst hP;have f:bw 5 (aZ (aa 1)) dD (ρS b (.list xs) ah o3 o4 none) []=some ((if B then .nx else .rt (.bool false),ρ'),[]):=e
 cases B with
 |true=>rw[aP f];rfl
 |false=>rw[iD,f];rfl
theorem F4{r:Dl}{P:PyData}:h9 [.d (bkT [] r),.d P] []=bP (aj (bw 5 (aZ (aa 1)) dD) (ax (fC (.bool true))) (ρS (bkT [] r) P [] none none none) []):=by
 rw[pG,dX];simp only[dj,dq,if_true];show bP (aj _ _ [some (.d (bkT [] r)),some (.d P),none,none,none,none] [])=_;rw[aP (ρ1:=ρS (bkT [] r) P [] none none none) (T1:=[]) (by rfl)];rw[aP (ρ1:=ρS (bkT [] r) P [] none none none) (T1:=[]) (by rfl)]
theorem F3{r:Dl}{P:PyData}{k:Nat}:h9 [.d (bkT (gD [k]) r),.d P] []=bP (aj (bw 5 (aZ (aa 1)) dD) (ax (fC (.bool true))) (ρS (bkT (gD [k]) r) P (mD (fun _=>tlD bx ST) [k]) (some (.d (.str (N k)))) (some (.d V)) none) []):=by
 rw[pG,dX];simp only[dj,dq,if_true];show bP (aj _ _ [some (.d (bkT (gD [k]) r)),some (.d P),none,none,none,none] [])=_;rw[aP (ρ1:=ρS (bkT (gD [k]) r) P [] none none none) (T1:=[]) (by rfl)]
 have b:jY [some (.d (bkT (gD [k]) r)),some (.d P),some (.loc (.dict [])),some (.d (.str (N k))),some (.d V),none] []=some ((.nx,ρS (bkT (gD [k]) r) P (mD (fun _=>tlD bx ST) [k]) (some (.d (.str (N k)))) (some (.d V)) none),[]):=by
  unfold jY;have vs:=kW
  have p0:putN [] (N k) (.tuple [.str "made",.str ST])=ao (mD (fun _=>tlD bx ST) [k]):=by
   have:=cK [] (N k) (tlD bx ST);exact this
  simp[vs,p0];rfl
 rw[aP (ρ1:=ρS (bkT (gD [k]) r) P (mD (fun _=>tlD bx ST) [k]) (some (.d (.str (N k)))) (some (.d V)) none) (T1:=[]) (by
  show eU 3 4 jY [(.str (N k),V)] [some (.d (bkT (gD [k]) r)),some (.d P),some (.loc (.dict [])),none,none,none] []=_;unfold eU;simp only[List.set_cons_succ,List.set_cons_zero];rw[b]
  rfl)]
theorem vW{b ed:PyData}{a c:Str}(h:¬a=Str.ofString "wants"):d7 [.d b,.d ed,.d (tlD a c)] []=some (.bool true,[]):=by
 unfold tlD;simp[d7,bg,h]
theorem vX{b:PyData}{ed:Dl}{c:Str}{x y:Str}(h:aO (ao ed) c=some (tlD x y))(hx:¬x=Str.ofString "made"):d7 [.d b,.d (.dict (ao ed)),.d (tlD bI c)] []=some (.bool true,[]):=by
 unfold tlD at h ⊢;unfold bI;simp[d7,bg,cy,h,hx]
theorem Em{b:PyData}{ed:Dl}{c:Str}(h:aO (ao ed) c=none)(hs:eJ [.d b,.d (.str c)] []=some (.str "lacks",[])):d7 [.d b,.d (.dict (ao ed)),.d (tlD bI c)] []=some (.bool true,[]):=by
 unfold tlD bI;simp[d7,bg,cy,h,hs]
include w xm in
theorem vK{q:List Nat}(nd:q.Nodup)(hq:∀k∈q,inH n m fl k)(ql:q.length<=100)(cl:∀k∈q,k<m->inH n m fl ((W k).headD 0)->(W k).headD 0∈q):cb [.d (bkT [] (rcs n m W fl)),.d (.list (q.map (lnI n m (lfN W))))] []=some (.bool true,[]):=by
 have B:=boN w xm;have h40:=w.n40;have mn:=w.mn
 have q40:∀k∈q,k<40:=fun k hk=>by have:=dM B (hq k hk);omega
 obtain⟨ρ',e⟩:=nB B (lk:=fun _=>[]) (fun k _=>⟨by unfold rsI lfN rsA;split <;> rfl,fun t ht=>nomatch ht⟩) (ea:=enI m (lfN W)) (fun k _=>rfl) (fun k _ t ht=>nomatch ht) (b:=bkT [] (rcs n m W fl)) (P:=.list (q.map (lnI n m (lfN W)))) (o3:=none) (o4:=none) q [] none (fun _ z=>nomatch z) hq (by simpa using nd) (by simp;omega);have sh:=F4 (r:=rcs n m W fl) (P:=.list (q.map (lnI n m (lfN W))));have m0:mD (enI m (lfN W)) []=[]:=rfl;rw[m0] at e;rw[vf rfl e,sT fun _=>rfl] at sh;refine tN B hq ql nd (en:=true) sh (rM B hq nd (by omega)) fun _ k hk l a b el=>?_
 have kin:∀t<40,aO (ao (mD (enI m (lfN W)) q)) (N t)=if t∈q then some (enI m (lfN W) t) else none:=fun t ht=>fD q q40 ht
 rcases hq k hk with h1|⟨hf,h1⟩
 .unfold lnI at el
  rw[if_pos h1] at el;obtain⟨_,_,rfl,rfl⟩:=jm el;have hd:=lE w h1;show d7 [_,_,.d (tlD bI (N ((W k).headD 0)))] []=_
  by_cases hin:(W k).headD 0∈q
  .have kk:=kin ((W k).headD 0) (by omega)
   rw[if_pos hin] at kk;unfold enI at kk;split at kk
   .exact vX kk (by simp[lfN,bI])
   .exact vX kk (by simp[bO])
  .have kk:=kin ((W k).headD 0) (by omega)
   rw[if_neg hin] at kk;have ni:¬inH n m fl ((W k).headD 0):=fun z=>hin (cl k hk h1 z);refine Em kk ?_;have k0:aO (ao []) (N ((W k).headD 0))=none:=rfl;rw[mU,k0,ow w hd.1 ni];rfl
 .unfold lnI at el
  have:=xm hf;rw[if_neg (by omega)] at el;obtain⟨_,_,rfl,rfl⟩:=jm el;exact vW (by simp[bO])
include w in
theorem oI(hm:m+1=n){q:List Nat}(nd:q.Nodup)(hq:∀k∈q,inH n m false k)(ql:q.length<=100):cb [.d (bkT (gD [n-1]) (rcs n m W false)),.d (.list (q.map (lnI n m (lfA W))))] []=some (.bool (shB W [n-1] q),[]):=by
 have B:=boA w hm;have h40:=w.n40
 have hqm:∀k∈q,k<m:=fun k hk=>(hq k hk).resolve_right fun z=>nomatch z.1
 obtain⟨ρ',e⟩:=nB B (lk:=W) (fun k hk=>by
  have hk':k<m:=hk.resolve_right fun z=>nomatch z.1
  exact⟨by unfold rsI lfA;rw[if_pos hk'],fun t ht=>w.lt k hk' t ht⟩) (ea:=fun _=>tlD bx ST) (fun k hk=>by
  have hk':k<m:=hk.resolve_right fun z=>nomatch z.1
  unfold enI lfA
  rw[if_pos hk']) (fun k _ t _=>rfl) (b:=bkT (gD [n-1]) (rcs n m W false)) (P:=.list (q.map (lnI n m (lfA W)))) (o3:=some (.d (.str (N (n-1))))) (o4:=some (.d V)) q [n-1] none (fun k hk=>by rw[List.mem_singleton.mp hk];have:=w.n2;omega) hq (by
  rw[List.nodup_append]
  exact⟨by simp,nd,fun a ha b hb=>by
   rw[List.mem_singleton.mp ha];have:=hqm b hb
   omega⟩) (by simp;omega)
 have sh:=F3 (r:=rcs n m W false) (P:=.list (q.map (lnI n m (lfA W)))) (k:=n-1);rw[vf rfl e] at sh;refine tN B hq ql nd (en:=true) sh (rM B hq nd (by omega)) fun _ k hk l a b el=>?_;unfold lnI at el;rw[if_pos (hqm k hk)] at el;obtain⟨_,_,rfl,rfl⟩:=jm el;exact vW (by simp[lfA,bx])
include w in
theorem sS:∀(q laid:List Nat),(∀k∈q,k<m)->(∀k∈laid,k<40)->(m+1=n)->fQ (hL n m (lfA W) false) (laid.map N) (q.map N)->shB W ([n-1]++laid) q=true
 |[],_,_,_,_,_=>rfl
 |k::q,laid,hq,hl,hm,ho=>by
  have h40:=w.n40;have hk:=hq k List.mem_cons_self;obtain⟨h1,h2⟩:(∀y∈rnH (hL n m (lfA W) false) (N k),y∈ky (hL n m (lfA W) false)->y∈laid.map N)/\fQ (hL n m (lfA W) false) (laid.map N++[N k]) (q.map N):=ho
  have ih:=sS q (laid++[k]) (fun x hx=>hq x (List.mem_cons_of_mem _ hx)) (fun x hx=>by
   rcases List.mem_append.mp hx with z|z
   .exact hl x z
   .rw[List.mem_singleton.mp z];omega) hm (by rw[List.map_append];exact h2)
  unfold shB;rw[List.append_assoc,ih,Bool.and_true,List.all_eq_true];intro t ht;refine decide_eq_true ?_;have tn:=w.lt k hk t ht
  by_cases ht1:t=n-1
  .rw[ht1];simp
  .have tm:t<m:=by omega
   refine List.mem_append_right _ ((gq hl (by omega)).mp (h1 _ ?_ ?_))
   .rw[nN w (fl:=false) (fun z=>nomatch z) (lfA W) (.inl hk)]
    have:rsI m (lfA W) k=rsA (W k):=by unfold rsI lfA;rw[if_pos hk]
    rw[this,nM];exact List.mem_map.mpr ⟨t,ht,rfl⟩
   .rw[gZ,gY w tn]
    exact .inl tm
theorem sU{lk:Nat->List Nat}:∀(a laid b:List Nat),shB lk laid (a++b)=(shB lk laid a&&shB lk (laid++a) b)
 |[],laid,b=>by rw[List.append_nil];rfl
 |k::a,laid,b=>by
  show ((lk k).all _&&shB lk (laid++[k]) (a++b))=(((lk k).all _&&shB lk (laid++[k]) a)&&_);rw[sU a,Bool.and_assoc,List.append_assoc];rfl
include w xm in
theorem DU:gx [.d (bkT [] (rcs n m W fl))] []=some (.dict (ao (dl (hL n m (lfN W) fl) (ky (hL n m (lfN W) fl)))),[]):=by
 have a:=ma w xm;have b:=qv w xm;have c:ixD (.tuple [.dict [],.dict (ao (cmD m (s0 W []).1 (exC n fl)))]) (.int 1)=some (.dict (ao (cmD m (s0 W []).1 (exC n fl)))):=rfl;have d:bkT [] (rcs n m W fl)=.tuple [.dict [],.dict (ao (rcs n m W fl))]:=rfl;rw[d];generalize cmD m (s0 W []).1 (exC n fl)=C at *;simp[gx,a,b,bg]
include w in
theorem DV(hm:m+1=n)(up:∀k<m,∀t∈W k,k<t):gx [.d (bkT (gD [n-1]) (rcs n m W false))] []=some (.dict (ao (dl (hL n m (lfA W) false) (ky (hL n m (lfA W) false)))),[]):=by
 obtain⟨A,_,_,_,a⟩:=mE w hm up;have b:=zr w;have d:bkT (gD [n-1]) (rcs n m W false)=.tuple [.dict (ao (gD [n-1])),.dict (ao (rcs n m W false))]:=rfl;rw[d];generalize cmD m (fun k=>(W k,[])) []=C at *;simp[gx,a,b,bg]
include w xm in
theorem Gs{k:Nat}(hk:k<m):N ((W k).headD 0)∈nx (hL n m (lfN W) fl) (N k):=by
 unfold nx;rw[oM w xm (lfN W) hk];dsimp only;unfold lnK;rw[jh,mR];refine List.mem_append_right _ ?_;show _∈wt bI (N ((W k).headD 0));unfold wt bI;rw[if_pos rfl];exact List.mem_cons_self
include w xm in
theorem uH{rt:List Nat}(hr:∀k∈rt,k<n)(hr2:rt.length<=40):∃q:List Nat,dH [.d (bkT [] (rcs n m W fl)),.d (.list (nm (rt.map N)))] []=some (.list (q.map (lnI n m (lfN W))),[])/\q.Nodup/\(∀k∈q,inH n m fl k)/\(∀k∈rt,inH n m fl k->k∈q)/\(∀k∈q,k<m->inH n m fl ((W k).headD 0)->(W k).headD 0∈q)/\(∀k∈q,∃r∈rt,r<n):=by
 obtain⟨q,e,nd,hq,hm,ho⟩:=rZ w xm (qN w xm) (DU w xm) (prN w xm) hr hr2;refine⟨q,e,nd,hq,fun k hk hi=>(hm k).mpr ⟨hi,.root (List.mem_map.mpr ⟨k,hk,rfl⟩)⟩,fun k hk h1 hi=>(hm _).mpr ⟨hi,.step ((hm k).mp hk).2 (Gs w xm h1)⟩,fun k hk=>?_⟩
 cases rt with
 |nil=>
  have:=((hm k).mp hk).2;exfalso;clear hk;generalize N k=x at this
  induction this with
  |root h=>cases h
  |step _ _ ih=>exact ih
 |cons r _=>exact⟨r,List.mem_cons_self,hr r List.mem_cons_self⟩
include w in
theorem uI(hm:m+1=n)(up:∀k<m,∀t∈W k,k<t){rt:List Nat}(hr:∀k∈rt,k<n)(hr2:rt.length<=40):∃q:List Nat,dH [.d (bkT (gD [n-1]) (rcs n m W false)),.d (.list (nm (rt.map N)))] []=some (.list (q.map (lnI n m (lfA W))),[])/\q.Nodup/\(∀k∈q,k<m)/\(∀k∈rt,k<m->k∈q)/\shB W [n-1] q=true:=by
 obtain⟨q,e,nd,hq,hm2,ho⟩:=rZ w (fl:=false) (fun z=>nomatch z) (qA w (fun z=>nomatch z)) (DV w hm up) (prA w up) hr hr2
 have hqm:∀k∈q,k<m:=fun k hk=>(hq k hk).resolve_right fun z=>nomatch z.1
 exact⟨q,e,nd,hqm,fun k hk hi=>(hm2 k).mpr ⟨.inl hi,.root (List.mem_map.mpr ⟨k,hk,rfl⟩)⟩,sS w q [] hqm (fun _ z=>nomatch z) hm ho⟩
end
theorem oj{α:Type}{xs:List α}{k:Nat}(h:k<=xs.length):cB xs none (some (k:Int))=xs.take k:=by
 have e:HT.sIx xs.length 0 none=0:=rfl
 have e2:HT.sIx xs.length xs.length (some (k:Int))=k:=by
  show (if (k:Int)<0 then ((k:Int)+(xs.length:Int)).toNat else min ((k:Int)).toNat xs.length)=_;rw[if_neg (by omega),Int.toNat_natCast,Nat.min_eq_left h]
 unfold cB;rw[e,e2];simp
theorem vc{α:Type}{xs:List α}{k:Nat}(h:k<=xs.length):cB xs (some (k:Int)) none=xs.drop k:=by
 have e:HT.sIx xs.length 0 (some (k:Int))=k:=by
  show (if (k:Int)<0 then ((k:Int)+(xs.length:Int)).toNat else min ((k:Int)).toNat xs.length)=_;rw[if_neg (by omega),Int.toNat_natCast,Nat.min_eq_left h]
 have e2:HT.sIx xs.length xs.length none=xs.length:=rfl;unfold cB;rw[e,e2,List.take_of_length_le (by rw[List.length_drop];exact Nat.le_refl _)]
def ρP(wd bk:PyData)(x:Str)(P:List PyData)(R:PyData)(S:List Str)(o6 o7 o8 o9 o10:Option D.W):Rho:=[some (.d wd),some (.d (.str x)),some (.d bk),some (.d (.list P)),some (.d R),some (.d (.list (nm S))),o6,o7,o8,o9,o10]
theorem Gv{bk:PyData}{r:List PyData}:ixD (.list (bk::r)) (.int 0)=some bk:=by
 show atI (bk::r) 0=_;unfold atI ixN;simp
section
variable {g r:Dl}{ws:List PyData}{x:Str}{P:List PyData}{R:PyData}
variable (hp:dH [.d (bkT g r),.d (.list [.str x])] []=some (.list P,[]))(hd:c7 [.d (.list (bkT g r::ws)),.d (.str x)] []=some (R,[]))(hl:cb [.d (bkT g r),.d (.list P)] []=some (.bool true,[]))
include hp hd in
theorem rX{A:FS}:bP (aj (aG 2 (af ixD (aa 0) (fC (.int 0)))) (aj (aG 3 (aB dH (ae (aa 2) (ae (aE .list (ae (aa 1) ai)) ai)))) (aj (aG 4 (aB c7 (ae (aa 0) (ae (aa 1) ai)))) A)) [some (.d (.list (bkT g r::ws))),some (.d (.str x)),none,none,none,none,none,none,none,none,none] [])=bP (A [some (.d (.list (bkT g r::ws))),some (.d (.str x)),some (.d (bkT g r)),some (.d (.list P)),some (.d R),none,none,none,none,none,none] []):=by
 have i0:=Gv (bk:=bkT g r) (r:=ws);generalize PyData.list (bkT g r::ws)=wd at *;rw[aP (ρ1:=[some (.d wd),some (.d (.str x)),some (.d (bkT g r)),none,none,none,none,none,none,none,none]) (T1:=[]) (by simp[i0])];rw[aP (ρ1:=[some (.d wd),some (.d (.str x)),some (.d (bkT g r)),some (.d (.list P)),none,none,none,none,none,none,none]) (T1:=[]) (by simp[hp])];rw[aP (ρ1:=[some (.d wd),some (.d (.str x)),some (.d (bkT g r)),some (.d (.list P)),some (.d R),none,none,none,none,none,none]) (T1:=[]) (by simp[hd])]
include hp hd hl in
theorem uD(hx:aO (ao r) x=none):eG [.d (.list (bkT g r::ws)),.d (.str x)] []=some (.bool true,[]):=by
 rw[pJ,dX];simp only[dj,dq,if_true];refine(rX hp hd).trans ?_;have b1:ixD (bkT g r) (.int 1)=some (.dict (ao r)):=rfl;generalize bkT g r=bk at *;simp[b1,hx,hl,vO,gk]
variable {S:List Str}
include hp hd hl in
theorem vB{c:PyData}(hx:aO (ao r) x=some c)(hS:∀ρ,cH bq (af ixD (aa 0) (fC (.int 0))) ρ P []=some (nm S,[]))(hn:S.Nodup)(sl:S.length<1000)(pl:P.length=S.length)(xS:x∈S)(hb:ib [.d (.list P),.d (.str x)] []=some (R,[]))(hR:SV 2 R)(h2:cb [.d (bkT g r),.d (.list (P++P.take 1))] []=some (.bool false,[]))
  (lp:∀k<P.length,∀o7 o8 o9 o10,∃p7 p8 p9 p10,eW (ρP (.list (bkT g r::ws)) (bkT g r) x P R S (some (.d (.int k))) o7 o8 o9 o10) []=some ((.nx,ρP (.list (bkT g r::ws)) (bkT g r) x P R S (some (.d (.int k))) p7 p8 p9 p10),[])):eG [.d (.list (bkT g r::ws)),.d (.str x)] []=some (.bool true,[]):=by
 rw[pJ,dX];simp only[dj,dq,if_true];refine(rX hp hd).trans ?_;have b1:ixD (bkT g r) (.int 1)=some (.dict (ao r)):=rfl;have sm:=vg hR 25 [] (by decide);have ls:=tO sl;have dl:=(vb (l:=S)).mpr hn;rw[dl] at ls;have ni:=nZ x S;rw[decide_eq_true xS] at ni
 have P0:1<=P.length:=by
  have:=List.length_pos_of_mem xS;omega
 have ct:cB P none (some 1)=P.take 1:=oj P0
 have z1:P.length+min 1 P.length<=sizeLine:=by rw[sz];omega
 have nI:neG (.int S.length) (.int S.length)=some (.bool false):=by
  show (if _ then some (PyData.bool (!(PyData.eqv (.int S.length) (.int S.length)))) else _)=_;have:PyData.eqv (.int (S.length:Int)) (.int (S.length:Int))=true:=SeqAt.eqv_refl _ rfl;rw[if_pos ⟨rfl,rfl⟩,this];rfl
 have mx:∃i:Nat,fB [.int 0,.int ((P.length:Int)-3)]=some (.int i)/\i<=P.length:=by
  by_cases h3:(3:Int)<P.length
  .exact⟨P.length-3,by show some (PyData.int (if ((P.length:Int)-3)>0 then ((P.length:Int)-3) else 0))=_;rw[if_pos (by omega)];congr 2;omega,by omega⟩
  .exact⟨0,by show some (PyData.int (if ((P.length:Int)-3)>0 then ((P.length:Int)-3) else 0))=_;rw[if_neg (by omega)];rfl,by omega⟩
 obtain⟨i,mi,il⟩:=mx
 obtain⟨ρ',T',lo,⟨q6,q7,q8,q9,q10,eρ,eT⟩⟩:=tV (i:=6) (body:=eW) (N:=2000) (I:=fun _ ρ T=>∃o6 o7 o8 o9 o10,ρ=ρP (.list (bkT g r::ws)) (bkT g r) x P R S o6 o7 o8 o9 o10/\T=[]) (bc (i:Int) (P.length-i)) 0 (ρP (.list (bkT g r::ws)) (bkT g r) x P R S none none none none none) [] (by simp[bc];omega) ⟨_,_,_,_,_,rfl,rfl⟩ fun k d ρ T hd _ hI=>by
  obtain⟨o6,o7,o8,o9,o10,rfl,rfl⟩:=hI;obtain⟨j,hj,rfl⟩:=List.mem_map.mp hd;have hj:=List.mem_range.mp hj;obtain⟨p7,p8,p9,p10,e⟩:=lp (i+j) (by omega) o7 o8 o9 o10;refine⟨ρP (.list (bkT g r::ws)) (bkT g r) x P R S (some (.d (.int ((i+j:Nat):Int)))) p7 p8 p9 p10,[],?_,⟨_,_,_,_,_,rfl,rfl⟩⟩;rw[←e];show _=eW (ρP _ _ _ _ _ _ (some (.d (.int ((i+j:Nat):Int)))) o7 o8 o9 o10) [];rw[Int.natCast_add];rfl
 subst eρ eT
 have rg:jN (fCB fB (ae (fC (.int 0)) (ae (af cv (fCB aT (ae (aa 3) ai)) (fC (.int 3))) ai))) (fCB aT (ae (aa 3) ai)) (ρP (.list (bkT g r::ws)) (bkT g r) x P R S none none none none none) []=some (bc (i:Int) (P.length-i),[]):=by
  have f1:fCB fB (ae (fC (.int 0)) (ae (af cv (fCB aT (ae (aa 3) ai)) (fC (.int 3))) ai)) (ρP (.list (bkT g r::ws)) (bkT g r) x P R S none none none none none) []=some (.d (.int i),[]):=by
   show mkD [] (fB [.int 0,.int ((P.length:Int)-3)])=_;rw[mi];rfl
  have f2:fCB aT (ae (aa 3) ai) (ρP (.list (bkT g r::ws)) (bkT g r) x P R S none none none none none) []=some (.d (.int P.length),[]):=rfl;unfold jN;rw[f1,cD,f2,cD];show (if _ then some (bc (i:Int) ((P.length:Int)-(i:Int)).toNat,[]) else _)=_;rw[if_pos ⟨by omega,rng_ok (by omega) (by omega),rng_ok (by omega) (by omega)⟩]
  congr 3
  omega
 generalize hwd:PyData.list (bkT g r::ws)=wd at *;generalize hbk:bkT g r=bk at *;rw[aP (ρ1:=[some (.d wd),some (.d (.str x)),some (.d bk),some (.d (.list P)),some (.d R),none,none,none,none,none,none]) (T1:=[]) (by simp[b1,hx])];rw[aP (ρ1:=ρP wd bk x P R S none none none none none) (T1:=[]) (by simp[hS,ρP])]
 rw[aP (ρ1:=ρP wd bk x P R S none none none none none) (T1:=[]) (by
  unfold ρP
  simp[hl,ni,ls,cL,nI])]
 rw[aP (ρ1:=ρP wd bk x P R S none none none none none) (T1:=[]) (by
  unfold ρP
  simp[hb,sm])]
 rw[aP (ρ1:=ρP wd bk x P R S none none none none none) (T1:=[]) (by
  unfold ρP
  simp[ct,z1,h2])]
 rw[aP (ρ1:=ρP wd bk x P R S q6 q7 q8 q9 q10) (T1:=[]) (by
  rw[jB,rg]
  exact lo)]
 rfl
end
theorem sR:∀(l:List Int),PyData.canLayAll0 (l.map PyData.int)=true/\PyData.depthAll (l.map PyData.int)<=1
 |[]=>⟨rfl,by simp[PyData.depthAll]⟩
 |i::l=>by
  have ih:=sR l;exact⟨by simp[PyData.canLayAll0,PyData.canLay0,ih.1],by simp[PyData.depthAll,PyData.depth];exact ih.2⟩
theorem ne_nil(l:List Int):neG (.list (l.map PyData.int)) (.list [])=some (.bool (!l.isEmpty)):=by
 have h1:SeqAt.shaped (.list (l.map PyData.int))=true:=by
  have:=sR l;simp[SeqAt.shaped,PyData.canLay0,PyData.depth,this.1];omega
 have h2:SeqAt.shaped (.list [])=true:=by simp[SeqAt.shaped,PyData.canLay0,PyData.canLayAll0,PyData.depth,PyData.depthAll]
 unfold neG;rw[if_pos ⟨h1,h2⟩]
 cases l <;> simp[PyData.eqv,PyData.eqvAll]
theorem gS{α:Type}{f:α->PyData}{q:List α}{k:Nat}(h:k<q.length):atI (q.map f) (k:Int)=some (f q[k]):=by
 unfold atI ixN;rw[if_pos (by omega),if_pos (by simpa using h)];simp[h]
theorem rQ{α:Type}{q:List α}(f:α->PyData):(q++q.take 1).map f=q.map f++(q.map f).take 1:=by rw[List.map_append,List.map_take]
section
variable {n m:Nat}{W:Nat->List Nat}(w:Ws n m W){fl:Bool}{way:Int}(hw:WayN n m W way fl)
def nxs(m:Nat)(W:Nat->List Nat):Dl:=mD (fun k=>.str (N ((W k).headD 0))) (List.range m)
include w in
theorem vH:NxOk n m W (nxs m W):=by
 have mn:=w.mn;have h40:=w.n40
 have r40:∀x∈List.range m,x<40:=fun x hx=>by have:=List.mem_range.mp hx;omega
 refine⟨fun k hk=>?_,fun k hk h=>?_⟩
 .unfold nxs
  rw[fD _ r40 (by omega),if_pos (List.mem_range.mpr hk)]
 .unfold nxs
  rw[fD _ r40 (by omega),if_neg fun z=>h (List.mem_range.mp z)]
def WD(g r:Dl)(n m:Nat)(W:Nat->List Nat)(way:Int):PyData:=wdD (bkT g r) (nxs m W) n way
include w hw in
theorem AD{q:List Nat}(hq:∀k∈q,inH n m fl k)(cl:∀k∈q,k<m->inH n m fl ((W k).headD 0)->(W k).headD 0∈q):LdOk n m W fl (fun k=>inH n m fl k->k∈q) (mD (lnI n m (lfN W)) q):=by
 have mn:=w.mn;have h40:=w.n40;have B:=boN w hw.xm
 have q40:∀k∈q,k<40:=fun k hk=>by have:=dM B (hq k hk);omega
 refine⟨fun k hS hk hi=>cl k (hS (.inl hk)) hk hi,fun k hS hk=>?_,fun k hS hkn hk=>?_⟩
 .rw[fD q q40 (by omega),if_pos (hS (.inl hk))]
  unfold lnI;rw[if_pos hk]
 .rw[fD q q40 (by omega)]
  cases hfl:fl with
  |false=>
   have:k∉q:=fun z=>by
    rcases hq k z with h|⟨h,_⟩
    .exact hk h
    .rw[hfl] at h;cases h
   rw[if_neg this];rfl
  |true=>
   have kn:k=n-1:=by
    rw[hfl] at hw
    cases hw with
    |fails h1 _=>omega
   rw[if_pos (hS (.inr ⟨hfl,kn⟩)),if_pos rfl];unfold lnI;rw[if_neg hk]
include w hw in
theorem DX:LdOk n m W fl (fun _=>True) (dl (hL n m (lfN W) fl) (ky (hL n m (lfN W) fl))):=by
 have mn:=w.mn;have h40:=w.n40
 have hkn:∀k<n,aO (ao (dl (hL n m (lfN W) fl) (ky (hL n m (lfN W) fl)))) (N k)=if N k∈ky (hL n m (lfN W) fl) then some (ln (hL n m (lfN W) fl) (N k)) else none:=fun k _=>by rw[cw,iy]
 refine⟨fun _ _ _=>trivial,fun k _ hk=>?_,fun k _ hn hk=>?_⟩
 .have hi:inH n m fl k:=.inl hk
  rw[hkn k (by omega),if_pos (by rw[gZ,gY w (by omega)];exact hi),oY w hw.xm _ hi];unfold lnI;rw[if_pos hk]
 .rw[hkn k hn]
  cases hfl:fl with
  |false=>
   rw[hfl] at hw
   rw[if_neg (by
    rw[gZ,gY w hn];rintro(h|⟨h,_⟩)
    .exact hk h
    .cases h)]
   rfl
  |true=>
   rw[hfl] at hw
   have kn:k=n-1:=by
    cases hw with
    |fails h1 _=>omega
   have hi:inH n m true k:=.inr ⟨rfl,kn⟩;rw[if_pos (by rw[gZ,gY w hn];exact hi),oY w hw.xm _ hi,if_pos rfl];unfold lnI;rw[if_neg hk]
theorem qO{n m:Nat}{lf:Lf}{fl:Bool}{g r:Dl}(B:Bo n m lf fl g r){q:List Nat}(hq:∀k∈q,inH n m fl k)(nd:q.Nodup)(hl:q.length<=900){x:Nat}(hx:x∈q){R:PyData}(h:eX [.d (.dict (ao (mD (lnI n m lf) q))),.d (.str (N x))] []=some (R,[])):ib [.d (.list (q.map (lnI n m lf))),.d (.str (N x))] []=some (R,[]):=by
 have n40:=B.n40
 have q40:∀k∈q,k<40:=fun k hk=>by have:=dM B (hq k hk);omega
 have a:=zY B hq nd hl;have k:=fD (f:=lnI n m lf) q q40 (q40 x hx);rw[if_pos hx] at k;generalize q.map (lnI n m lf)=P at *;simp[ib,a,k,h]
theorem u7{q:List Nat}(h:q≠[]):¬(q++q.take 1).Nodup:=by
 cases q with
 |nil=>exact absurd rfl h
 |cons a r=>
  intro nd;rw[List.nodup_append] at nd;exact nd.2.2 a List.mem_cons_self a (by simp) rfl
theorem CI{wd bk:PyData}{x:Str}{R:PyData}{S:List Str}{P:List PyData}{k:Nat}{d:PyData}(hk:atI P (k:Int)=some d)(h1:ixD d (.int 1)=some (.tuple []))(hS:S.length=P.length)(hl:P.length<=100)(kl:k<P.length){o7 o8 o9 o10:Option D.W}:∃p7 p8 p9 p10,eW (ρP wd bk x P R S (some (.d (.int k))) o7 o8 o9 o10) []=some ((.nx,ρP wd bk x P R S (some (.d (.int k))) p7 p8 p9 p10),[]):=by
 refine⟨some (.d (.list [])),some (.d (.list [])),o9,o10,?_⟩
 have s1:aG 7 (bo (aZ (af ixD (af ixD (aa 3) (aa 6)) (fC (.int 1)))) bq (af ixD (aa 0) (fC (.int 0)))) (ρP wd bk x P R S (some (.d (.int k))) o7 o8 o9 o10) []=some ((.nx,ρP wd bk x P R S (some (.d (.int k))) (some (.d (.list []))) o8 o9 o10),[]):=by
  unfold ρP;simp[hk,h1];rfl
 have c:=j6 (c:=aD (af inD (af ixD (aa 6) (aa 0)) (aa 8))) (ρ:=ρP wd bk x P R S (some (.d (.int k))) (some (.d (.list []))) o8 o9 o10) (T:=[]) (p:=fun _=>false) (ds:=bc 0 k) fun d hd=>by
  obtain⟨j,rfl,j0,j1⟩:=Av hd;obtain⟨y,ey,_⟩:=F0 (l:=S) j0 (by omega);have i0:=oK y [];unfold ρP;have:nm []=[]:=rfl;rw[this] at i0;simp[ey,i0]
 have rk:cN (k:Int)=true:=rng_ok (by omega) (by omega)
 have s2:aG 8 (bo (bW (aa 6)) (aD (af inD (af ixD (aa 6) (aa 0)) (aa 8))) (aa 0)) (ρP wd bk x P R S (some (.d (.int k))) (some (.d (.list []))) o8 o9 o10) []=some ((.nx,ρP wd bk x P R S (some (.d (.int k))) (some (.d (.list []))) (some (.d (.list []))) o9 o10),[]):=by
  have e:bW (aa 6) (ρP wd bk x P R S (some (.d (.int k))) (some (.d (.list []))) o8 o9 o10) []=some (bc 0 k,[]):=by
   show (if cN (k:Int)=true then some (bc 0 (k:Int).toNat,[]) else none)=_;rw[if_pos rk,Int.toNat_natCast]
  rw[lj,kS,e,cD,c,cD]
  have:(bc 0 k).filter (fun _=>false)=[]:=by simp
  rw[this];rfl
 unfold eW;rw[aP s1,aP s2];have ne:=ne_nil [];rw[List.map_nil] at ne;unfold ρP;simp[ne]
include w hw in
theorem BI{x:Nat}(hx:x<n):eG [.d (WD [] (rcs n m W fl) n m W way),.d (.str (N x))] []=some (.bool true,[]):=by
 have h40:=w.n40;have mn:=w.mn;have B:=boN w hw.xm;obtain⟨q,hp,nd,hq,hroot,cl,_⟩:=uH w hw.xm (rt:=[x]) (fun k hk=>by rw[List.mem_singleton.mp hk];exact hx) (by simp)
 have q40:∀k∈q,k<40:=fun k hk=>by have:=dM B (hq k hk);omega
 have ql:q.length<=40:=gj nd q40;have hl:=vK w hw.xm nd hq (by omega) cl;obtain⟨R,hR,hd,hal⟩:=sC w hw (AD w hw hq cl) (vH w) (bk:=bkT [] (rcs n m W fl)) hx (fun hi=>hroot x (List.mem_singleton.mpr rfl) hi)
 by_cases hi:inH n m fl x
 .have xq:=hroot x (List.mem_singleton.mpr rfl) hi
  obtain⟨c,kc,_⟩:=B.ri x hi;refine vB (S:=q.map N) hp hd hl kc (fun ρ=>mC B hq) ((k8 q40).mpr nd) (by rw[List.length_map];omega) (by rw[List.length_map,List.length_map]) (List.mem_map.mpr ⟨x,xq,rfl⟩) (qO B hq nd (by omega) xq hal) hR ?_ fun k hk o7 o8 o9 o10=>?_
  .rw[←rQ]
   refine sg B (fun k hk=>?_) (by rw[List.length_append,List.length_take];omega) (u7 fun z=>by rw[z] at xq;cases xq)
   rcases List.mem_append.mp hk with z|z
   .exact hq k z
   .exact hq k (List.mem_of_mem_take z)
  .have hk':k<q.length:=by simpa using hk
   refine CI (gS hk') ?_ (by rw[List.length_map,List.length_map]) (by rw[List.length_map];omega) hk;rw[oE]
   have:rsI m (lfN W) q[k]=[]:=by unfold rsI lfN;split <;> rfl
   rw[this];rfl
 .exact uD hp hd hl (ow w hx hi)
end
theorem vv:SV 2 MV:=.tup (show (2:Nat)<=1000 by decide) fun d hd=>by
 rcases List.mem_cons.mp hd with rfl|hd
 .exact .str
 .rw[List.mem_singleton.mp hd]
  exact .tup (show (2:Nat)<=1000 by decide) fun d hd=>by
   rcases List.mem_cons.mp hd with rfl|hd
   .exact .str
   .rw[List.mem_singleton.mp hd];exact .int
theorem wJ{bk:PyData}{nx:Dl}{n:Nat}{x:Str}:c7 [.d (wdD bk nx n 0),.d (.str x)] []=some (MV,[]):=by
 rw[si,dX];simp only[dj,dq,if_true];show bP (aj _ _ [some (.d (wdD bk nx n 0)),some (.d (.str x)),none,none,none,none,none] [])=_;rw[aP (ρ1:=[some (.d (wdD bk nx n 0)),some (.d (.str x)),some (.d bk),some (.d (.dict (ao nx))),some (.d (.list (nm (nms n)))),some (.d (.int 0)),none]) (T1:=[]) (by rfl)];generalize wdD bk nx n 0=wd;simp[MV,V]
theorem EA{ld:Dl}{x:Nat}{rs:List SS}{y:Str}(h:aO (ao ld) (N x)=some (lnD y rs bx ST)):eX [.d (.dict (ao ld)),.d (.str (N x))] []=some (MV,[]):=by
 have D2:eX [.d (.dict (ao ld)),.d (.str (N x))] []=bP (aj (bv raC eV 100000) (ax (aE .tuple (ae (cI (aD (af inA (af ixD (aa 2) (fUn bf (fC (.int 1)))) (aa 0))) (fC (.str "ring")) (fC (.str "lacks"))) (ae (fCB bY (ae (aa 2) ai)) ai)))) (ρA ld (.str (N x)) [x] none) []):=by
  rw[pH,dX];simp only[dj,dq,if_true];show bP (aj _ _ [some (.d (.dict (ao ld))),some (.d (.str (N x))),none,none] [])=_;rw[aP (ρ1:=ρA ld (.str (N x)) [x] none) (T1:=[]) (by rfl)];rfl
 have la:=ng [] (N x);have cl:=sJ [] (N x);rw[List.nil_append] at la cl;have e1:rw' [x]=nm [N x]:=rfl;have ni:=nZ (N x) []
 have c:raC (ρA ld (.str (N x)) [x] none) []=some (true,[]):=by
  unfold raC ρA;simp[e1,la,cl,cy,h,ni]
 have b:eV (ρA ld (.str (N x)) [x] none) []=some ((.rt MV,ρA ld (.str (N x)) [x] (some (.d (tlD bx ST)))),[]):=by
  unfold eV ρA;unfold lnD tlD bx at h;have sv:=sO;rw[e1];simp[la,h,at3,bg,sv,MV,tlD,bx]
 rw[D2,iD,ot (m:=99999) c b];rfl
section
variable {n m:Nat}{W:Nat->List Nat}(w:Ws n m W)
include w in
theorem moved(hm:m+1=n){q:List Nat}(nd:q.Nodup)(hq:∀k∈q,k<m){k a:Nat}(hk:k<q.length)(ha:a<k)(hin:q[a]'(by omega)∈W q[k]):cb [.d (bkT (gD [n-1]) (rcs n m W false)),.d (.list ((((q.take k++q.drop (k+1)).take a++[q[k]])++(q.take k++q.drop (k+1)).drop a).map (lnI n m (lfA W))))] []=some (.bool false,[]):=by
 have h40:=w.n40;obtain⟨r,hr⟩:∃r,r=q.take k++q.drop (k+1):=⟨_,rfl⟩;rw[←hr]
 have pq:q.Perm (q[k]::r):=by
  have e:q=q.take k++q[k]::q.drop (k+1):=by
   rw[←List.drop_eq_getElem_cons hk,List.take_append_drop]
  rw[hr]
  conv=>lhs;rw[e]
  exact List.perm_middle
 have pq':((r.take a++[q[k]])++r.drop a).Perm (q[k]::r):=by
  have:r=r.take a++r.drop a:=(List.take_append_drop a r).symm
  conv=>rhs;rw[this]
  rw[List.append_assoc];exact List.perm_middle
 have pp:=pq'.trans pq.symm;have nd':=pp.nodup_iff.mpr nd;have hq':∀x∈(r.take a++[q[k]])++r.drop a,inH n m false x:=fun x hx=>.inl (hq x (pp.mem_iff.mp hx))
 have ql:q.length<=40:=gj nd fun x hx=>by have:=hq x hx;omega
 rw[oI w hm nd' hq' (by rw[pp.length_eq];omega)]
 have ta:r.take a=q.take a:=by
  rw[hr,List.take_append_of_le_length (by rw[List.length_take];omega),List.take_take,Nat.min_eq_left (by omega)]
 have:shB W [n-1] ((r.take a++[q[k]])++r.drop a)=false:=by
  rw[List.append_assoc,sU,ta]
  have:shB W ([n-1]++q.take a) ([q[k]]++r.drop a)=false:=by
   show ((W q[k]).all (fun t=>decide (t∈[n-1]++q.take a))&&_)=false
   have:(W q[k]).all (fun t=>decide (t∈[n-1]++q.take a))=false:=by
    rw[List.all_eq_false];refine⟨_,hin,?_⟩;simp only[decide_eq_true_eq];intro z
    rcases List.mem_append.mp z with z|z
    .have h1:=List.mem_singleton.mp z
     have h2:=hq _ (List.getElem_mem (l:=q) (n:=a) (by omega));omega
    .have e:q=q.take a++q[a]'(by omega)::q.drop (a+1):=by
      rw[←List.drop_eq_getElem_cons (by omega),List.take_append_drop]
     have nd2:=nd;rw[e,List.nodup_append] at nd2;exact nd2.2.2 _ z _ List.mem_cons_self rfl
   rw[this];rfl
  rw[this,Bool.and_false]
 rw[this]
include w in
theorem brA(hm:m+1=n){q:List Nat}(nd:q.Nodup)(hq:∀k∈q,k<m){wd:PyData}{x:Str}{R:PyData}{k:Nat}(hk:k<q.length){o7 o8 o9 o10:Option D.W}:∃p7 p8 p9 p10,eW (ρP wd (bkT (gD [n-1]) (rcs n m W false)) x (q.map (lnI n m (lfA W))) R (q.map N) (some (.d (.int k))) o7 o8 o9 o10) []=some ((.nx,ρP wd (bkT (gD [n-1]) (rcs n m W false)) x (q.map (lnI n m (lfA W))) R (q.map N) (some (.d (.int k))) p7 p8 p9 p10),[]):=by
 have h40:=w.n40
 have q40:∀k∈q,k<40:=fun k hk=>by have:=hq k hk;omega
 have ql:q.length<=40:=gj nd q40;have qkm:=hq _ (List.getElem_mem hk)
 have W40:∀t∈W q[k],t<40:=fun t ht=>by have:=w.lt _ qkm t ht;omega
 have pk:atI (q.map (lnI n m (lfA W))) (k:Int)=some (lnI n m (lfA W) q[k]):=gS hk
 have i1:ixD (lnI n m (lfA W) q[k]) (.int 1)=some (.tuple (Rd (rsA (W q[k])))):=by
  rw[oE];unfold rsI lfA;rw[if_pos qkm]
 have rf:=fun ρ=>nP (rsA (W q[k])) ρ [];rw[nM] at rf;have mv:=fun(a:Nat) (ha:a<k) (hin:q[a]'(by omega)∈W q[k])=>moved w hm nd hq hk ha hin;obtain⟨P,hP⟩:∃P,P=q.map (lnI n m (lfA W)):=⟨_,rfl⟩
 have Pl:P.length=q.length:=by rw[hP,List.length_map]
 rw[←hP] at pk ⊢;obtain⟨bk,hbk⟩:∃bk,bk=bkT (gD [n-1]) (rcs n m W false):=⟨_,rfl⟩;rw[←hbk] at mv ⊢
 have s1:aG 7 (bo (aZ (af ixD (af ixD (aa 3) (aa 6)) (fC (.int 1)))) bq (af ixD (aa 0) (fC (.int 0)))) (ρP wd bk x P R (q.map N) (some (.d (.int k))) o7 o8 o9 o10) []=some ((.nx,ρP wd bk x P R (q.map N) (some (.d (.int k))) (some (.d (.list (nm ((W q[k]).map N))))) o8 o9 o10),[]):=by
  unfold ρP;simp[pk,i1,rf]
 have c:=j6 (c:=aD (af inD (af ixD (aa 6) (aa 0)) (aa 8))) (ρ:=ρP wd bk x P R (q.map N) (some (.d (.int k))) (some (.d (.list (nm ((W q[k]).map N))))) o8 o9 o10) (T:=[]) (p:=fun d=>match d with | .int j=>decide (q.getD j.toNat 0∈W q[k])|_=>false) (ds:=bc 0 k) fun d hd=>by
  obtain⟨j,hj,rfl⟩:=List.mem_map.mp hd;have hj:=List.mem_range.mp hj
  have e:atI (nm (q.map N)) (0+(j:Int))=some (.str (N q[j])):=by
   rw[Int.zero_add];unfold nm;rw[List.map_map];exact gS (f:=PyData.str ∘ N) (by omega)
  have hjq:j<q.length:=by omega
  have dN:decide (N q[j]∈(W q[k]).map N)=decide (q[j]∈W q[k]):=decide_eq_decide.mpr (gq W40 (q40 _ (List.getElem_mem hjq)));have i0:=oK (N q[j]) ((W q[k]).map N);rw[dN] at i0
  have gd:q.getD (0+(j:Int)).toNat 0=q[j]:=by
   rw[Int.zero_add,Int.toNat_natCast,List.getD_eq_getElem?_getD,List.getElem?_eq_getElem (by omega),Option.getD_some]
  unfold ρP;simp only[gd];simp only[Int.zero_add] at e;simp[e,i0]
 obtain⟨el,hel⟩:∃el:List Nat,el=(List.range k).filter fun j=>decide (q.getD j 0∈W q[k]):=⟨_,rfl⟩
 have ee:(bc 0 k).filter (fun d=>match d with | .int j=>decide (q.getD j.toNat 0∈W q[k])|_=>false)=el.map fun j:Nat=>PyData.int (j:Int):=by
  unfold bc;rw[List.filter_map,hel]
  have f1:((fun d:PyData=>match d with | .int j=>decide (q.getD j.toNat 0∈W q[k])|_=>false) ∘ fun i:Nat=>PyData.int (0+(i:Int)))=fun j:Nat=>decide (q.getD j 0∈W q[k]):=by
   funext j;show decide (q.getD (0+(j:Int)).toNat 0∈W q[k])=_;rw[Int.zero_add,Int.toNat_natCast]
  rw[f1];refine List.map_congr_left fun j _=>?_;rw[Int.zero_add]
 rw[ee] at c;have rk:cN (k:Int)=true:=rng_ok (by omega) (by omega)
 have s2:aG 8 (bo (bW (aa 6)) (aD (af inD (af ixD (aa 6) (aa 0)) (aa 8))) (aa 0)) (ρP wd bk x P R (q.map N) (some (.d (.int k))) (some (.d (.list (nm ((W q[k]).map N))))) o8 o9 o10) []=some ((.nx,ρP wd bk x P R (q.map N) (some (.d (.int k))) (some (.d (.list (nm ((W q[k]).map N))))) (some (.d (.list (el.map fun j:Nat=>PyData.int (j:Int))))) o9 o10),[]):=by
  have e:bW (aa 6) (ρP wd bk x P R (q.map N) (some (.d (.int k))) (some (.d (.list (nm ((W q[k]).map N))))) o8 o9 o10) []=some (bc 0 k,[]):=by
   show (if cN (k:Int)=true then some (bc 0 (k:Int).toNat,[]) else none)=_;rw[if_pos rk,Int.toNat_natCast]
  rw[lj,kS,e,cD,c,cD];rfl
 have ne:=ne_nil (el.map fun j:Nat=>(j:Int));rw[List.map_map] at ne;have ne':neG (.list (el.map fun j:Nat=>PyData.int (j:Int))) (.list [])=some (.bool (!(el.map fun j:Nat=>(j:Int)).isEmpty)):=ne
 cases hE:el with
 |nil=>
  rw[hE] at s2 ne';refine⟨some (.d (.list (nm ((W q[k]).map N)))),some (.d (.list (([]:List Nat).map fun j:Nat=>PyData.int (j:Int)))),o9,o10,?_⟩;unfold eW;rw[aP s1,aP s2];simp only[List.map_nil] at ne' ⊢;unfold ρP;simp[ne']
 |cons a er=>
  have ha:a∈el:=by rw[hE];exact List.mem_cons_self
  rw[hel,List.mem_filter] at ha;have ak:=List.mem_range.mp ha.1
  have hin:q[a]'(by omega)∈W q[k]:=by
   have:=of_decide_eq_true ha.2
   rwa [List.getD_eq_getElem?_getD,List.getElem?_eq_getElem (by omega),Option.getD_some] at this
  have mv:=mv a ak hin;rw[hE] at s2 ne';have c1:cB P none (some (k:Int))=P.take k:=oj (by omega);have c2:cB P (some ((k:Int)+1)) none=P.drop (k+1):=vc (k:=k+1) (by omega)
  have r1:(P.take k++P.drop (k+1)).length=q.length-1:=by rw[List.length_append,List.length_take,List.length_drop];omega
  have z1:(P.take k).length+(P.drop (k+1)).length<=sizeLine:=by rw[←List.length_append,r1,sz];omega
  have d1:cB (P.take k++P.drop (k+1)) none (some (a:Int))=(P.take k++P.drop (k+1)).take a:=oj (by omega);have d2:cB (P.take k++P.drop (k+1)) (some (a:Int)) none=(P.take k++P.drop (k+1)).drop a:=vc (by omega)
  have em:((((q.take k++q.drop (k+1)).take a++[q[k]])++(q.take k++q.drop (k+1)).drop a).map (lnI n m (lfA W)))=((P.take k++P.drop (k+1)).take a++[lnI n m (lfA W) q[k]])++(P.take k++P.drop (k+1)).drop a:=by
   rw[hP];simp only[List.map_append,List.map_take,List.map_drop,List.map_cons,List.map_nil]
  rw[em] at mv
  have s9:aG 9 (af aR (fSl (aa 3) b9 (fP (aa 6))) (fSl (aa 3) (fP (af aR (aa 6) (fC (.int 1)))) b9)) (ρP wd bk x P R (q.map N) (some (.d (.int k))) (some (.d (.list (nm ((W q[k]).map N))))) (some (.d (.list ((a::er).map fun j:Nat=>PyData.int (j:Int))))) o9 o10) []=some ((.nx,ρP wd bk x P R (q.map N) (some (.d (.int k))) (some (.d (.list (nm ((W q[k]).map N))))) (some (.d (.list ((a::er).map fun j:Nat=>PyData.int (j:Int))))) (some (.d (.list (P.take k++P.drop (k+1))))) o10),[]):=by
   generalize (a::er).map (fun j:Nat=>PyData.int (j:Int))=E8;generalize nm ((W q[k]).map N)=E7;unfold ρP;rw[List.length_take,List.length_drop] at z1;simp[c1,c2,z1]
  have rd:∀(A B:List PyData) (d:PyData),A.length+B.length+1<=1000->A.length+1<=sizeLine/\A.length<sizeLine/\(A++[d]).length+B.length<=sizeLine:=fun A B d h=>by rw[sz];simp;omega
  obtain⟨TA,hTA⟩:∃TA,TA=(P.take k++P.drop (k+1)).take a:=⟨_,rfl⟩;obtain⟨TB,hTB⟩:∃TB,TB=(P.take k++P.drop (k+1)).drop a:=⟨_,rfl⟩;rw[←hTA] at d1 mv;rw[←hTB] at d2 mv
  have lAB:TA.length+TB.length+1<=1000:=by
   rw[hTA,hTB,List.length_take,List.length_drop,r1];omega
  obtain⟨z3,z3',z4⟩:=rd TA TB (lnI n m (lfA W) q[k]) lAB
  have z4':TA.length+1+TB.length<=sizeLine:=by rw[sz];omega
  refine⟨some (.d (.list (nm ((W q[k]).map N)))),some (.d (.list ((a::er).map fun j:Nat=>PyData.int (j:Int)))),some (.d (.list (P.take k++P.drop (k+1)))),some (.d (.int a)),?_⟩;unfold eW;rw[aP s1,aP s2]
  have cT:aD (af neG (aa 8) (aE .list ai)) (ρP wd bk x P R (q.map N) (some (.d (.int k))) (some (.d (.list (nm ((W q[k]).map N))))) (some (.d (.list ((a::er).map fun j:Nat=>PyData.int (j:Int))))) o9 o10) []=some (true,[]):=by
   have:(!((a::er).map fun j:Nat=>(j:Int)).isEmpty)=true:=rfl;rw[this] at ne';generalize (a::er).map (fun j:Nat=>PyData.int (j:Int))=E8 at *;unfold ρP;simp[ne']
  rw[oO,cT,cD,oh,if_pos rfl];rw[aP s9];have a0:atI ((a::er).map fun j:Nat=>PyData.int (j:Int)) 0=some (.int (a:Int)):=gS (k:=0) (q:=a::er) (f:=fun j:Nat=>PyData.int (j:Int)) (by simp)
  have s10:aG 10 (af ixD (aa 8) (fC (.int 0))) (ρP wd bk x P R (q.map N) (some (.d (.int k))) (some (.d (.list (nm ((W q[k]).map N))))) (some (.d (.list ((a::er).map fun j:Nat=>PyData.int (j:Int))))) (some (.d (.list (P.take k++P.drop (k+1))))) o10) []=some ((.nx,ρP wd bk x P R (q.map N) (some (.d (.int k))) (some (.d (.list (nm ((W q[k]).map N))))) (some (.d (.list ((a::er).map fun j:Nat=>PyData.int (j:Int))))) (some (.d (.list (P.take k++P.drop (k+1))))) (some (.d (.int a)))),[]):=by
   generalize (a::er).map (fun j:Nat=>PyData.int (j:Int))=E8 at *;unfold ρP;simp[a0]
  rw[aP s10];generalize (a::er).map (fun j:Nat=>PyData.int (j:Int))=E8 at *;generalize P.take k++P.drop (k+1)=E9 at *;generalize nm ((W q[k]).map N)=E7 at *;generalize lnI n m (lfA W) q[k]=D0 at *;unfold ρP;rw[List.append_assoc,List.singleton_append] at mv;simp[d1,d2,pk,z3,z3',z4',mv]
include w in
theorem BJ(hm:m+1=n)(up:∀k<m,∀t∈W k,k<t){x:Nat}(hx:x<n):eG [.d (WD (gD [n-1]) (rcs n m W false) n m W 0),.d (.str (N x))] []=some (.bool true,[]):=by
 have h40:=w.n40;have B:=boA w hm;obtain⟨q,hp,nd,hqm,hroot,hs⟩:=uI w hm up (rt:=[x]) (fun k hk=>by rw[List.mem_singleton.mp hk];exact hx) (by simp);have hq:∀k∈q,inH n m false k:=fun k hk=>.inl (hqm k hk)
 have q40:∀k∈q,k<40:=fun k hk=>by have:=hqm k hk;omega
 have ql:q.length<=40:=gj nd q40;have hl:=oI w hm nd hq (by omega);rw[hs] at hl;have hd:=wJ (bk:=bkT (gD [n-1]) (rcs n m W false)) (nx:=nxs m W) (n:=n) (x:=N x)
 by_cases hi:x<m
 .have xq:=hroot x (List.mem_singleton.mpr rfl) hi
  have ka:aO (ao (mD (lnI n m (lfA W)) q)) (N x)=some (lnD (N x) (rsA (W x)) bx ST):=by
   rw[fD q q40 (by omega),if_pos xq];unfold lnI;rw[if_pos hi];rfl
  refine vB (S:=q.map N) hp hd hl (jF w (fl:=false) (fun z=>nomatch z) hi) (fun ρ=>mC B hq) ((k8 q40).mpr nd) (by rw[List.length_map];omega) (by rw[List.length_map,List.length_map]) (List.mem_map.mpr ⟨x,xq,rfl⟩) (qO B hq nd (by omega) xq (EA ka)) vv ?_ fun k hk o7 o8 o9 o10=>brA w hm nd hqm (by simpa using hk);rw[←rQ];refine sg B (fun k hk=>?_) (by rw[List.length_append,List.length_take];omega) (u7 fun z=>by rw[z] at xq;cases xq)
  rcases List.mem_append.mp hk with z|z
  .exact hq k z
  .exact hq k (List.mem_of_mem_take z)
 .exact uD hp hd hl (ow w (fl:=false) hx fun z=>by
   rcases z with z|⟨z,_⟩
   .exact hi z
   .cases z)
include w in
theorem Ef(hm:m+1=n)(up:∀k<m,∀t∈W k,k<t){x:Nat}(hx:x<n):fq [.d (bkT (gD [n-1]) (rcs n m W false)),.d (.str (N x))] []=some (MV,[]):=by
 have h40:=w.n40;obtain⟨A,_,mem,_,a⟩:=mE w hm up;have k:=oN A (fun y hy=>by have:=(mem y).mp hy;omega) (t:=x) (by omega);rw[if_pos ((mem x).mpr hx)] at k;have d:bkT (gD [n-1]) (rcs n m W false)=.tuple [.dict (ao (gD [n-1])),.dict (ao (rcs n m W false))]:=rfl;rw[d];generalize cmD m (fun k=>(W k,[])) []=C at *;simp[fq,a,bg,cy,k,MV]
include w in
theorem Fw(hm:m+1=n)(up:∀k<m,∀t∈W k,k<t):∃ds:Dc,fT [.d (bkT (gD [n-1]) (rcs n m W false))] []=some (.dict ds,[])/\ds.length=n:=by
 obtain⟨A,_,_,hl,a⟩:=mE w hm up;refine⟨ao (gD A),?_,by rw[eg];unfold gD;rw[List.length_map,hl]⟩;have d:bkT (gD [n-1]) (rcs n m W false)=.tuple [.dict (ao (gD [n-1])),.dict (ao (rcs n m W false))]:=rfl;rw[d];generalize cmD m (fun k=>(W k,[])) []=C at *;simp[fT,a,bg]
variable {fl:Bool}{way:Int}(hw:WayN n m W way fl)
include w hw in
theorem Fv:fT [.d (bkT [] (rcs n m W fl))] []=some (.dict [],[]):=by
 have a:=ma w hw.xm;have d:bkT [] (rcs n m W fl)=.tuple [.dict [],.dict (ao (rcs n m W fl))]:=rfl;rw[d];generalize cmD m (s0 W []).1 (exC n fl)=C at *;simp[fT,a,bg]
include w hw in
theorem Ee{x:Nat}(hx:x<n):∃R,SV 2 R/\fq [.d (bkT [] (rcs n m W fl)),.d (.str (N x))] []=some (R,[])/\c7 [.d (WD [] (rcs n m W fl) n m W way),.d (.str (N x))] []=some (R,[]):=by
 obtain⟨R,hR,hd,hal⟩:=sC w hw (DX w hw) (vH w) (bk:=bkT [] (rcs n m W fl)) hx trivial;refine⟨R,hR,?_,hd⟩;have a:=ma w hw.xm;have b:=qv w hw.xm;have d:bkT [] (rcs n m W fl)=.tuple [.dict [],.dict (ao (rcs n m W fl))]:=rfl;have k0:aO [] (N x)=none:=rfl;rw[d];generalize cmD m (s0 W []).1 (exC n fl)=C at *;simp[fq,a,bg,cy,k0,b,hal]
end
theorem vi(ns:List Int)(k:Nat)(T:Tp):∃c:Int,dE [.d (.list (ns.map PyData.int)),.d (.int k)] T=some (.int c,T):=by
 by_cases h:k<ns.length
 .refine⟨ns[k],?_⟩
  have e:atI (ns.map PyData.int) (k:Int)=some (.int ns[k]):=gS h
  have h':(k:Int)<ns.length:=by omega
  simp[dE,h,h',e]
 .refine⟨0,?_⟩
  have h':¬(k:Int)<ns.length:=by omega
  simp[dE,h,h']
theorem D4{sc d1 d2 d3 d4 d5 d6 R:PyData}{x:Str}(hR:SV 2 R)(h1:fq [.d d2,.d (.str x)] []=some (R,[]))(h2:c7 [.d d1,.d (.str x)] []=some (R,[]))(h3:eG [.d d1,.d (.str x)] []=some (.bool true,[])):gA [some (.d sc),some (.d d1),some (.d d2),some (.d d3),some (.d d4),some (.d d5),some (.d d6),some (.d (.str x))] []=some ((.nx,[some (.d sc),some (.d d1),some (.d d2),some (.d d3),some (.d d4),some (.d d5),some (.d d6),some (.d (.str x))]),[]):=by
 have sm:=vg hR 25 [] (by decide);unfold gA;simp[h1,h2,h3,sm]
theorem DY{sc d1 d2 d3 d4 d5 d6:PyData}{x y z:Str}(h:∀u,u=x\/u=y\/u=z->gA [some (.d sc),some (.d d1),some (.d d2),some (.d d3),some (.d d4),some (.d d5),some (.d d6),some (.d (.str u))] []=some ((.nx,[some (.d sc),some (.d d1),some (.d d2),some (.d d3),some (.d d4),some (.d d5),some (.d d6),some (.d (.str u))]),[])){o7:Option D.W}:forL 7 gA [.str x,.str y,.str z] [some (.d sc),some (.d d1),some (.d d2),some (.d d3),some (.d d4),some (.d d5),some (.d d6),o7] []=some ((.nx,[some (.d sc),some (.d d1),some (.d d2),some (.d d3),some (.d d4),some (.d d5),some (.d d6),some (.d (.str z))]),[]):=by
 unfold forL;simp only[List.set_cons_succ,List.set_cons_zero];rw[h x (.inl rfl)];show forL 7 gA [.str y,.str z] _ []=_;unfold forL;simp only[List.set_cons_succ,List.set_cons_zero];rw[h y (.inr (.inl rfl))];show forL 7 gA [.str z] _ []=_;unfold forL;simp only[List.set_cons_succ,List.set_cons_zero];rw[h z (.inr (.inr rfl))];rfl
theorem D3{o:PyData->PyData->Option PyData}{sc wd bk d3:PyData}{S:List PyData}{n:Nat}{way b:Int}{ds:Dc}(nml:S.length=n)(il:intD [.bool (decide (way=0))]=some (.int b))(mi:o (.int n) (.int b)=some (.int ds.length)):fIf (aD (af neD (fCB aT (ae (aa 6) ai)) (af o (fCB aT (ae (aa 4) ai)) (fCB intD (ae (af eqD (aa 5) (fC (.int 0))) ai))))) (ax (fC (.bool false))) aH [some (.d sc),some (.d wd),some (.d bk),some (.d d3),some (.d (.list S)),some (.d (.int way)),some (.d (.dict ds)),none] []=some ((.nx,[some (.d sc),some (.d wd),some (.d bk),some (.d d3),some (.d (.list S)),some (.d (.int way)),some (.d (.dict ds)),none]),[]):=by simp[nml,il,mi]
theorem DZ{sc wd bk d3 d5 d6:PyData}{S:List PyData}{n:Nat}{c:Int}{x y z:Str}(np:0<n)(nml:S.length=n)(hc:dE [.d sc,.d (.int 1)] []=some (.int c,[]))(n64:(n:Int)<18446744073709551616)(i0:atI S 0=some (.str x))(i1:atI S (c % (n:Int))=some (.str y))(i2:atI S (-1)=some (.str z)):aZ (aE .list (ae (af ixD (aa 4) (fC (.int 0))) (ae (af ixD (aa 4) (af bZ (aB dE (ae (aa 0) (ae (fC (.int 1)) ai))) (fCB aT (ae (aa 4) ai)))) (ae (af ixD (aa 4) (fUn bf (fC (.int 1)))) ai)))) [some (.d sc),some (.d wd),some (.d bk),some (.d d3),some (.d (.list S)),some (.d d5),some (.d d6),none] []=some ([.str x,.str y,.str z],[]):=by
 have n0:¬(n:Int)=0:=by omega
 have n0':¬n=0:=by omega
 have np':(0:Int)<n:=by omega
 simp[i0,hc,nml,i1,i2,n0,n0',np,np',n64]
theorem AS{n:Nat}{j:Int}(h:n<=40):bS (.int n) (.int j)=some (.int ((n:Int)*j)):=by
 unfold bS;dsimp only;rw[if_pos];refine .inl ⟨?_,?_⟩
 .have:(-(2^64):Int)<0:=by decide +kernel
  omega
 .have:(40:Int)<2^64:=by decide +kernel
  omega
theorem uN{ns:List Int}{bk:PyData}{nx:Dl}{n:Nat}{way:Int}{ds:Dc}(n2:2<=n)(n40:n<=40)(hb:gv [.d (.list (ns.map PyData.int))] []=some (wdD bk nx n way,[]))(hg:fT [.d bk] []=some (.dict ds,[]))(hl:ds.length=if way=0 then n else 0)(hf:∀x<n,∃R,SV 2 R/\fq [.d bk,.d (.str (N x))] []=some (R,[])/\c7 [.d (wdD bk nx n way),.d (.str (N x))] []=some (R,[]))(hp:∀x<n,eG [.d (wdD bk nx n way),.d (.str (N x))] []=some (.bool true,[])){P:PyData}(hP:dH [.d bk,.d (.list (nm (nms n)))] []=some (P,[]))(hL:cb [.d bk,.d P] []=some (.bool true,[])):iH [.d (.list (ns.map PyData.int))] []=some (.bool true,[]):=by
 obtain⟨c,hc⟩:=vi ns 1 []
 have nl:(nms n).length=n:=by unfold nms;simp
 have nml:(nm (nms n)).length=n:=by rw[cL,nl]
 have at0:∀i<n,atI (nm (nms n)) (i:Int)=some (.str (N i)):=fun i hi=>by
  unfold nms nm;rw[List.map_map];have:=gS (f:=PyData.str ∘ N) (q:=List.range n) (k:=i) (by simpa using hi);simpa using this
 have i0:atI (nm (nms n)) 0=some (.str (N 0)):=at0 0 (by omega);have in0:0<=c % (n:Int):=Int.emod_nonneg _ (by omega);have in1:c % (n:Int)<n:=Int.emod_lt_of_pos _ (by omega);obtain⟨j,hj⟩:∃j:Nat,c % (n:Int)=j:=⟨(c % (n:Int)).toNat,by omega⟩
 have jn:j<n:=by omega
 have i1:atI (nm (nms n)) (c % (n:Int))=some (.str (N j)):=by rw[hj];exact at0 j jn
 have i2:atI (nm (nms n)) (-1)=some (.str (N (n-1))):=by
  unfold atI ixN;rw[nml,if_neg (by omega),if_pos (by omega)];have:=at0 (n-1) (by omega);unfold atI ixN at this;rw[nml,if_pos (by omega),if_pos (by omega)] at this
  have e:((-1:Int)+(n:Int)).toNat=((n-1:Nat):Int).toNat:=by omega
  rw[e];exact this
 have wl:wdD bk nx n way=.list [bk,.dict (ao nx),.list (nm (nms n)),.int way]:=rfl;rw[As,dX];simp only[dj,dq,if_true];show bP (aj _ _ [some (.d (.list (ns.map PyData.int))),none,none,none,none,none,none,none] [])=_;rw[aP (ρ1:=[some (.d (.list (ns.map PyData.int))),some (.d (wdD bk nx n way)),none,none,none,none,none,none]) (T1:=[]) (by simp[hb])];rw[aP (ρ1:=[some (.d (.list (ns.map PyData.int))),some (.d (wdD bk nx n way)),some (.d bk),some (.d (.dict (ao nx))),some (.d (.list (nm (nms n)))),some (.d (.int way)),none,none]) (T1:=[]) (by rfl)];rw[aP (ρ1:=[some (.d (.list (ns.map PyData.int))),some (.d (wdD bk nx n way)),some (.d bk),some (.d (.dict (ao nx))),some (.d (.list (nm (nms n)))),some (.d (.int way)),some (.d (.dict ds)),none]) (T1:=[]) (by simp[hg])];have bd:=fun x hx=>(hf x hx).elim fun R h=>D4 (sc:=.list (ns.map PyData.int)) (d3:=.dict (ao nx)) (d4:=.list (nm (nms n))) (d5:=.int way) (d6:=.dict ds) h.1 h.2.1 h.2.2 (hp x hx);generalize wdD bk nx n way=wd at *
 have mi:bS (.int n) (.int (if way=0 then 1 else 0))=some (.int ds.length):=by
  rw[AS n40,hl]
  by_cases h:way=0 <;> simp[h]
 rw[aP (ρ1:=[some (.d (.list (ns.map PyData.int))),some (.d wd),some (.d bk),some (.d (.dict (ao nx))),some (.d (.list (nm (nms n)))),some (.d (.int way)),some (.d (.dict ds)),none]) (T1:=[]) (by
  have il:intD [.bool (decide (way=0))]=some (.int (if way=0 then 1 else 0)):=by
   rw[n8]
   by_cases h:way=0 <;> simp[h]
  exact D3 nml il mi)]
 rw[aP (ρ1:=[some (.d (.list (ns.map PyData.int))),some (.d wd),some (.d bk),some (.d (.dict (ao nx))),some (.d (.list (nm (nms n)))),some (.d (.int way)),some (.d (.dict ds)),some (.d (.str (N (n-1))))]) (T1:=[]) (by
  rw[jB,DZ (by omega) nml hc (by omega) i0 i1 i2]
  exact DY fun u hu=>by
   rcases hu with rfl|rfl|rfl
   .exact bd 0 (by omega)
   .exact bd j jn
   .exact bd (n-1) (by omega))]
 simp[hP,hL,gk]
theorem Cg{i:Nat}{body:FS}{d:PyData}{r:List PyData}{ρ ρ1:Rho}{T T1:Tp}(h:body (ρ.set i (some (.d d))) T=some ((.nx,ρ1),T1)):forL i body (d::r) ρ T=forL i body r ρ1 T1:=by
 conv=>lhs;unfold forL
 rw[h];rfl
theorem og{i:Nat}{body:FS}{I:Nat->Rho->Tp->Prop}:∀(ds:List PyData) (k:Nat) (ρ:Rho) (T:Tp),I k ρ T ->
  (∀j d ρ T,ds[j]? = some d->I (k+j) ρ T->∃ρ' T',body (ρ.set i (some (.d d))) T=some ((.nx,ρ'),T')/\I (k+j+1) ρ' T')->∃ρ' T',forL i body ds ρ T=some ((.nx,ρ'),T')/\I (k+ds.length) ρ' T'
 |[],k,ρ,T,h,_=>⟨ρ,T,rfl,h⟩
 |d::r,k,ρ,T,h,hs=>by
  obtain⟨ρ1,T1,e1,h1⟩:=hs 0 d ρ T rfl h
  obtain⟨ρ2,T2,e2,h2⟩:=og (body:=body) (I:=I) r (k+1) ρ1 T1 h1 fun j d ρ T hd hI=>by
   rw[show k+1+j=k+(j+1) by omega] at hI ⊢;exact hs (j+1) d ρ T (by simpa using hd) hI
  refine⟨ρ2,T2,?_,by rw[List.length_cons,show k+(r.length+1)=k+1+r.length by omega];exact h2⟩;unfold forL;rw[e1];exact e2
theorem tJ{n j:Nat}{d:PyData}(h:(bc 0 n)[j]? = some d):d=.int (j:Int)/\j<n:=by
 unfold bc at h;rw[List.getElem?_map] at h
 by_cases hj:j<n
 .rw[List.getElem?_range hj] at h
  simp at h;exact⟨h.symm,hj⟩
 .rw[List.getElem?_eq_none (by simp;omega)] at h
  cases h
def fO(A T:Tp):Prop:=∃(ds:List PyData) (i:Int),T=A++[[.list ds,.int i]]/\0<=i/\0<ds.length/\ds.length<=1000/\∀d∈ds,∃c:Int,d=.int c
theorem Cr{o:PyData->PyData->Option PyData}{A:Tp}{zs xs:List PyData}{y:PyData}:op2 o (A++[.list zs::xs]) (.tp A.length) (.d y)=mkD (A++[.list zs::xs]) (o (.list (.list zs::xs)) y):=by
 have h:view (A++[.list zs::xs]) (.tp A.length)=some (.list (.list zs::xs)):=by simp[view,hG,isO]
 unfold op2;rw[h];rfl
theorem y9{α:Type}(A:List α)(a b:α):(A++[a]).set A.length b=A++[b]:=by
 induction A with
 |nil=>rfl
 |cons x r ih=>exact congrArg (x::·) ih
theorem Ab{A:Tp}{a b:List PyData}:(A++[a]).set A.length b=A++[b]:=y9 A a b
theorem Fs:ixN 2 1=some 1:=rfl
theorem F2{α:Type}{a b:α}:atI [a,b] 0=some a:=rfl
theorem F1{α:Type}{a b:α}:atI [a,b] 1=some b:=rfl
theorem jE{A T:Tp}{m:Int}(t:fO A T)(h1:0<m):∃r T',bX [.tp A.length,.d (.int m)] T=some (.int r,T')/\fO A T'/\0<=r/\r<m:=by
 obtain⟨ds,i,rfl,hi,hl,hl2,hd⟩:=t
 have hp:(0:Int)<(ds.length:Int):=by omega
 obtain⟨d,e1,hm⟩:=oo (xs:=ds) (i:=i % (ds.length:Int)) (Int.emod_nonneg _ (by omega)) (Int.emod_lt_of_pos _ hp);obtain⟨c,rfl⟩:=hd d hm;refine⟨c % m,A++[[.list ds,.int (i+1)]],?_,⟨ds,i+1,rfl,by omega,hl,hl2,hd⟩,Int.emod_nonneg _ (by omega),Int.emod_lt_of_pos _ h1⟩
 have e2:i+1-1=i:=by omega
 simp[bX,pf,Cr,F2,F1,Fs,Ab,e2,hp,e1,h1,hl]
def ρD(c N:Int)(fs:List PyData)(nu mi:Int)(o:Option D.W):Rho:=[some (.d (.int c)),some (.d (.int N)),some (.loc (.list fs)),some (.d (.int nu)),some (.d (.int mi)),o]
theorem Be:1000<sizeLine:=by decide
theorem u6{c N:Int}{T:Tp}:∀(ks:List Int) (fs:List PyData) (nu mi:Int) (o:Option D.W),-18446744073709551616<mi->mi<18446744073709551616->fs.length+ks.length<=1000->(∀d∈fs,∃c:Int,d=.int c) ->
  ∃fs' nu' mi' o',forL 5 ig (ks.map PyData.int) (ρD c N fs nu mi o) T=some ((.nx,ρD c N fs' nu' mi' o'),T)/\fs'.length=fs.length+ks.length/\∀d∈fs',∃c:Int,d=.int c
 |[],fs,nu,mi,o,_,_,_,hf=>⟨fs,nu,mi,o,rfl,by simp,hf⟩
 |k::ks,fs,nu,mi,o,h1,h2,hl,hf=>by
  have hl':fs.length+(ks.length+1)<=1000:=hl;have bl:=Be
  have hl1:fs.length<sizeLine:=by omega
  have m2:0<=(mi*mi+48271*mi+7*k) % 2147483647/\(mi*mi+48271*mi+7*k) % 2147483647<2147483647:=⟨Int.emod_nonneg _ (by decide),Int.emod_lt_of_pos _ (by decide)⟩;generalize hmi:(mi*mi+48271*mi+7*k) % 2147483647=mi' at m2
  have ap:∀(x:Int),∀d∈fs++[PyData.int x],∃c:Int,d=.int c:=fun x d hd=>by
   rcases List.mem_append.mp hd with z|z
   .exact hf d z
   .exact⟨x,List.mem_singleton.mp z⟩
  have hst:∃x nu',ig (List.set (ρD c N fs nu mi o) 5 (some (.d (.int k)))) T=some ((.nx,ρD c N (fs++[.int x]) nu' mi' (some (.d (.int k)))),T):=by
   by_cases hn:0<nu
   .refine⟨nu % 720720,nu / 720720,?_⟩
    simp[ig,sr,ρD,h1,h2,hn,hl1,hmi]
   .refine⟨(mi' * 69621+13*k) % 2147483629 / 3,nu,?_⟩
    simp[ig,sr,ρD,h1,h2,hn,hl1,hmi]
  obtain⟨x,nu',st⟩:=hst;obtain⟨fs',nu2,mi2,o2,e1,e2,e3⟩:=u6 (c:=c) (N:=N) (T:=T) ks (fs++[.int x]) nu' mi' (some (.d (.int k))) (by omega) (by omega) (by simp;omega) (ap x);refine⟨fs',nu2,mi2,o2,?_,by rw[e2];simp;omega,e3⟩;rw[List.map_cons,Cg st];exact e1
theorem zk(n:Nat):bc 0 n=((List.range n).map fun(i:Nat)=>(i:Int)).map PyData.int:=by
 unfold bc;rw[List.map_map]
 exact List.map_congr_left fun i _=>by simp
theorem CU{c N:Int}{T:Tp}(h0:0<N)(h1:N<=1000):∃ds,ia [.d (.int c),.d (.int N)] T=some (.list ds,T)/\ds.length=N.toNat/\∀d∈ds,∃c:Int,d=.int c:=by
 have hr:=rng_ok (j:=N) (by omega) h1;have m0:0<=c % 2147483629/\c % 2147483629<2147483629:=⟨Int.emod_nonneg _ (by decide),Int.emod_lt_of_pos _ (by decide)⟩
 have key:∀nu,∃ds o,forL 5 ig (bc 0 N.toNat) (ρD c N [] nu (c % 2147483629+48271) none) T=some ((.nx,o),T)/\(∃a b d e,o=ρD c N ds a b d/\e=())/\ds.length=N.toNat/\∀d∈ds,∃c:Int,d=.int c:=fun nu=>by
  obtain⟨fs',nu2,mi2,o2,e1,e2,e3⟩:=u6 (c:=c) (N:=N) (T:=T) ((List.range N.toNat).map fun(i:Nat)=>(i:Int)) [] nu (c % 2147483629+48271) none (by omega) (by omega) (by simp;omega) (by simp);rw[←zk] at e1;exact⟨fs',_,e1,⟨_,_,_,(),rfl,rfl⟩,by rw[e2];simp,e3⟩
 by_cases hc:1000000000000000000<=c
 .obtain⟨ds,o,e1,⟨a,b,d,e,rfl,_⟩,e3,e4⟩:=key c
  refine⟨ds,?_,e3,e4⟩;rw[qw];simp[ρD] at e1;simp[hc,hr,e1]
 .obtain⟨ds,o,e1,⟨a,b,d,e,rfl,_⟩,e3,e4⟩:=key 0
  refine⟨ds,?_,e3,e4⟩;rw[qw];simp[ρD] at e1;simp[hc,hr,e1]
theorem C2{A:Tp}{ds:List PyData}(h0:0<ds.length)(h1:ds.length<=1000)(h:∀d∈ds,∃c:Int,d=.int c):fO A (A++[[.list ds,.int 0]]):=⟨ds,0,rfl,by decide,h0,h1,h⟩
theorem AQ{i:Nat}{g:FA}{fr:FS}{ρ:Rho}{T:Tp}:jA i g fr ρ T=bnd (g ρ T) fun ws T1=>openK i fr ρ (dA ws) T1:=rfl
theorem AR{i:Nat}{fr:FS}{ρ:Rho}{T:Tp}{a b:PyData}:openK i fr ρ (some [a,b]) T=iw T.length (fr (ρ.set i (some (.tp T.length))) (T++[[a,b]])):=rfl
theorem yQ{n:Nat}{fl:Fl}{ρ:Rho}{T:Tp}{row:List PyData}(h:T.length=n):iw n (some ((fl,ρ),T++[row]))=some ((fl,iO n ρ),T):=by
 have e:jI (T++[row])=some (T,row):=by
  unfold jI;have h1:List.getLast? (T++[row])=some row:=List.getLast?_concat ..;have h2:List.dropLast (T++[row])=T:=List.dropLast_concat ..;rw[h1,h2]
 simp[iw,e,h]
theorem ED:∀j:Nat,j<26->atI LET.cps.toList (j:Int)=some (LET.cps.toList.getD j 0):=by decide +kernel
theorem CV:LET.length=26:=by decide +kernel
theorem GL{om oi od oa op:PyData->PyData->Option PyData}{i c c1 L y z u v x:PyData}{a b:Option D.W}{ρ:Rho}{T:Tp}(h1:om i c=some y)(h2:oi L y=some z)(h3:od i c=some u)(h4:oa c1 u=some v)(h5:op z v=some x):af op (af oi (aa 3) (af om (aa 0) (fC c))) (af oa (fC c1) (af od (aa 0) (fC c))) (some (.d i)::a::b::some (.d L)::ρ) T=some (.d x,T):=by simp[h1,h2,h3,h4,h5]
theorem Fi{i:Nat}{o2:PyData}{a b:Option D.W}{ρ:Rho}{T:Tp}(h2:o2=.str LET)(hi:i<40):af bS (af ixD (aa 3) (af bZ (aa 0) (fC (.int 26)))) (af aR (fC (.int 1)) (af dS (aa 0) (fC (.int 26)))) (some (.d (.int (0+(i:Int))))::a::b::some (.d o2)::ρ) T=some (.d (.str (N i)),T):=by
 subst h2
 have e1:(i:Int) % 26=((i % 26:Nat):Int):=by omega
 have e2:=ED (i % 26) (by omega)
 have z1:LET.length<=sizeLine:=by rw[CV,sz];decide
 have ix:ixD (.str LET) (.int ((i:Int) % 26))=some (.str ⟨#[LET.cps.toList.getD (i % 26) 0]⟩):=by
  show (if LET.length<=sizeLine then (atI LET.cps.toList ((i:Int) % 26)).map _ else none)=_;rw[if_pos z1,e1,e2];rfl
 have mu:bS (.str ⟨#[LET.cps.toList.getD (i % 26) 0]⟩) (.int (1+(i:Int) / 26))=some (.str (N i)):=by
  show (if _ then _ else _)=_;rw[if_pos ⟨by omega,by omega,show (1:Nat)<=1000 by decide⟩];rfl
 rw[Int.zero_add];exact GL rfl ix rfl rfl mu
def ρB(sc:PyData)(n:Nat)(nx rc:Dl)(o7 o8 o9 o10 o11 o12 o13 o14:Option D.W):Rho:=[some (.d sc),some (.tp 0),some (.d (.str LET)),some (.d (.int n)),some (.d (.list (nm (nms n)))),some (.loc (.dict (ao nx))),some (.loc (.dict (ao rc))),o7,o8,o9,o10,o11,o12,o13,o14]
theorem jv{n i:Nat}(h:i<n):atI (nm (nms n)) (i:Int)=some (.str (N i)):=by
 unfold nms nm;rw[List.map_map];have:=gS (f:=PyData.str ∘ N) (q:=List.range n) (k:=i) (by simpa using h);simpa using this
theorem uL{n k:Nat}{v:Int}(h:k+1<n)(hv:(k:Int)<v):∃t:Nat,eP [.int ((n:Int)-1),.int v]=some (.int t)/\k<t/\t<n:=by
 by_cases z:v<(n:Int)-1
 .refine⟨v.toNat,?_,by omega,by omega⟩
  show some (PyData.int (if v<(n:Int)-1 then v else (n:Int)-1))=_;rw[if_pos z]
  congr 2
  omega
 .refine⟨n-1,?_,by omega,by omega⟩
  show some (PyData.int (if v<(n:Int)-1 then v else (n:Int)-1))=_;rw[if_neg z]
  congr 2
  omega
section
variable {sc:PyData}{n:Nat}{nx rc:Dl}{k:Nat}(hk:k+1<n){o8 o10 o11 o12 o13 o14:Option D.W}{T:Tp}
include hk in
theorem Cb{fl:List Nat}(hf:∀t∈fl,k<t/\t<n){j:Int}(hj:0<=j):∃t,(k<t/\t<n)/\∃p11,ik (ρB sc n nx rc (some (.d (.int k))) o8 (some (.d (rcp fl))) (some (.d (.int j))) o11 o12 o13 o14) T=some ((.nx,ρB sc n nx rc (some (.d (.int k))) o8 (some (.d (rcp (t::fl)))) (some (.d (.int j))) p11 o12 o13 o14),T):=by
 have m0:=Int.emod_nonneg (j+k) (show (3:Int)≠0 by decide);obtain⟨t,e,h1,h2⟩:=uL (v:=(k:Int)+1+(j+k) % 3) hk (by omega);refine⟨t,⟨h1,h2⟩,some (.d (.int t)),?_⟩;have na:=jv h2
 have s1:aG 11 (fCB eP (ae (af cv (aa 3) (fC (.int 1))) (ae (af aR (af aR (aa 7) (fC (.int 1))) (af bZ (af aR (aa 10) (aa 7)) (fC (.int 3)))) ai))) (ρB sc n nx rc (some (.d (.int k))) o8 (some (.d (rcp fl))) (some (.d (.int j))) o11 o12 o13 o14) T=some ((.nx,ρB sc n nx rc (some (.d (.int k))) o8 (some (.d (rcp fl))) (some (.d (.int j))) (some (.d (.int t))) o12 o13 o14),T):=by
  generalize rcp fl=RF;unfold ρB;simp[e]
 unfold ik;rw[aP s1];generalize hR:rcp fl=RF
 have r2:rcp (t::fl)=.tuple [.str "want",.tuple [.str "put",.str (N t)],RF]:=by
  show wn t (rcp fl)=_;rw[hR];rfl
 rw[r2];unfold ρB;simp[na]
include hk in
theorem Cc(c:Nat):∃fl:List Nat,fl.length=c/\(∀t∈fl,k<t/\t<n)/\∃p10 p11,forL 10 ik (bc 0 c) (ρB sc n nx rc (some (.d (.int k))) o8 (some (.d SAY)) o10 o11 o12 o13 o14) T=some ((.nx,ρB sc n nx rc (some (.d (.int k))) o8 (some (.d (rcp fl))) p10 p11 o12 o13 o14),T):=by
 obtain⟨ρ',T',e,fl,h1,h2,p10,p11,rfl,rfl⟩:=og (i:=10) (body:=ik) (I:=fun c ρ T'=>∃fl:List Nat,fl.length=c/\(∀t∈fl,k<t/\t<n)/\∃p10 p11,ρ=ρB sc n nx rc (some (.d (.int k))) o8 (some (.d (rcp fl))) p10 p11 o12 o13 o14/\T'=T) (bc 0 c) 0 (ρB sc n nx rc (some (.d (.int k))) o8 (some (.d SAY)) o10 o11 o12 o13 o14) T ⟨[],rfl,fun _ z=>(nomatch z),o10,o11,rfl,rfl⟩ fun j d ρ T1 hd hI=>by
  obtain⟨fl,h1,h2,p10,p11,rfl,rfl⟩:=hI;obtain⟨rfl,hj⟩:=tJ hd;obtain⟨t,ht,q11,e⟩:=Cb hk (sc:=sc) (nx:=nx) (rc:=rc) (o8:=o8) (o11:=p11) (o12:=o12) (o13:=o13) (o14:=o14) (T:=T1) h2 (j:=(j:Int)) (by omega);refine⟨_,T1,e,t::fl,by rw[List.length_cons,h1],fun y hy=>?_,_,_,rfl,rfl⟩
  rcases List.mem_cons.mp hy with rfl|z
  .exact ht
  .exact h2 y z
 refine⟨fl,?_,h2,p10,p11,e⟩;rw[h1,r6];omega
end
def tg(W:Nat->List Nat):Nat->PyData:=fun k=>.str (N ((W k).headD 0))
structure Bd(n k:Nat)(W:Nat->List Nat):Prop where
 ne:∀i<k,W i≠[]
 le:∀i<k,(W i).length<=12
 lt:∀i<k,∀t∈W i,i<t/\t<n
theorem kH{f g:Nat->PyData}{A:List Nat}(h:∀x∈A,f x=g x):mD f A=mD g A:=List.map_congr_left fun x hx=>by rw[h x hx]
theorem CK{sc:PyData}{n k:Nat}{W:Nat->List Nat}(n40:n<=40)(hk:k+1<n)(b:Bd n k W){T:Tp}(ht:fO [] T){o8 o9 o10 o11:Option D.W}:∃W' T' p8 p9 p10 p11,Bd n (k+1) W'/\fO [] T'/\ij (ρB sc n (mD (tg W) (List.range k)) (mD (fun i=>rcp (W i)) (List.range k)) (some (.d (.int k))) o8 o9 o10 o11 none none none) T=some ((.nx,ρB sc n (mD (tg W') (List.range (k+1))) (mD (fun i=>rcp (W' i)) (List.range (k+1))) (some (.d (.int k))) p8 p9 p10 p11 none none none),T'):=by
 obtain⟨r1,T1,e1,t1,r10,r11⟩:=jE (m:=2) ht (by decide);obtain⟨r2,T2,e2,t2,r20,r21⟩:=jE (m:=4) t1 (by decide);have e1':bX [.tp 0,.d (.int 2)] T=some (.int r1,T1):=e1;have e2':bX [.tp 0,.d (.int 4)] T1=some (.int r2,T2):=e2;obtain⟨st,es,s1,s2⟩:=uL (v:=(k:Int)+1+r1) hk (by omega)
 obtain⟨c,ec,c11⟩:∃c:Nat,atI [PyData.int 0,.int 0,.int 0,.int 11] r2=some (.int c)/\c<=11:=by
  have:r2=0\/r2=1\/r2=2\/r2=3:=by omega
  rcases this with rfl|rfl|rfl|rfl
  .exact⟨0,rfl,by decide⟩
  .exact⟨0,rfl,by decide⟩
  .exact⟨0,rfl,by decide⟩
  .exact⟨11,rfl,by decide⟩
 have r40:∀x∈List.range k,x<40:=fun x hx=>by have:=List.mem_range.mp hx;omega
 have kn:k∉List.range k:=fun z=>by have:=List.mem_range.mp z;omega
 obtain⟨fl,f1,f2,p10,p11,el⟩:=Cc hk (sc:=sc) (nx:=mD (tg W) (List.range k)++[(N k,.str (N st))]) (rc:=mD (fun i=>rcp (W i)) (List.range k)) (o8:=some (.d (.int st))) (o10:=o10) (o11:=o11) (o12:=none) (o13:=none) (o14:=none) (T:=T2) c
 obtain⟨W',hW'⟩:∃W':Nat->List Nat,W'=fun i=>if i=k then st::fl else W i:=⟨_,rfl⟩
 have Wk:W' k=st::fl:=by rw[hW'];simp
 have Wi:∀i<k,W' i=W i:=fun i hi=>by rw[hW'];simp[show ¬i=k by omega]
 refine⟨W',T2,some (.d (.int st)),some (.d (rcp fl)),p10,p11,⟨fun i hi=>?_,fun i hi=>?_,fun i hi t h=>?_⟩,t2,?_⟩
 .by_cases z:i=k
  .rw[z,Wk];simp
  .rw[Wi i (by omega)];exact b.ne i (by omega)
 .by_cases z:i=k
  .rw[z,Wk];simp;omega
  .rw[Wi i (by omega)];exact b.le i (by omega)
 .by_cases z:i=k
  .rw[z,Wk] at h
   rw[z]
   rcases List.mem_cons.mp h with rfl|q
   .exact⟨s1,s2⟩
   .exact f2 t q
  .rw[Wi i (by omega)] at h
   exact b.lt i (by omega) t h
 .have nx':mD (tg W') (List.range (k+1))=mD (tg W) (List.range k)++[(N k,.str (N st))]:=by
   rw[List.range_succ];unfold mD;rw[List.map_append]
   congr 1
   .exact kH fun x hx=>by unfold tg;rw[Wi x (List.mem_range.mp hx)]
   .show [(N k,tg W' k)]=_
    unfold tg;rw[Wk];rfl
  have rc':mD (fun i=>rcp (W' i)) (List.range (k+1))=mD (fun i=>rcp (W i)) (List.range k)++[(N k,wn st (rcp fl))]:=by
   rw[List.range_succ];unfold mD;rw[List.map_append]
   congr 1
   .exact kH fun x hx=>by rw[Wi x (List.mem_range.mp hx)]
   .show [(N k,rcp (W' k))]=_
    rw[Wk];rfl
  rw[nx',rc']
  have pn:∀(f:Nat->PyData) (y:PyData),putL (mD f (List.range k)) (N k) y=mD f (List.range k)++[(N k,y)]:=fun f y=>by
   unfold putL;rw[if_neg (by rw[oB,gq r40 (by omega)];exact kn)]
  have l1:∀f:Nat->PyData,(ao (mD f (List.range k))).length<=1000:=fun f=>by rw[jw,List.length_range];omega
  have nk:=jv (n:=n) (i:=k) (by omega);have nst:=jv s2;have rk:cN (c:Int)=true:=rng_ok (by omega) (by omega)
  have q1:aG 8 (fCB eP (ae (af cv (aa 3) (fC (.int 1))) (ae (af aR (af aR (aa 7) (fC (.int 1))) (aB bX (ae (aa 1) (ae (fC (.int 2)) ai)))) ai))) (ρB sc n (mD (tg W) (List.range k)) (mD (fun i=>rcp (W i)) (List.range k)) (some (.d (.int k))) o8 o9 o10 o11 none none none) T=some ((.nx,ρB sc n (mD (tg W) (List.range k)) (mD (fun i=>rcp (W i)) (List.range k)) (some (.d (.int k))) (some (.d (.int st))) o9 o10 o11 none none none),T1):=by
   unfold ρB;simp[e1',es]
  have q2:bj 5 (af ixD (aa 4) (aa 7)) (af ixD (aa 4) (aa 8)) (ρB sc n (mD (tg W) (List.range k)) (mD (fun i=>rcp (W i)) (List.range k)) (some (.d (.int k))) (some (.d (.int st))) o9 o10 o11 none none none) T1=some ((.nx,ρB sc n (mD (tg W) (List.range k)++[(N k,.str (N st))]) (mD (fun i=>rcp (W i)) (List.range k)) (some (.d (.int k))) (some (.d (.int st))) o9 o10 o11 none none none),T1):=by
   unfold ρB;simp[nk,nst,l1,cK,pn]
  have q3:aG 9 (aE .tuple (ae (fC (.str "say")) (ae (aE .tuple (ae (fC (.str "got")) (ae (fC (.int 0)) ai))) ai))) (ρB sc n (mD (tg W) (List.range k)++[(N k,.str (N st))]) (mD (fun i=>rcp (W i)) (List.range k)) (some (.d (.int k))) (some (.d (.int st))) o9 o10 o11 none none none) T1=some ((.nx,ρB sc n (mD (tg W) (List.range k)++[(N k,.str (N st))]) (mD (fun i=>rcp (W i)) (List.range k)) (some (.d (.int k))) (some (.d (.int st))) (some (.d SAY)) o10 o11 none none none),T1):=rfl
  have it:bW (af ixD (aE .list (ae (fC (.int 0)) (ae (fC (.int 0)) (ae (fC (.int 0)) (ae (fC (.int 11)) ai))))) (aB bX (ae (aa 1) (ae (fC (.int 4)) ai)))) (ρB sc n (mD (tg W) (List.range k)++[(N k,.str (N st))]) (mD (fun i=>rcp (W i)) (List.range k)) (some (.d (.int k))) (some (.d (.int st))) (some (.d SAY)) o10 o11 none none none) T1=some (bc 0 c,T2):=by
   unfold ρB;simp[e2',ec,rk]
  have q4:bw 10 (bW (af ixD (aE .list (ae (fC (.int 0)) (ae (fC (.int 0)) (ae (fC (.int 0)) (ae (fC (.int 11)) ai))))) (aB bX (ae (aa 1) (ae (fC (.int 4)) ai))))) ik (ρB sc n (mD (tg W) (List.range k)++[(N k,.str (N st))]) (mD (fun i=>rcp (W i)) (List.range k)) (some (.d (.int k))) (some (.d (.int st))) (some (.d SAY)) o10 o11 none none none) T1=some ((.nx,ρB sc n (mD (tg W) (List.range k)++[(N k,.str (N st))]) (mD (fun i=>rcp (W i)) (List.range k)) (some (.d (.int k))) (some (.d (.int st))) (some (.d (rcp fl))) p10 p11 none none none),T2):=by
   rw[jB,it];exact el
  unfold ij;rw[aP q1,aP q2,aP q3,aP q4];generalize rcp fl=RF;unfold ρB wn;simp[nk,nst,l1,cK,pn]
theorem Ax{n:Nat}(h:0<n):atI (nm (nms n)) (-1)=some (.str (N (n-1))):=by
 have nml:(nm (nms n)).length=n:=by rw[cL];unfold nms;simp
 unfold atI ixN;rw[nml,if_neg (by omega),if_pos (by omega)];have:=jv (n:=n) (i:=n-1) (by omega);unfold atI ixN at this;rw[nml,if_pos (by omega),if_pos (by omega)] at this
 have e:((-1:Int)+(n:Int)).toNat=((n-1:Nat):Int).toNat:=by omega
 rw[e];exact this
inductive Wrld(n:Nat):Dl->Dl->Dl->Int->Prop where
 |good {m:Nat}{W:Nat->List Nat}:Ws n m W->m+1=n->(∀k<m,∀t∈W k,k<t)->Wrld n (gD [n-1]) (rcs n m W false) (nxs m W) 0
 |none {m:Nat}{W:Nat->List Nat}{way:Int}{fl:Bool}:Ws n m W->WayN n m W way fl->Wrld n [] (rcs n m W fl) (nxs m W) way
theorem EE{n:Nat}{W:Nat->List Nat}(n2:2<=n)(n40:n<=40)(b:Bd n (n-1) W):Ws n (n-1) W:=⟨n2,n40,by omega,b.ne,b.le,fun k hk t ht=>(b.lt k hk t ht).2⟩
theorem nQ{n m:Nat}{W:Nat->List Nat}:rcs n m W false=mD (fun i=>rcp (W i)) (List.range m):=by
 unfold rcs exR mD;rw[if_neg (by decide),List.append_nil]
theorem kZ{m:Nat}{W:Nat->List Nat}:nxs m W=mD (tg W) (List.range m):=rfl
section
variable {n:Nat}{W:Nat->List Nat}(n2:2<=n)(n40:n<=40)(b:Bd n (n-1) W)
include n2 n40 in
theorem BA(f:Nat->PyData)(y:PyData):putL (mD f (List.range (n-1))) (N (n-1)) y=mD f (List.range (n-1))++[(N (n-1),y)]:=by
 unfold putL;rw[if_neg];rw[oB,gq (fun x hx=>by have:=List.mem_range.mp hx;omega) (by omega),List.mem_range];omega
include n2 n40 b in
theorem CW{bi:Nat}(hb:bi<n):Wrld n [] (mD (fun i=>rcp (W i)) (List.range (n-1))++[(N (n-1),wn bi SAY)]) (mD (tg W) (List.range (n-1))++[(N (n-1),.str (N bi))]) 2:=by
 obtain⟨W',hW'⟩:∃W':Nat->List Nat,W'=fun i=>if i=n-1 then [bi] else W i:=⟨_,rfl⟩
 have Wk:W' (n-1)=[bi]:=by rw[hW'];simp
 have Wi:∀i<n-1,W' i=W i:=fun i hi=>by rw[hW'];simp[show ¬i=n-1 by omega]
 have e1:n=n-1+1:=by omega
 have r1:List.range n=List.range (n-1)++[n-1]:=by
  conv=>lhs;rw[e1]
  exact List.range_succ
 have a1:mD (fun i=>rcp (W i)) (List.range (n-1))++[(N (n-1),wn bi SAY)]=rcs n n W' false:=by
  rw[nQ,r1];unfold mD;rw[List.map_append]
  congr 1
  .exact(kH fun x hx=>by rw[Wi x (List.mem_range.mp hx)])
  .show _=[(N (n-1),rcp (W' (n-1)))]
   rw[Wk];rfl
 have a2:mD (tg W) (List.range (n-1))++[(N (n-1),.str (N bi))]=nxs n W':=by
  rw[kZ,r1];unfold mD;rw[List.map_append]
  congr 1
  .exact(kH fun x hx=>by unfold tg;rw[Wi x (List.mem_range.mp hx)])
  .show _=[(N (n-1),tg W' (n-1))]
   unfold tg;rw[Wk];rfl
 rw[a1,a2];refine .none ⟨n2,n40,Nat.le_refl _,fun k hk=>?_,fun k hk=>?_,fun k hk t ht=>?_⟩ (.ring rfl)
 .by_cases z:k=n-1
  .rw[z,Wk];simp
  .rw[Wi k (by omega)];exact b.ne k (by omega)
 .by_cases z:k=n-1
  .rw[z,Wk];simp
  .rw[Wi k (by omega)];exact b.le k (by omega)
 .by_cases z:k=n-1
  .rw[z,Wk] at ht
   rw[List.mem_singleton.mp ht];exact hb
  .rw[Wi k (by omega)] at ht
   exact(b.lt k (by omega) t ht).2
end
def bkE:FS:=(aj (bV 14) (aj (fIf (aD (af eqD (aa 12) (fC (.int 0)))) (bj 14 (af ixD (aa 4) (fUn bf (fC (.int 1)))) (aE .tuple (ae (fC (.str "a")) (ae (fC (.int 7)) ai)))) aH) (aj (fIf (aD (af eqD (aa 12) (fC (.int 1)))) (bj 6 (af ixD (aa 4) (fUn bf (fC (.int 1)))) (aE .tuple (ae (fC (.str "fail")) (ae (fC (.str "part")) ai)))) aH) (aj (fIf (aD (af eqD (aa 12) (fC (.int 2)))) (aj (bj 6 (af ixD (aa 4) (fUn bf (fC (.int 1)))) (aE .tuple (ae (fC (.str "want")) (ae (aE .tuple (ae (fC (.str "put")) (ae (aa 13) ai))) (ae (aE .tuple (ae (fC (.str "say")) (ae (aE .tuple (ae (fC (.str "got")) (ae (fC (.int 0)) ai))) ai))) ai))))) (bj 5 (af ixD (aa 4) (fUn bf (fC (.int 1)))) (aa 13))) aH) (ax (aE .list (ae (aE .tuple (ae (aa 14) (ae (aa 6) ai))) (ae (aa 5) (ae (aa 4) (ae (aa 12) ai))))))))))
theorem Ez{sc:PyData}{n:Nat}{W:Nat->List Nat}(n2:2<=n)(n40:n<=40)(b:Bd n (n-1) W){way:Int}(w0:0<=way)(w4:way<4){bi:Nat}(hb:bi<n){o7 o8 o9 o10 o11:Option D.W}{T:Tp}:∃g r nx ρ',Wrld n g r nx way/\bkE (ρB sc n (mD (tg W) (List.range (n-1))) (mD (fun i=>rcp (W i)) (List.range (n-1))) o7 o8 o9 o10 o11 (some (.d (.int way))) (some (.d (.str (N bi)))) none) T=some ((.rt (wdD (bkT g r) nx n way),ρ'),T):=by
 have la:=Ax (n:=n) (by omega);have pe:=fun f y=>BA n2 n40 (f:=f) (y:=y)
 have l1:∀f:Nat->PyData,(ao (mD f (List.range (n-1)))).length<=1000:=fun f=>by rw[jw,List.length_range];omega
 have p0:∀y:PyData,putN [] (N (n-1)) y=ao [(N (n-1),y)]:=fun y=>cK [] (N (n-1)) y;have d0:ao []=[]:=rfl;have w:=EE n2 n40 b;have up:∀k<n-1,∀t∈W k,k<t:=fun k hk t ht=>(b.lt k hk t ht).1
 have:way=0\/way=1\/way=2\/way=3:=by omega
 rcases this with rfl|rfl|rfl|rfl
 .have h:=Wrld.good w (by omega) up
  rw[nQ,kZ] at h;refine⟨_,_,_,ρB sc n (mD (tg W) (List.range (n-1))) (mD (fun i=>rcp (W i)) (List.range (n-1))) o7 o8 o9 o10 o11 (some (.d (.int 0))) (some (.d (.str (N bi)))) (some (.loc (.dict (ao (gD [n-1]))))),h,?_⟩;generalize mD (tg W) (List.range (n-1))=A;generalize mD (fun i=>rcp (W i)) (List.range (n-1))=B;have g0:ao (gD [n-1])=ao [(N (n-1),V)]:=rfl;rw[g0];have g1:bkT (gD [n-1]) B=.tuple [.dict (ao [(N (n-1),V)]),.dict (ao B)]:=rfl;rw[g1];unfold bkE ρB wdD V;simp[la,p0,fu]
 .have h:=Wrld.none w (WayN.fails (by omega) up)
  have e:rcs n (n-1) W true=mD (fun i=>rcp (W i)) (List.range (n-1))++[(N (n-1),dZ)]:=rfl;rw[e,kZ] at h;refine⟨_,_,_,ρB sc n (mD (tg W) (List.range (n-1))) (mD (fun i=>rcp (W i)) (List.range (n-1))++[(N (n-1),dZ)]) o7 o8 o9 o10 o11 (some (.d (.int 1))) (some (.d (.str (N bi)))) (some (.loc (.dict []))),h,?_⟩;have pe':=pe fun i=>rcp (W i);have l1':=l1 fun i=>rcp (W i);generalize mD (tg W) (List.range (n-1))=A at *;generalize mD (fun i=>rcp (W i)) (List.range (n-1))=B at *;unfold bkE ρB wdD bkT dZ;simp[la,l1',cK,pe',d0,fu]
 .have h:=CW n2 n40 b hb
  refine⟨_,_,_,ρB sc n (mD (tg W) (List.range (n-1))++[(N (n-1),.str (N bi))]) (mD (fun i=>rcp (W i)) (List.range (n-1))++[(N (n-1),wn bi SAY)]) o7 o8 o9 o10 o11 (some (.d (.int 2))) (some (.d (.str (N bi)))) (some (.loc (.dict []))),h,?_⟩;have pe1:=pe fun i=>rcp (W i);have pe2:=pe (tg W);have l2:=l1 fun i=>rcp (W i);have l3:=l1 (tg W);generalize mD (tg W) (List.range (n-1))=A at *;generalize mD (fun i=>rcp (W i)) (List.range (n-1))=B at *;unfold bkE ρB wdD bkT wn SAY;simp[la,l2,l3,cK,pe1,pe2,d0,fu]
 .have h:=Wrld.none w (WayN.lacks (by omega) up)
  rw[nQ,kZ] at h;refine⟨_,_,_,ρB sc n (mD (tg W) (List.range (n-1))) (mD (fun i=>rcp (W i)) (List.range (n-1))) o7 o8 o9 o10 o11 (some (.d (.int 3))) (some (.d (.str (N bi)))) (some (.loc (.dict []))),h,?_⟩;generalize mD (tg W) (List.range (n-1))=A;generalize mD (fun i=>rcp (W i)) (List.range (n-1))=B;unfold bkE ρB wdD bkT;simp[d0,fu]
def bkS:FS:=(aj (aG 2 (fC (.str "abcdefghijklmnopqrstuvwxyz"))) (aj (aG 3 (af aR (fC (.int 2)) (aB bX (ae (aa 1) (ae (fC (.int 39)) ai))))) (aj (aG 4 (bo (bW (aa 3)) bq (af bS (af ixD (aa 3) (af bZ (aa 0) (fC (.int 26)))) (af aR (fC (.int 1)) (af dS (aa 0) (fC (.int 26))))))) (aj (bV 5) (aj (bV 6) (aj (bw 7 (bW (af cv (aa 3) (fC (.int 1)))) ij) (aj (aG 12 (aB bX (ae (aa 1) (ae (fC (.int 4)) ai)))) (aj (aG 13 (af ixD (aa 4) (aB bX (ae (aa 1) (ae (aa 3) ai))))) bkE))))))))
theorem CJ:gv=aK 15 (jA 1 (ae (aB ia (ae (aB dE (ae (aa 0) (ae (fC (.int 0)) ai))) (ae (fC (.int 60)) ai))) (ae (fC (.int 0)) ai)) bkS):=zu
theorem F7{sc:PyData}{T:Tp}(ht:fO [] T):∃n g r nx way ρ' T',2<=n/\n<=40/\Wrld n g r nx way/\fO [] T'/\bkS [some (.d sc),some (.tp 0),none,none,none,none,none,none,none,none,none,none,none,none,none] T=some ((.rt (wdD (bkT g r) nx n way),ρ'),T'):=by
 obtain⟨r1,T1,e1,t1,r10,r11⟩:=jE (m:=39) ht (by decide);have e1':bX [.tp 0,.d (.int 39)] T=some (.int r1,T1):=e1;obtain⟨n,hn⟩:∃n:Nat,2+r1=n:=⟨(2+r1).toNat,by omega⟩
 have n2:2<=n:=by omega
 have n40:n<=40:=by omega
 have rk:cN (n:Int)=true:=rng_ok (by omega) (by omega);have rk1:cN ((n:Int)-1)=true:=rng_ok (by omega) (by omega)
 have c:=c9 (e:=af bS (af ixD (aa 3) (af bZ (aa 0) (fC (.int 26)))) (af aR (fC (.int 1)) (af dS (aa 0) (fC (.int 26))))) (ρ:=[some (.d sc),some (.tp 0),some (.d (.str LET)),some (.d (.int n)),none,none,none,none,none,none,none,none,none,none,none]) (T:=T1) (g:=fun d=>match d with | .int j=>.str (N j.toNat)|_=>.none) (ds:=bc 0 n) fun d hd=>by
  obtain⟨i,hi,rfl⟩:=List.mem_map.mp hd;have hi:=List.mem_range.mp hi;rw[Fi rfl (by omega)];show _=some (W.d (.str (N (0+(i:Int)).toNat)),T1);rw[Int.zero_add,Int.toNat_natCast]
 have cn:(bc 0 n).map (fun d=>match d with | .int j=>PyData.str (N j.toNat)|_=>.none)=nm (nms n):=by
  unfold bc nm nms;rw[List.map_map,List.map_map];refine List.map_congr_left fun i _=>?_;show PyData.str (N (0+(i:Int)).toNat)=.str (N i);rw[Int.zero_add,Int.toNat_natCast]
 rw[cn] at c
 obtain⟨ρ2,T2,lp,W,o7,o8,o9,o10,o11,b,eρ,t2⟩:=og (i:=7) (body:=ij) (I:=fun k ρ T=>∃W o7 o8 o9 o10 o11,Bd n k W/\ρ=ρB sc n (mD (tg W) (List.range k)) (mD (fun i=>rcp (W i)) (List.range k)) o7 o8 o9 o10 o11 none none none/\fO [] T) (bc 0 (n-1)) 0 (ρB sc n [] [] none none none none none none none none) T1 ⟨fun _=>[],none,none,none,none,none,⟨fun _ z=>(by omega),fun _ z=>(by omega),fun _ z=>(by omega)⟩,rfl,t1⟩ fun j d ρ T hd hI=>by
  obtain⟨W,o7,o8,o9,o10,o11,b,rfl,ht⟩:=hI;obtain⟨rfl,hj⟩:=tJ hd;rw[Nat.zero_add] at b ⊢;obtain⟨W',T',p8,p9,p10,p11,b',t',e⟩:=CK (sc:=sc) n40 (k:=j) (by omega) b ht (o8:=o8) (o9:=o9) (o10:=o10) (o11:=o11);exact⟨_,T',e,W',_,p8,p9,p10,p11,b',rfl,t'⟩
 rw[r6,Nat.zero_add] at b eρ;subst eρ;obtain⟨way,T3,e3,t3,w0,w4⟩:=jE (m:=4) t2 (by decide);have e3':bX [.tp 0,.d (.int 4)] T2=some (.int way,T3):=e3;obtain⟨bi,T4,e4,t4,b0,b1⟩:=jE (m:=(n:Int)) t3 (by omega);have e4':bX [.tp 0,.d (.int n)] T3=some (.int bi,T4):=e4;obtain⟨bn,hbn⟩:∃k:Nat,bi=k:=⟨bi.toNat,by omega⟩;subst hbn;have nb:=jv (n:=n) (i:=bn) (by omega);obtain⟨g,r,nx,ρ',hw,e5⟩:=Ez (sc:=sc) n2 n40 b w0 w4 (bi:=bn) (by omega) (o7:=o7) (o8:=o8) (o9:=o9) (o10:=o10) (o11:=o11) (T:=T4);refine⟨n,g,r,nx,way,ρ',T4,n2,n40,hw,t4,?_⟩;unfold bkS;rw[aP (ρ1:=[some (.d sc),some (.tp 0),some (.d (.str LET)),none,none,none,none,none,none,none,none,none,none,none,none]) (T1:=T) (by rfl)];rw[aP (ρ1:=[some (.d sc),some (.tp 0),some (.d (.str LET)),some (.d (.int n)),none,none,none,none,none,none,none,none,none,none,none]) (T1:=T1) (by simp[e1',hn])]
 have s4:aG 4 (bo (bW (aa 3)) bq (af bS (af ixD (aa 3) (af bZ (aa 0) (fC (.int 26)))) (af aR (fC (.int 1)) (af dS (aa 0) (fC (.int 26)))))) [some (.d sc),some (.tp 0),some (.d (.str LET)),some (.d (.int n)),none,none,none,none,none,none,none,none,none,none,none] T1=some ((.nx,[some (.d sc),some (.tp 0),some (.d (.str LET)),some (.d (.int n)),some (.d (.list (nm (nms n)))),none,none,none,none,none,none,none,none,none,none]),T1):=by
  have e:bW (aa 3) [some (.d sc),some (.tp 0),some (.d (.str LET)),some (.d (.int n)),none,none,none,none,none,none,none,none,none,none,none] T1=some (bc 0 n,T1):=by
   show (if cN (n:Int)=true then some (bc 0 (n:Int).toNat,T1) else none)=_;rw[if_pos rk,Int.toNat_natCast]
  rw[lj,kS,e,cD,c,cD];rfl
 rw[aP s4];rw[aP (ρ1:=[some (.d sc),some (.tp 0),some (.d (.str LET)),some (.d (.int n)),some (.d (.list (nm (nms n)))),some (.loc (.dict [])),none,none,none,none,none,none,none,none,none]) (T1:=T1) (by rfl)];rw[aP (ρ1:=ρB sc n [] [] none none none none none none none none) (T1:=T1) (by rfl)]
 have s7:bw 7 (bW (af cv (aa 3) (fC (.int 1)))) ij (ρB sc n [] [] none none none none none none none none) T1=some ((.nx,ρB sc n (mD (tg W) (List.range (n-1))) (mD (fun i=>rcp (W i)) (List.range (n-1))) o7 o8 o9 o10 o11 none none none),T2):=by
  have e:bW (af cv (aa 3) (fC (.int 1))) (ρB sc n [] [] none none none none none none none none) T1=some (bc 0 (n-1),T1):=by
   show (if cN ((n:Int)-1)=true then some (bc 0 ((n:Int)-1).toNat,T1) else none)=_;rw[if_pos rk1]
   congr 3
   omega
  rw[jB,e];exact lp
 rw[aP s7]
 rw[aP (ρ1:=ρB sc n (mD (tg W) (List.range (n-1))) (mD (fun i=>rcp (W i)) (List.range (n-1))) o7 o8 o9 o10 o11 (some (.d (.int way))) none none) (T1:=T3) (by
  unfold ρB
  simp[e3'])]
 rw[aP (ρ1:=ρB sc n (mD (tg W) (List.range (n-1))) (mD (fun i=>rcp (W i)) (List.range (n-1))) o7 o8 o9 o10 o11 (some (.d (.int way))) (some (.d (.str (N bn)))) none) (T1:=T4) (by
  unfold ρB
  simp[e4',nb])]
 exact e5
theorem EC(ns:List Int):∃n g r nx way,2<=n/\n<=40/\Wrld n g r nx way/\gv [.d (.list (ns.map PyData.int))] []=some (wdD (bkT g r) nx n way,[]):=by
 obtain⟨c,ec⟩:=vi ns 0 [];have ec':dE [.d (.list (ns.map PyData.int)),.d (.int 0)] []=some (.int c,[]):=ec;obtain⟨ds,ed,dl,dm⟩:=CU (c:=c) (N:=60) (T:=[]) (by decide) (by decide);have t0:fO [] ([]++[[.list ds,.int 0]]):=C2 (by rw[dl];decide) (by rw[dl];decide) dm;obtain⟨n,g,r,nx,way,ρ',T',n2,n40,hw,t',e⟩:=F7 (sc:=.list (ns.map PyData.int)) t0;refine⟨n,g,r,nx,way,n2,n40,hw,?_⟩;obtain⟨ds',i',rfl,_⟩:=t';have oe:=yQ (n:=0) (fl:=.rt (wdD (bkT g r) nx n way)) (ρ:=ρ') (T:=[]) (row:=[.list ds',.int i']) rfl;rw[←e] at oe;rw[CJ];generalize ns.map PyData.int=sc at *;generalize wdD (bkT g r) nx n way=wd at *;simp[AQ,ec',ed,AR];exact congrArg bP oe
theorem AE:∀ns:List Int,ns.length<=63->∃T',iH [.d (jt ns)] []=some (.bool true,T'):=fun ns _=>by
 obtain⟨n,g,r,nx,way,n2,n40,hw,hb⟩:=EC ns;refine⟨[],?_⟩;show iH [.d (.list (ns.map PyData.int))] []=_;have nn:nms n=(List.range n).map N:=rfl
 cases hw with
 |@good m W w hm up=>
  obtain⟨ds,hg,hl⟩:=Fw w hm up;obtain⟨q,hP,nd,hq,_,hs⟩:=uI w hm up (rt:=List.range n) (fun k hk=>List.mem_range.mp hk) (by rw[List.length_range];exact n40);have hL:=oI w hm nd (fun k hk=>.inl (hq k hk)) (Nat.le_trans (gj nd fun x hx=>by have:=hq x hx;omega) (by decide));rw[hs] at hL;exact uN n2 n40 hb hg (by rw[hl,if_pos rfl]) (fun x hx=>⟨MV,vv,Ef w hm up hx,wJ⟩) (fun x hx=>BJ w hm up hx) hP hL
 |@none m W _ fl w hw=>
  obtain⟨q,hP,nd,hq,_,cl,_⟩:=uH w hw.xm (rt:=List.range n) (fun k hk=>List.mem_range.mp hk) (by rw[List.length_range];exact n40);have hL:=vK w hw.xm nd hq (Nat.le_trans (gj nd fun x hx=>by have:=dM (boN w hw.xm) (hq x hx);omega) (by decide)) cl
  have w0:¬way=0:=by cases hw <;> decide
  exact uN n2 n40 hb (Fv w hw) (by rw[if_neg w0];rfl) (fun x hx=>Ee w hw hx) (fun x hx=>BI w hw hx) hP hL
def top(i:Nat):Stmt:=PySem.Challenge.pw_redo_k30_great_books.main.body.getD i (.Pass ⟨0,0,0,0⟩)
abbrev zS:List (Str×Nat):=("is_whole",8)::("has_only",9)::("is_name",10)::("is_single",11)::("is_built",12)::("many_of",14)::("is_value",13)::("exprs_within",16)::("sort_at",19)::("told_less",28)::("bounded",23)::("told_many",24)::("told_part",25)::("told_sum",26)::("told_join",27)::("told_of",22)::("told_by",21)::("step_of",33)::("followed",32)::("replay",31)::("stamp_of",37)::("is_figures",44)::("number_by",43)::("single_by",42)::("single_at",41)::("row_at",40)::("value_at",39)::("value_by",38)::("is_stamp",50)::("is_read",49)::("are_reads",48)::("is_end",51)::("is_line",47)::("comes_to",53)::("is_right",52)::("lines_by_names",54)::("shown_by",62)::("are_reads_shown",60)::("is_paper",58)::("are_of_the_book",59)::("is_end_shown",61)::("lets_by",57)::("start_of",71)::("awaited_at",73)::("given",74)::("gone_on",72)::("made_afresh",70)::("good_values",67)::("result_along",78)::("end_by",77)::("line_from",76)::("lines_from",75)::("fresh",68)::("lines_of",69)::("reads_none_of",86)::("in_order",85)::("names_in",84)::("names_reached",83)::("lines_reached",82)::("paper_of",80)::("result_by",81)::("_law_cell_at",88)::("_law_draws",89)::("_law_take",90)::("_law_same",91)::("_law_book",92)::("_law_due",93)::("_law_paper_right",94)::("law",95)::[]
abbrev zZ:List Str:=["abs","all","any","bool","dict","int","isinstance","len","list","max","min","range","set","sorted","str","sum","tuple"]
abbrev zI:List (Str×Int):=[("MOST_FIGURES",19),("MOST_LETTERS",8),("MOST_LINES",100),("MOST_PARTS",8),("MOST_READS",12),("MOST_ROWS",4),("MOST_SIGNS",20),("MOST_VALUES",40)]
abbrev zT:List (Str×Str):=[("FIGURES","0123456789"),("LETTERS","abcdefghijklmnopqrstuvwxyz"),("TEXT_SIGNS","abcdefghijklmnopqrstuvwxyz0123456789-")]
structure Bi(K:Frag)(mg:Str->Option Value):Prop extends Bz K mg zZ zI zT where
 s_NOT_GIVEN:wU K mg "NOT_GIVEN" [("want","wants"),("peek","peeks")]
 g_GETTING:wR K mg "GETTING" ["want","peek"]
section
variable {P:Program}{w:World}{K:Frag}{mg:Str->Option Value}{base:Heap}(E:Ev P w K mg base (Bi K mg) top zS)
include E
theorem fV:Fn P w K mg base "is_whole" ["thing"] 1 (spM K 1 e7):=aU E 8 ["thing"] fun B S hr=>(aA (aF (b5 (bE .int B.z (ag 0) B.z boot_int) (cG (lq (bE .bl B.z (ag 0) B.z boot_bool))))))
theorem l4:Fn P w K mg base "has_only" ["text","signs"] 1 (spM K 2 kg):=aU E 9 ["text","signs"] fun B S hr=>(aA (aF (ba eR rfl B.z boot_all (au (cJ (top 9) ["text","signs"] (bM (ag 0)) (bN lO (ag 0) (ag 2))) aC))))
theorem kB:Fn P w K mg base "is_name" ["thing"] 2 (spM K 1 ff):=aU E 10 ["thing"] fun B S hr=>(aA (aF (b5 (bE .str B.z (ag 0) B.z boot_str) (b5 (A6 hJ hJ aq (ba bC rfl B.z boot_len (au (ag 0) aC)) (fj rfl B.i)) (cG (a9 (l4 E) hr (ag 0) (mM rfl B.s)))))))
theorem yf:Fn P w K mg base "is_single" ["thing"] 2 (spM K 1 qf):=aU E 11 ["thing"] fun B S hr=>(ay (aM (bh (aW (fV E) hr (ag 0))) (aA (aF (bN hJ (ba FY rfl B.z boot_abs (au (ag 0) aC)) (aV vD aq aq)))) aN) (aA (aF (b5 (bE .str B.z (ag 0) B.z boot_str) (b5 (bN hJ (ba bC rfl B.z boot_len (au (ag 0) aC)) (fj rfl B.i)) (cG (a9 (l4 E) hr (ag 0) (mM rfl B.s))))))))
theorem yM:∀n,Fn P w K mg base "is_built" ["thing","rows_left"] (2+n) (spM K 2 (lZ n)):=f6 (gf E 12) fun n ih=>aU (k:=2+n) E 12 ["thing","rows_left"] fun B S hr=>(ay (aM (bU (bh (bE .tup B.z (ag 0) B.z boot_tuple))) (aA (aF (aW (yf E) hr (ag 0)))) aN) (ay (aM (b8 (cq (aJ bb (ag 1) aq) (cE (aJ hU (ba bC rfl B.z boot_len (au (ag 0) aC)) (fj rfl B.i))))) (aA (aF bQ)) aN) (aA (aF (ba eR rfl B.z boot_all (au (cJ (top 12) ["thing","rows_left"] (bM (ag 0)) (a9 ih hr (ag 0) (aV gW (ag 2) aq))) aC))))))
theorem zG:∀n,Fn P w K mg base "many_of" ["value"] (0+n) (spM K 1 (md n)):=f6 (gf E 14) fun n ih=>aU (k:=0+n) E 14 ["value"] fun B S hr=>(ay (aM (bU (bh (bE .tup B.z (ag 0) B.z boot_tuple))) (aA (aF aq)) aN) (aA (aF (aV bB aq (ba FU rfl B.z boot_sum (au (cJ (top 14) ["value"] (bM (ag 0)) (aW ih hr (ag 0))) aC))))))
theorem qz:Fn P w K mg base "is_value" ["thing"] 28 (spM K 1 lY):=aU E 13 ["thing"] fun B S hr=>(aA (aF (b5 (a9 (yM E 25) hr (ag 0) (fj rfl B.i)) (cG (bN hJ (aW (zG E 25) hr (ag 0)) (fj rfl B.i))))))
theorem xD:Fn P w K mg base "exprs_within" ["expr"] 1 (spM K 1 pL):=aU E 16 ["expr"] fun B S hr=>(ay (aM (b8 (cq (aJ bb (av az (ag 0) aq) aI) (cE (aJ bb (av az (ag 0) aq) aI)))) (aA (aF (dO aC))) aN) (ay (aM (aJ bb (av az (ag 0) aq) aI) (aA (aF (c8 ve rfl B.z boot_list (au (av az (ag 0) aq) aC)))) aN) (aA (aF (c8 ve rfl B.z boot_list (au (dg (ag 0) (cC aq) eM) aC))))))
theorem rq:Fn P w K mg base "sort_at" ["book","name"] 1 (spM K 2 eJ):=aU E 19 ["book","name"] fun B S hr=>(ay (aM (aJ (dQ hr) (ag 1) (av az (ag 0) aq)) (aA (aF aI)) aN) (ay (aM (aJ (dQ hr) (ag 1) (av az (ag 0) aq)) (aA (aF aI)) aN) (aA (aF aI))))
theorem x8:Fn P w K mg base "told_less" ["one","other"] 2 (spM K 2 qa):=aU E 28 ["one","other"] fun B S hr=>(ay (aM (b8 (cq (bU (bh (aW (fV E) hr (ag 0)))) (cE (bU (bh (aW (fV E) hr (ag 1))))))) (aA (aF (aS (au aI (au aI aC))))) aN) (aA (aF (aS (au aI (au (dY (aJ iR (ag 0) (ag 1)) aq aq) aC))))))
theorem kE:Fn P w K mg base "bounded" ["thing"] 29 (spM K 1 i9):=aU E 23 ["thing"] fun B S hr=>(aA (aF (dY (bh (aW (qz E) hr (ag 0))) (aS (au aI (au (ag 0) aC))) (aS (au aI (au aI aC))))))
theorem x6:Fn P w K mg base "told_many" ["value"] 2 (spM K 1 pZ):=aU E 24 ["value"] fun B S hr=>(ay (aM (bh (aW (fV E) hr (ag 0))) (aA (aF (aS (au aI (au aI aC))))) aN) (aA (aF (aS (au aI (au (ba bC rfl B.z boot_len (au (ag 0) aC)) aC))))))
theorem x5:Fn P w K mg base "told_part" ["row","number"] 2 (spM K 2 pY):=aU E 25 ["row","number"] fun B S hr=>(ay (aM (b8 (cq (bU (bh (bE .tup B.z (ag 0) B.z boot_tuple))) (cE (bU (bh (aW (fV E) hr (ag 1))))))) (aA (aF (aS (au aI (au aI aC))))) aN) (ay (aM (bU (AX hJ iR aq (ag 1) (ba bC rfl B.z boot_len (au (ag 0) aC)))) (aA (aF (aS (au aI (au aI aC))))) aN) (aA (aF (aS (au aI (au (av az (ag 0) (ag 1)) aC)))))))
theorem yF:Fn P w K mg base "told_sum" ["one","other"] 30 (spM K 2 qu):=aU E 26 ["one","other"] fun B S hr=>(ay (aM (b8 (cq (bU (bh (aW (fV E) hr (ag 0)))) (cE (bU (bh (aW (fV E) hr (ag 1))))))) (aA (aF (aS (au aI (au aI aC))))) aN) (aA (aF (aW (kE E) hr (aV bB (ag 0) (ag 1))))))
theorem x9:Fn P w K mg base "told_join" ["one","other"] 30 (spM K 2 qb):=aU E 27 ["one","other"] fun B S hr=>(ay (aM (b8 (jC (bh (bE .str B.z (ag 0) B.z boot_str)) (jp (bh (bE .str B.z (ag 1) B.z boot_str))))) (aA (aF (aW (kE E) hr (aV bB (ag 0) (ag 1))))) aN) (ay (aM (b8 (jC (bh (bE .tup B.z (ag 0) B.z boot_tuple)) (jp (bh (bE .tup B.z (ag 1) B.z boot_tuple))))) (aA (aF (aW (kE E) hr (aV bB (ag 0) (ag 1))))) aN) (aA (aF (aS (au aI (au aI aC)))))))
theorem zE:Fn P w K mg base "told_of" ["word","parts"] 31 (spM K 2 qZ):=aU E 22 ["word","parts"] fun B S hr=>(ay (aM (aJ bb (ag 0) aI) (aA (aF (aW (kE E) hr (c8 fW rfl B.z boot_tuple (au (ag 1) aC))))) aN) (ay (aM (aJ bb (ag 0) aI) (aA (aF (aW (x6 E) hr (av az (ag 1) aq)))) aN) (ay (aM (aJ bb (ag 0) aI) (aA (aF (a9 (x5 E) hr (av az (ag 1) aq) (av az (ag 1) aq)))) aN) (ay (aM (aJ bb (ag 0) aI) (aA (aF (a9 (yF E) hr (av az (ag 1) aq) (av az (ag 1) aq)))) aN) (ay (aM (aJ bb (ag 0) aI) (aA (aF (a9 (x9 E) hr (av az (ag 1) aq) (av az (ag 1) aq)))) aN) (ay (aM (aJ bb (ag 0) aI) (aA (aF (aS (au aI (au (dY (aJ (lD hr) (av az (ag 1) aq) (av az (ag 1) aq)) aq aq) aC))))) aN) (aA (aF (a9 (x8 E) hr (av az (ag 1) aq) (av az (ag 1) aq))))))))))
theorem zF:∀n,Fn P w K mg base "told_by" ["expr","got"] (31+n) (spM K 2 (e9 n)):=f6 (gf E 21) fun n ih=>aU (k:=31+n) E 21 ["expr","got","parts","inner","told"] fun B S hr=>(ay (aM (aJ bb (av az (ag 0) aq) aI) (aA (aF (aS (au aI (au (av az (ag 0) aq) aC))))) aN) (ay (aM (aJ bb (av az (ag 0) aq) aI) (aA (aF (aS (au aI (au (av az (ag 1) (av az (ag 0) aq)) aC))))) aN) (ay (gG (i:=2) S.nd aC) (ay (dv (i:=3) S.nd (bM (aW (xD E) hr (ag 0))) (ay (aY (i:=4) S.nd (a9 ih hr (ag 3) (ag 1))) (ay (aM (aJ bb (av az (ag 4) aq) aI) (aA (aF (ag 4))) aN) (aA (gQ (i:=2) (by exact(av az (ag 4) aq))))))) (aA (aF (mN (zE E) (hr.mono (by omega)) rfl (au (av az (ag 0) aq) (au (ag 2) aC)) (dr (dr gF)))))))))
theorem kA:∀n,Fn P w K mg base "step_of" ["recipe","got"] (56+n) (spM K 2 (bT n)):=f6 (gf E 33) fun n ih=>aU (k:=56+n) E 33 ["recipe","got","told"] fun B S hr=>(ay (aM (aJ bb (av az (ag 0) aq) aI) (aA (aF (aS (au aI (au (av az (ag 0) aq) aC))))) aN) (ay (aY (i:=2) S.nd (a9 (zF E 25) hr (av az (ag 0) aq) (ag 1))) (ay (aM (aJ bb (av az (ag 2) aq) aI) (aA (aF (ag 2))) aN) (ay (aM (aJ bb (av az (ag 0) aq) aI) (aA (aF (a9 ih hr (dY (aJ (Fg hr) (av az (ag 2) aq) (aS (au aq (au aI (au (aS aC) aC))))) (av az (ag 0) aq) (av az (ag 0) aq)) (ag 1)))) aN) (ay (aM (aJ bb (av az (ag 0) aq) aI) (aA (aF (aS (au aI (au (av az (ag 2) aq) aC))))) aN) (ay (aM (bU (bh (aW (kB E) hr (av az (ag 2) aq)))) (aA (aF (aS (au aI (au aI aC))))) aN) (aA (aF (aS (au (av az (ag 0) aq) (au (av az (ag 2) aq) (au (av az (ag 0) aq) aC))))))))))))
theorem yO:Fn P w K mg base "followed" ["recipe","reads","peeks"] 82 (spM K 3 fU):=aU E 32 ["recipe","reads","peeks","given","used","got","step","pairs","k"] fun B S hr=>(ay (t6 (i:=3) S.nd (ag 1) (ag 2)) (ay (t6 (i:=4) S.nd aq aq) (ay (gG (i:=5) S.nd aC) (ay (aY (i:=6) S.nd (mN (kA E 25) (hr.mono (by omega)) rfl (au (ag 0) (au (ag 5) aC)) (dr (dr gF)))) (ay (fi 100000 (Ep hr (av az (ag 6) aq) (ag 3)) (ay (aY (i:=7) S.nd (lr hr (ag 3) (av az (ag 6) aq))) (ay (aY (i:=8) S.nd (lr hr (ag 4) (av az (ag 6) aq))) (ay (aM (b8 (cq (aJ wC (ag 8) (ba bC rfl B.z boot_len (au (ag 7) aC))) (cE (aJ eE (av az (av az (ag 7) (ag 8)) aq) (av az (ag 6) aq))))) (aA (aF (aS (au (aS (au (Ew B.s_NOT_GIVEN rfl (av az (ag 6) aq)) (au (av az (ag 6) aq) aC))) (au (lr hr (ag 4) aI) aC))))) aN) (ay (gQ (i:=5) (by exact(av az (av az (ag 7) (ag 8)) aq))) (ay (Cw (i:=4) hr (av az (ag 6) aq) (aV bB (ag 8) aq)) (aA (aY (i:=6) S.nd (mN (kA E 25) (hr.mono (by omega)) rfl (au (av az (ag 6) aq) (au (ag 5) aC)) (dr (dr gF))))))))))) (aA (aF (aS (au (ag 6) (au (lr hr (ag 4) aI) aC))))))))))
theorem AK:Fn P w K mg base "replay" ["recipe","reads","peeks"] 83 (spM K 3 iq):=aU E 31 ["recipe","reads","peeks","came"] fun B S hr=>(ay (aY (i:=3) S.nd (h7 (yO E) hr (ag 0) (ag 1) (ag 2))) (ay (aM (aJ iR (av az (ag 3) aq) (ba bC rfl B.z boot_len (au (ag 1) aC))) (aA (aF (aS (au aI (au (av az (ag 3) aq) aC))))) aN) (aA (aF (av az (ag 3) aq)))))
theorem kh:∀n,Fn P w K mg base "stamp_of" ["value"] (1+n) (spM K 1 (eZ n)):=f6 (gf E 37) fun n ih=>aU (k:=1+n) E 37 ["value"] fun B S hr=>(ay (aM (bh (aW (fV E) hr (ag 0))) (aA (aF (c8 FV rfl B.z boot_str (au (ag 0) aC)))) aN) (ay (aM (bh (bE .str B.z (ag 0) B.z boot_str)) (aA (aF (aV bB aI (ag 0)))) aN) (aA (aF (aV bB (aV bB aI (CA aI (cJ (top 37) ["value"] (bM (ag 0)) (aW ih hr (ag 0))))) aI)))))
theorem xX:Fn P w K mg base "is_figures" ["text"] 2 (spM K 1 pS):=aU E 44 ["text"] fun B S hr=>(ay (aM (b8 (cq (aJ bb (ag 0) aI) (cE (bU (bh (a9 (l4 E) hr (ag 0) (mM rfl B.s))))))) (aA (aF bQ)) aN) (aA (aF (FK (bN bb (ag 0) aI) (cG (lq (mh (ag 0) aI)))))))
theorem yd:Fn P w K mg base "number_by" ["word"] 3 (spM K 1 qe):=aU E 43 ["word","figures"] fun B S hr=>(ay (aY (i:=1) S.nd (dY (bh (mh (ag 0) aI)) (dg (ag 0) (cC aq) eM) (ag 0))) (ay (aM (b8 (cq (aJ bb (ag 0) aI) (cq (aJ hU (ba bC rfl B.z boot_len (au (ag 1) aC)) (fj rfl B.i)) (cE (bU (bh (aW (xX E) hr (ag 1)))))))) (aA (aF dw)) aN) (aA (aF (c8 oR rfl B.z boot_int (au (ag 0) aC))))))
theorem ya:Fn P w K mg base "single_by" ["word"] 4 (spM K 1 qc):=aU E 42 ["word"] fun B S hr=>(ay (aM (bh (mh (ag 0) aI)) (aA (aF (dg (ag 0) (cC aq) eM))) aN) (aA (aF (aW (yd E) hr (ag 0)))))
theorem yb:Fn P w K mg base "single_at" ["text","at"] 5 (spM K 2 qd):=aU E 41 ["text","at","behind","single"] fun B S hr=>(ay (aY (i:=2) S.nd (ag 1)) (ay (fi 100000 (b8 (jC (aJ iR (ag 2) (ba bC rfl B.z boot_len (au (ag 0) aC))) (jp (aJ kN (av az (ag 0) (ag 2)) aI)))) (aA (aY (i:=2) S.nd (aV bB (ag 2) aq)))) (ay (aY (i:=3) S.nd (aW (ya E) hr (dg (ag 0) (cC (ag 1)) (cC (ag 2))))) (aA (aF (dY (aJ lN (ag 3) dw) dw (aS (au (ag 3) (au (ag 2) aC)))))))))
theorem Ae:∀n,Fn P w K mg base "row_at" ["text","at","rows_left"] (5+n) (spM K 3 (r9 n))/\Fn P w K mg base "value_at" ["text","at","rows_left"] (5+n) (spM K 3 (j9 n)):=f6 ⟨(gf E 40),(gf E 39)⟩ fun n ih=>⟨(aU (k:=5+n) E 40 ["text","at","rows_left","parts","found","sign"] fun B S hr=>(ay (aM (aJ bb (dg (ag 0) (cC (ag 1)) (cC (aV bB (ag 1) aq))) aI) (aA (aF (aS (au (aS aC) (au (aV bB (ag 1) aq) aC))))) aN) (ay (gG (i:=3) S.nd aC) (aA (fi 100000 (bh bQ) (ay (aY (i:=4) S.nd (h7 ih.2 hr (ag 0) (ag 1) (ag 2))) (ay (aM (aJ lN (ag 4) dw) (aA (aF dw)) aN) (ay (gQ (i:=3) (by exact(av az (ag 4) aq))) (ay (aY (i:=1) S.nd (aV bB (av az (ag 4) aq) aq)) (ay (aY (i:=5) S.nd (dg (ag 0) (cC (av az (ag 4) aq)) (cC (ag 1)))) (ay (aM (aJ bb (ag 5) aI) (aA (aF (aS (au (c8 fW rfl B.z boot_tuple (au (ag 3) aC)) (au (ag 1) aC))))) aN) (aA (aM (aJ eE (ag 5) aI) (aA (aF dw)) aN))))))))))))),(aU (k:=5+n) E 39 ["text","at","rows_left"] fun B S hr=>(ay (aM (aJ eE (dg (ag 0) (cC (ag 1)) (cC (aV bB (ag 1) aq))) aI) (aA (aF (a9 (yb E) hr (ag 0) (ag 1)))) aN) (ay (aM (aJ bb (ag 2) aq) (aA (aF dw)) aN) (aA (aF (h7 ih.1 hr (ag 0) (aV bB (ag 1) aq) (aV gW (ag 2) aq)))))))⟩
theorem yE:Fn P w K mg base "value_at" ["text","at","rows_left"] 30 (spM K 3 (j9 25)):=(Ae E 25).2
theorem l0:Fn P w K mg base "value_by" ["text"] 31 (spM K 1 gw):=aU E 38 ["text","found"] fun B S hr=>(ay (aY (i:=1) S.nd (h7 (yE E) hr (ag 0) aq (fj rfl B.i))) (ay (aM (b8 (cq (aJ lN (ag 1) dw) (cE (aJ iR (av az (ag 1) aq) (ba bC rfl B.z boot_len (au (ag 0) aC)))))) (aA (aF dw)) aN) (aA (aF (dY (bh (aW (qz E) hr (av az (ag 1) aq))) (av az (ag 1) aq) dw)))))
theorem qB:Fn P w K mg base "is_stamp" ["thing"] 32 (spM K 1 kb):=aU E 50 ["thing"] fun B S hr=>(aA (aF (b5 (bE .str B.z (ag 0) B.z boot_str) (cG (bN kO (aW (l0 E) hr (ag 0)) dw)))))
theorem zH:Fn P w K mg base "is_read" ["thing"] 33 (spM K 1 kr):=aU E 49 ["thing"] fun B S hr=>(aA (aF (b5 (bE .tup B.z (ag 0) B.z boot_tuple) (b5 (bN bb (ba bC rfl B.z boot_len (au (ag 0) aC)) aq) (b5 (aW (kB E) hr (av az (ag 0) aq)) (cG (aW (qB E) hr (av az (ag 0) aq))))))))
theorem yg:Fn P w K mg base "are_reads" ["thing"] 34 (spM K 1 j7):=aU E 48 ["thing"] fun B S hr=>(ay (aM (b8 (cq (bU (bh (bE .tup B.z (ag 0) B.z boot_tuple))) (cE (aJ hU (ba bC rfl B.z boot_len (au (ag 0) aC)) (fj rfl B.i))))) (aA (aF bQ)) aN) (aA (aF (ba eR rfl B.z boot_all (au (cJ (top 48) ["thing"] (bM (ag 0)) (aW (zH E) hr (ag 0))) aC)))))
theorem AL:Fn P w K mg base "is_end" ["thing"] 33 (spM K 1 eK):=aU E 51 ["thing"] fun B S hr=>(ay (aM (b8 (cq (bU (bh (bE .tup B.z (ag 0) B.z boot_tuple))) (cq (aJ eE (ba bC rfl B.z boot_len (au (ag 0) aC)) aq) (cE (bU (bh (bE .str B.z (av az (ag 0) aq) B.z boot_str))))))) (aA (aF bQ)) aN) (ay (aM (aJ bb (av az (ag 0) aq) aI) (aA (aF (aW (qB E) hr (av az (ag 0) aq)))) aN) (aA (aF (b5 (bN lO (av az (ag 0) aq) (aS (au aI (au aI aC)))) (cG (aW (kB E) hr (av az (ag 0) aq))))))))
theorem zJ:Fn P w K mg base "is_line" ["thing"] 35 (spM K 1 i8):=aU E 47 ["thing"] fun B S hr=>(ay (aM (b8 (cq (bU (bh (bE .tup B.z (ag 0) B.z boot_tuple))) (cq (aJ eE (ba bC rfl B.z boot_len (au (ag 0) aC)) aq) (cE (bU (bh (aW (kB E) hr (av az (ag 0) aq)))))))) (aA (aF bQ)) aN) (aA (aF (b5 (aW (yg E) hr (av az (ag 0) aq)) (cG (aW (AL E) hr (av az (ag 0) aq)))))))
theorem yP:Fn P w K mg base "comes_to" ["recipe","reads","end"] 84 (spM K 3 gy):=aU E 53 ["recipe","reads","end","came"] fun B S hr=>(ay (aY (i:=3) S.nd (h7 (AK E) hr (ag 0) (cJ (top 53) ["recipe","reads","end","came"] (bM (ag 1)) (aS (au (av az (ag 0) aq) (au (aW (l0 E) hr (av az (ag 0) aq)) aC)))) (dO aC))) (ay (aM (aJ bb (av az (ag 3) aq) aI) (aA (aF (bN (lD hr) (ag 2) (aS (au aI (au (aW (kh E 25) hr (av az (ag 3) aq)) aC)))))) aN) (aA (aF (bN (lD hr) (ag 2) (ag 3))))))
theorem yK:Fn P w K mg base "is_right" ["recipe","line"] 85 (spM K 2 e8):=aU E 52 ["recipe","line"] fun B S hr=>(aA (aF (h7 (yP E) hr (ag 0) (av az (ag 1) aq) (av az (ag 1) aq))))
theorem xn:Fn P w K mg base "lines_by_names" ["lines"] 1 (spM K 1 jZ):=aU E 54 ["lines","found","line"] fun B S hr=>(ay (eL (i:=1) S.nd) (ay (dv (i:=2) S.nd (bM (ag 0)) (aA (cQ (i:=1) hr (av az (ag 2) aq) (ag 2)))) (aA (aF (ag 1)))))
theorem yH:Fn P w K mg base "shown_by" ["paper"] 1 (spM K 1 i7):=aU E 62 ["paper","ends","line"] fun B S hr=>(ay (eL (i:=1) S.nd) (ay (dv (i:=2) S.nd (bM (ag 0)) (aA (cQ (i:=1) hr (av az (ag 2) aq) (av az (ag 2) aq)))) (aA (aF (ag 1)))))
theorem xc:Fn P w K mg base "are_reads_shown" ["book","paper"] 27 (spM K 2 h9):=aU E 60 ["book","paper","ahead","name","value","line"] fun B S hr=>(ay (eL (i:=2) S.nd) (ay (t7 (i:=3) (j:=4) S.nd (av az (ag 0) aq) (aA (cQ (i:=2) hr (ag 3) (aS (au aI (au (aW (kh E 25) hr (ag 4)) aC)))))) (ay (dv (i:=5) S.nd (bM (ag 1)) (ay (aM (bU (bh (ba eR rfl B.z boot_all (au (cJ (top 60) ["book","paper","ahead","name","value","line"] (bM (av az (ag 5) aq)) (bN (lD hr) (CB hr (ag 3) (av az (ag 0) aq)) (aS (au aI (au (av az (ag 0) aq) aC))))) aC)))) (aA (aF bQ)) aN) (aA (cQ (i:=2) hr (av az (ag 5) aq) (av az (ag 5) aq))))) (aA (aF bQ)))))
theorem yL:Fn P w K mg base "is_paper" ["thing"] 36 (spM K 1 ke):=aU E 58 ["thing"] fun B S hr=>(aA (aF (b5 (bE .lst B.z (ag 0) B.z boot_list) (b5 (bN hJ (ba bC rfl B.z boot_len (au (ag 0) aC)) (fj rfl B.i)) (cG (ba eR rfl B.z boot_all (au (cJ (top 58) ["thing"] (bM (ag 0)) (aW (zJ E) hr (ag 0))) aC)))))))
theorem xf:Fn P w K mg base "are_of_the_book" ["book","paper"] 2 (spM K 2 iW):=aU E 59 ["book","paper","names"] fun B S hr=>(ay (lH (i:=2) (top 59) ["book","paper","names"] ["book","paper","names"] S.nd (bM (ag 1)) (av az (ag 0) aq) ny) (aA (aF (b5 (bN bb (ug B.z B.z (ag 2)) (ba bC rfl B.z boot_len (au (ag 2) aC))) (cG (ba eR rfl B.z boot_all (au (cJ (top 59) ["book","paper","names"] (bM (ag 2)) (bN bb (a9 (rq E) hr (ag 1) (ag 0)) aI)) aC)))))))
theorem xB:Fn P w K mg base "is_end_shown" ["book","ends","end"] 2 (spM K 3 d7):=aU E 61 ["book","ends","end"] fun B S hr=>(ay (aM (aJ eE (av az (ag 2) aq) aI) (aA (aF bQ)) aN) (ay (aM (aJ (dQ hr) (av az (ag 2) aq) (ag 1)) (aA (aF (bN eE (av az (av (cM hr) (ag 1) (av az (ag 2) aq)) aq) aI))) aN) (aA (aF (bN bb (a9 (rq E) hr (ag 0) (av az (ag 2) aq)) aI)))))
theorem ja:Fn P w K mg base "lets_by" ["book","paper"] 86 (spM K 2 cb):=aU E 57 ["book","paper","ends"] fun B S hr=>(ay (aM (b8 (cq (bU (bh (aW (yL E) hr (ag 1)))) (cE (bU (bh (a9 (xf E) hr (ag 0) (ag 1))))))) (aA (aF bQ)) aN) (ay (aM (bU (bh (ba eR rfl B.z boot_all (au (cJ (top 57) ["book","paper","ends"] (bM (ag 1)) (a9 (yK E) hr (av (cM hr) (av az (ag 1) aq) (av az (ag 0) aq)) (ag 0))) aC)))) (aA (aF bQ)) aN) (ay (aY (i:=2) S.nd (aW (yH E) hr (ag 1))) (aA (aF (b5 (a9 (xc E) hr (ag 0) (ag 1)) (cG (ba eR rfl B.z boot_all (au (cJ (top 57) ["book","paper","ends"] (bM (ag 1)) (h7 (xB E) hr (ag 1) (ag 3) (av az (ag 0) aq))) aC)))))))))
theorem yG:Fn P w K mg base "start_of" ["recipe"] 82 (spM K 1 eY):=aU E 71 ["recipe"] fun B S hr=>(aA (aF (aS (au (aS aC) (au (aS aC) (au (a9 (kA E 25) hr (ag 0) (aS aC)) aC))))))
theorem pU:Fn P w K mg base "awaited_at" ["come"] 1 (spM K 1 dh):=aU E 73 ["come"] fun B S hr=>(aA (aF (dY (aJ lO (av az (av az (ag 0) aq) aq) (A5 (ss:=["want","peek"]) rfl B.g_GETTING)) (av az (av az (ag 0) aq) aq) dw)))
theorem Ce:Fn P w K mg base "given" ["come","value"] 82 (spM K 2 jl):=aU E 74 ["come","value","step","got","reads"] fun B S hr=>(ay (aY (i:=2) S.nd (av az (ag 0) aq)) (ay (aY (i:=3) S.nd (aV bB (av az (ag 0) aq) (aS (au (ag 1) aC)))) (ay (aY (i:=4) S.nd (dY (aJ bb (av az (ag 2) aq) aI) (aV bB (av az (ag 0) aq) (aS (au (aS (au (av az (ag 2) aq) (au (ag 1) aC))) aC))) (av az (ag 0) aq))) (aA (aF (aS (au (ag 3) (au (ag 4) (au (a9 (kA E 25) hr (av az (ag 2) aq) (ag 3)) aC)))))))))
theorem zK:Fn P w K mg base "gone_on" ["come","good"] 83 (spM K 2 fg):=aU E 72 ["come","good"] fun B S hr=>(ay (fi 100000 (aJ (dQ hr) (aW (pU E) hr (ag 0)) (ag 1)) (aA (aY (i:=0) S.nd (a9 (Ce E) hr (ag 0) (av (cM hr) (ag 1) (aW (pU E) hr (ag 0))))))) (aA (aF (ag 0))))
theorem lU:Fn P w K mg base "made_afresh" ["book"] 84 (spM K 1 fS):=aU E 70 ["book","good","come","name","recipe","grown","many"] fun B S hr=>(ay (sE (i:=1) B.z S.nd (av az (ag 0) aq)) (ay (eL (i:=2) S.nd) (ay (t7 (i:=3) (j:=4) S.nd (av az (ag 0) aq) (aA (cQ (i:=2) hr (ag 3) (aW (yG E) hr (ag 4))))) (ay (aY (i:=5) S.nd bQ) (ay (fi 100000 (bh (ag 5)) (ay (aY (i:=6) S.nd (ba bC rfl B.z boot_len (au (ag 1) aC))) (ay (dv (i:=3) S.nd (bM (av az (ag 0) aq)) (ay (cQ (i:=2) hr (ag 3) (uf (a9 (zK E) hr (av (cM hr) (ag 2) (ag 3)) (ag 1)))) (aA (aM (aJ bb (av az (av az (av (cM hr) (ag 2) (ag 3)) aq) aq) aI) (aA (cQ (i:=1) hr (ag 3) (av az (av az (av (cM hr) (ag 2) (ag 3)) aq) aq))) aN)))) (aA (aY (i:=5) S.nd (bN hU (ba bC rfl B.z boot_len (au (ag 1) aC)) (ag 6))))))) (aA (aF (aS (au (ag 1) (au (ag 2) aC))))))))))
theorem xM:Fn P w K mg base "good_values" ["book"] 85 (spM K 1 fT):=aU E 67 ["book"] fun B S hr=>(aA (aF (av az (aW (lU E) hr (ag 0)) aq)))
theorem pM:Fn P w K mg base "result_along" ["lines","name"] 32 (spM K 2 eX):=aU E 78 ["lines","name","row","end"] fun B S hr=>(ay (gG (i:=2) S.nd (au (ag 1) aC)) (ay (fi 100000 (b8 (jC (aJ (dQ hr) (av az (ag 2) (da aq)) (ag 0)) (jp (aJ kN (av az (ag 2) (da aq)) (dg (ag 2) eM (cC (da aq))))))) (ay (aY (i:=3) S.nd (av az (av (cM hr) (ag 0) (av az (ag 2) (da aq))) aq)) (ay (aM (aJ bb (av az (ag 3) aq) aI) (aA (aF (aS (au aI (au (aW (l0 E) hr (av az (ag 3) aq)) aC))))) aN) (ay (aM (aJ bb (av az (ag 3) aq) aI) (aA (aF (aS (au aI (au (c8 fW rfl B.z boot_tuple (au (ag 2) aC)) (au (av az (ag 3) aq) aC)))))) aN) (aA (gQ (i:=2) (by exact(av az (ag 3) aq)))))))) (aA (aF (aS (au (dY (aJ (dQ hr) (av az (ag 2) (da aq)) (ag 0)) aI aI) (au (c8 fW rfl B.z boot_tuple (au (ag 2) aC)) aC)))))))
theorem AM:Fn P w K mg base "end_by" ["step"] 27 (spM K 1 fh):=aU E 77 ["step"] fun B S hr=>(ay (aM (aJ bb (av az (ag 0) aq) aI) (aA (aF (aS (au aI (au (aW (kh E 25) hr (av az (ag 0) aq)) aC))))) aN) (ay (aM (aJ bb (av az (ag 0) aq) aI) (aA (aF (ag 0))) aN) (aA (aF (aS (au aI (au (av az (ag 0) aq) aC)))))))
theorem ye:Fn P w K mg base "line_from" ["name","come"] 28 (spM K 2 di):=aU E 76 ["name","come","reads"] fun B S hr=>(ay (aY (i:=2) S.nd (c8 fW rfl B.z boot_tuple (au (cJ (top 76) ["name","come","reads"] (bM (av az (ag 1) aq)) (aS (au (av az (ag 0) aq) (au (aW (kh E 25) hr (av az (ag 0) aq)) aC)))) aC))) (aA (aF (aS (au (ag 0) (au (ag 2) (au (aW (AM E) hr (av az (ag 1) aq)) aC)))))))
theorem pT:Fn P w K mg base "lines_from" ["come"] 29 (spM K 1 gu):=aU E 75 ["come","lines","name"] fun B S hr=>(ay (eL (i:=1) S.nd) (ay (dv (i:=2) S.nd (bM (ag 0)) (aA (cQ (i:=1) hr (ag 2) (a9 (ye E) hr (ag 2) (av (cM hr) (ag 0) (ag 2)))))) (aA (aF (ag 1)))))
theorem Cf:Fn P w K mg base "fresh" ["book","name"] 85 (spM K 2 fq):=aU E 68 ["book","name","made"] fun B S hr=>(ay (aY (i:=2) S.nd (aW (lU E) hr (ag 0))) (ay (aM (aJ (dQ hr) (ag 1) (av az (ag 2) aq)) (aA (aF (aS (au aI (au (av (cM hr) (av az (ag 2) aq) (ag 1)) aC))))) aN) (aA (aF (a9 (pM E) hr (aW (pT E) hr (av az (ag 2) aq)) (ag 1))))))
theorem yJ:Fn P w K mg base "lines_of" ["book"] 85 (spM K 1 gx):=aU E 69 ["book"] fun B S hr=>(aA (aF (aW (pT E) hr (av az (aW (lU E) hr (ag 0)) aq))))
theorem xr:Fn P w K mg base "reads_none_of" ["lines","line"] 1 (spM K 2 gr):=aU E 86 ["lines","line"] fun B S hr=>(aA (aF (lq (ba FX rfl B.z boot_any (au (cJ (top 86) ["lines","line"] (bM (av az (ag 1) aq)) (bN (dQ hr) (av az (ag 0) aq) (ag 1))) aC)))))
theorem yN:Fn P w K mg base "in_order" ["lines"] 2 (spO K 1 kf):=FM E 85 ["lines","paper","left","free","name"] fun B S hr=>(ay (gG (i:=1) S.nd aC) (ay (sE (i:=2) B.z S.nd (ag 0)) (ay (fi 100000 (aJ hU (ba bC rfl B.z boot_len (au (ag 2) aC)) aq) (ay (lH (i:=3) (top 85) ["lines","paper","left","free","name"] ["lines","paper","left","free",".4."] S.nd (bM (sI B.z (ag 2))) (ag 0) (t5 rfl (bh (uf (a9 (xr E) hr (ag 3) (av (cM hr) (ag 3) (ag 0))))))) (ay (aM (aJ bb (ba bC rfl B.z boot_len (au (ag 3) aC)) aq) (aA AZ) aN) (aA (dv (i:=4) S.nd (bM (ag 3)) (aA (Et (i:=1) (j:=2) (by exact(ag 4))))))))) (aA (A0 (i:=1))))))
theorem yI:Fn P w K mg base "names_in" ["line"] 1 (spM K 1 ie):=aU E 84 ["line","wanted"] fun B S hr=>(ay (aY (i:=1) S.nd (dY (aJ bb (av az (av az (ag 0) aq) aq) aI) (dO (au (av az (av az (ag 0) aq) aq) aC)) (dO aC))) (aA (aF (aV bB (cJ (top 84) ["line","wanted"] (bM (av az (ag 0) aq)) (av az (ag 0) aq)) (ag 1)))))
theorem xu:Fn P w K mg base "names_reached" ["lines","names"] 2 (spM K 2 iY):=aU E 83 ["lines","names","reached","left","name"] fun B S hr=>(ay (eL (i:=2) S.nd) (ay (AY (i:=3) B.z S.nd (ag 1)) (ay (fi 100000 (aJ hU (ba bC rfl B.z boot_len (au (ag 3) aC)) aq) (ay (Cu (i:=3) (j:=4) S.nd) (aA (aM (aJ (mB hr) (ag 4) (ag 2)) (ay (cQ (i:=2) hr (ag 4) bQ) (aA (Es (i:=3) (by exact(dY (aJ (dQ hr) (ag 4) (ag 0)) (aW (yI E) hr (av (cM hr) (ag 0) (ag 4))) (dO aC)))))) aN)))) (aA (aF (sI B.z (ag 2)))))))
theorem xw:Fn P w K mg base "lines_reached" ["lines","names"] 3 (spM K 2 j4):=aU E 82 ["lines","names","found","name"] fun B S hr=>(ay (eL (i:=2) S.nd) (ay (dv (i:=3) S.nd (bM (a9 (xu E) hr (ag 0) (ag 1))) (aA (aM (aJ (dQ hr) (ag 3) (ag 0)) (aA (cQ (i:=2) hr (ag 3) (av (cM hr) (ag 0) (ag 3)))) aN))) (aA (aF (ag 2)))))
theorem qy:Fn P w K mg base "paper_of" ["book","names"] 86 (spM K 2 dH):=aU E 80 ["book","names","lines"] fun B S hr=>(ay (aY (i:=2) S.nd (aW (yJ E) hr (ag 0))) (aA (aF (zO (yN E) (hr.mono (by omega)) rfl (au (a9 (xw E) hr (ag 2) (ag 1)) aC) (dr gF)))))
theorem yc:Fn P w K mg base "result_by" ["paper","name"] 33 (spM K 2 ib):=aU E 81 ["paper","name","lines"] fun B S hr=>(ay (aY (i:=2) S.nd (aW (xn E) hr (ag 0))) (ay (aM (aJ (mB hr) (ag 1) (ag 2)) (aA Cv) aN) (aA (aF (a9 (pM E) hr (ag 2) (ag 1))))))
theorem pN:Fn P w K mg base "_law_cell_at" ["_law_script","_law_k"] 1 (spM K 2 dE):=aU E 88 ["_law_script","_law_k"] fun B S hr=>(ay (aM (aJ iR (ag 1) (ba bC rfl B.z boot_len (au (ag 0) aC))) (aA (aF (av az (ag 0) (ag 1)))) aN) (aA (aF aq)))
theorem xY:Fn P w K mg base "_law_draws" ["_law_cell","_law_many"] 1 (spM K 2 ia):=aU E 89 ["_law_cell","_law_many","_law_found","_law_number","_law_mixed","_law_k"] fun B S hr=>(ay (gG (i:=2) S.nd aC) (ay (aY (i:=3) S.nd aq) (ay (aM (aJ wC (ag 0) (aV vD aq aq)) (aA (aY (i:=3) S.nd (ag 0))) aN) (ay (aY (i:=4) S.nd (aV bB (aV fA (ag 0) aq) aq)) (ay (dv (i:=5) S.nd (iz rfl B.z (ag 1)) (ay (aY (i:=4) S.nd (aV fA (aV bB (aV bB (aV gX (ag 4) (ag 4)) (aV gX aq (ag 4))) (aV gX aq (ag 5))) aq)) (aA (aM (aJ hU (ag 3) aq) (ay (gQ (i:=2) (by exact(aV fA (ag 3) aq))) (aA (aY (i:=3) S.nd (aV m8 (ag 3) aq)))) (aA (gQ (i:=2) (by exact(aV m8 (aV fA (aV bB (aV gX (ag 4) aq) (aV gX aq (ag 5))) aq) aq)))))))) (aA (aF (ag 2))))))))
theorem i6:Fn P w K mg base "_law_take" ["_law_tape","_law_many"] 1 (spM K 2 bX):=aU E 90 ["_law_tape","_law_many"] fun B S hr=>(ay (Er (ag 0) aq (aV bB (av az (ag 0) aq) aq)) (aA (aF (aV fA (av az (av az (ag 0) aq) (aV fA (aV gW (av az (ag 0) aq) aq) (ba bC rfl B.z boot_len (au (av az (ag 0) aq) aC)))) (ag 1)))))
theorem qh:∀n,Fn P w K mg base "_law_same" ["_law_found","_law_due_here"] (0+n) (spM K 2 (dF n)):=f6 (gf E 91) fun n ih=>aU (k:=0+n) E 91 ["_law_found","_law_due_here"] fun B S hr=>(ay (aM (bh (A4 B.z (ag 1) B.z B.z)) (ay (aM (b8 (cq (aJ eE (bE .tup B.z (ag 0) B.z boot_tuple) (bE .tup B.z (ag 1) B.z boot_tuple)) (cE (aJ eE (bE .lst B.z (ag 0) B.z boot_list) (bE .lst B.z (ag 1) B.z boot_list))))) (aA (aF bQ)) aN) (aA (aF (b5 (bN bb (ba bC rfl B.z boot_len (au (ag 0) aC)) (ba bC rfl B.z boot_len (au (ag 1) aC))) (cG (ba eR rfl B.z boot_all (au (cJ (top 91) ["_law_found","_law_due_here"] (iz rfl B.z (ba bC rfl B.z boot_len (au (ag 1) aC))) (a9 ih hr (av (cM hr) (ag 1) (ag 0)) (av (cM hr) (ag 2) (ag 0)))) aC))))))) aN) (ay (aM (bh (bE .dct B.z (ag 1) B.z boot_dict)) (ay (aM (b8 (cq (bU (bh (bE .dct B.z (ag 0) B.z boot_dict))) (cE (aJ eE (ba bC rfl B.z boot_len (au (ag 0) aC)) (ba bC rfl B.z boot_len (au (ag 1) aC)))))) (aA (aF bQ)) aN) (aA (aF (ba eR rfl B.z boot_all (au (cJ (top 91) ["_law_found","_law_due_here"] (bM (ag 1)) (b5 (bN (dQ hr) (ag 0) (ag 1)) (cG (a9 ih hr (av (cM hr) (ag 1) (ag 0)) (av (cM hr) (ag 2) (ag 0)))))) aC))))) aN) (ay (aM (b8 (cq (bh (bE .bl B.z (ag 1) B.z boot_bool)) (cE (aJ lN (ag 1) dw)))) (aA (aF (b5 (bN bb (bE .bl B.z (ag 0) B.z boot_bool) (bE .bl B.z (ag 1) B.z boot_bool)) (cG (bN bb (ag 0) (ag 1)))))) aN) (ay (aM (bh (bE .int B.z (ag 1) B.z boot_int)) (aA (aF (b5 (bE .int B.z (ag 0) B.z boot_int) (b5 (lq (bE .bl B.z (ag 0) B.z boot_bool)) (cG (bN bb (ag 0) (ag 1))))))) aN) (aA (aF (b5 (bE .str B.z (ag 0) B.z boot_str) (cG (bN bb (ag 0) (ag 1))))))))))
theorem yh:Fn P w K mg base "_law_book" ["_law_script"] 2 (spM K 1 gv):=aU E 92 ["_law_script","_law_tape","_law_letters","_law_many","_law_names","_law_nexts","_law_recipes","_law_k","_law_step","_law_recipe","_law_j","_law_far","_law_way","_law_back","_law_givens"] fun B S hr=>(zN (i:=1) S.nd (au (a9 (xY E) hr (a9 (pN E) hr (ag 0) aq) aq) (au aq aC)) (ay (aY (i:=2) S.nd aI) (ay (aY (i:=3) S.nd (aV bB aq (a9 (i6 E) hr (ag 1) aq))) (ay (lH (i:=4) (top 92) ["_law_script","_law_tape","_law_letters","_law_many","_law_names","_law_nexts","_law_recipes","_law_k","_law_step","_law_recipe","_law_j","_law_far","_law_way","_law_back","_law_givens"] ["_law_script","_law_tape","_law_letters","_law_many","_law_names","_law_nexts","_law_recipes",".7.","_law_step","_law_recipe","_law_j","_law_far","_law_way","_law_back","_law_givens"] S.nd (iz rfl B.z (ag 3)) (aV gX (av az (ag 3) (aV fA (ag 0) aq)) (aV bB aq (aV m8 (ag 0) aq))) ny) (ay (eL (i:=5) S.nd) (ay (eL (i:=6) S.nd) (ay (dv (i:=7) S.nd (iz rfl B.z (aV gW (ag 3) aq)) (ay (aY (i:=8) S.nd (ba v5 rfl B.z boot_min (au (aV gW (ag 3) aq) (au (aV bB (aV bB (ag 7) aq) (a9 (i6 E) hr (ag 1) aq)) aC)))) (ay (cQ (i:=5) hr (av az (ag 4) (ag 7)) (av az (ag 4) (ag 8))) (ay (aY (i:=9) S.nd (aS (au aI (au (aS (au aI (au aq aC))) aC)))) (ay (dv (i:=10) S.nd (iz rfl B.z (av az (dO (au aq (au aq (au aq (au aq aC))))) (a9 (i6 E) hr (ag 1) aq))) (ay (aY (i:=11) S.nd (ba v5 rfl B.z boot_min (au (aV gW (ag 3) aq) (au (aV bB (aV bB (ag 7) aq) (aV fA (aV bB (ag 10) (ag 7)) aq)) aC)))) (aA (aY (i:=9) S.nd (aS (au aI (au (aS (au aI (au (av az (ag 4) (ag 11)) aC))) (au (ag 9) aC)))))))) (aA (cQ (i:=6) hr (av az (ag 4) (ag 7)) (aS (au aI (au (aS (au aI (au (av az (ag 4) (ag 8)) aC))) (au (ag 9) aC))))))))))) (ay (aY (i:=12) S.nd (a9 (i6 E) hr (ag 1) aq)) (ay (aY (i:=13) S.nd (av az (ag 4) (a9 (i6 E) hr (ag 1) (ag 3)))) (ay (eL (i:=14) S.nd) (ay (aM (aJ bb (ag 12) aq) (aA (cQ (i:=14) hr (av az (ag 4) (da aq)) (aS (au aI (au aq aC))))) aN) (ay (aM (aJ bb (ag 12) aq) (aA (cQ (i:=6) hr (av az (ag 4) (da aq)) (aS (au aI (au aI aC))))) aN) (ay (aM (aJ bb (ag 12) aq) (ay (cQ (i:=6) hr (av az (ag 4) (da aq)) (aS (au aI (au (aS (au aI (au (ag 13) aC))) (au (aS (au aI (au (aS (au aI (au aq aC))) aC))) aC))))) (aA (cQ (i:=5) hr (av az (ag 4) (da aq)) (ag 13)))) aN) (aA (aF (dO (au (aS (au (ag 14) (au (ag 6) aC))) (au (ag 5) (au (ag 4) (au (ag 12) aC))))))))))))))))))))
theorem qC:Fn P w K mg base "_law_due" ["_law_world","_law_name"] 1 (spM K 2 c7):=aU E 93 ["_law_world","_law_name","_law_book_here","_law_nexts","_law_names","_law_way","_law_row"] fun B S hr=>(ay (sD (i:=2) (j:=3) (k:=4) (m:=5) S.nd (ag 0)) (ay (aM (aJ bb (ag 5) aq) (aA (aF (aS (au aI (au (aS (au aI (au aq aC))) aC))))) aN) (ay (gG (i:=6) S.nd (au (ag 1) aC)) (ay (fi 100000 (b8 (jC (aJ (dQ hr) (av az (ag 6) (da aq)) (ag 3)) (jp (aJ kN (av az (ag 6) (da aq)) (dg (ag 6) eM (cC (da aq))))))) (aA (gQ (i:=6) (by exact(av (cM hr) (ag 3) (av az (ag 6) (da aq))))))) (ay (aM (aJ bb (ag 5) aq) (aA (aF (aS (au aI (au (c8 fW rfl B.z boot_tuple (au (ag 6) aC)) (au aI aC)))))) aN) (aA (aF (av az (dO (au (aS (au aI (au (c8 fW rfl B.z boot_tuple (au (ag 6) aC)) aC))) (au (aS (au aI (au (c8 fW rfl B.z boot_tuple (au (ag 6) aC)) aC))) aC))) (c8 oR rfl B.z boot_int (au (bN bb (ag 5) aq) aC))))))))))
theorem xa:Fn P w K mg base "_law_paper_right" ["_law_world","_law_name"] 87 (spM K 2 eG):=aU E 94 ["_law_world","_law_name","_law_book_here","_law_paper","_law_due_here","_law_shown","_law_k","_law_reads","_law_early","_law_rest","_law_at"] fun B S hr=>(ay (aY (i:=2) S.nd (av az (ag 0) aq)) (ay (aY (i:=3) S.nd (a9 (qy E) hr (ag 2) (dO (au (ag 1) aC)))) (ay (aY (i:=4) S.nd (a9 (qC E) hr (ag 0) (ag 1))) (ay (aM (aJ (mB hr) (ag 1) (av az (ag 2) aq)) (aA (aF (b5 (bE .lst B.z (ag 3) B.z boot_list) (cG (bN vG (a9 (ja E) hr (ag 2) (ag 3)) bQ))))) aN) (ay (aY (i:=5) S.nd (cJ (top 94) ["_law_world","_law_name","_law_book_here","_law_paper","_law_due_here","_law_shown","_law_k","_law_reads","_law_early","_law_rest","_law_at"] (bM (ag 3)) (av az (ag 0) aq))) (ay (aM (b8 (cq (aJ kO (a9 (ja E) hr (ag 2) (ag 3)) bQ) (cq (aJ kN (ag 1) (ag 5)) (cE (aJ (vF hr) (ug B.z B.z (ag 5)) (ba bC rfl B.z boot_len (au (ag 5) aC))))))) (aA (aF bQ)) aN) (ay (aM (bU (bh (a9 (qh E 25) hr (a9 (yc E) hr (ag 3) (ag 1)) (ag 4)))) (aA (aF bQ)) aN) (ay (aM (aJ kO (a9 (ja E) hr (ag 2) (aV bB (ag 3) (dg (ag 3) eM (cC aq)))) bQ) (aA (aF bQ)) aN) (ay (dv (i:=6) S.nd (Cz rfl B.z (ba FW rfl B.z boot_max (au aq (au (aV gW (ba bC rfl B.z boot_len (au (ag 3) aC)) aq) aC))) (ba bC rfl B.z boot_len (au (ag 3) aC))) (ay (aY (i:=7) S.nd (cJ (top 94) ["_law_world","_law_name","_law_book_here","_law_paper","_law_due_here","_law_shown","_law_k","_law_reads","_law_early","_law_rest","_law_at"] (bM (av az (av az (ag 3) (ag 6)) aq)) (av az (ag 0) aq))) (ay (lH (i:=8) (top 94) ["_law_world","_law_name","_law_book_here","_law_paper","_law_due_here","_law_shown","_law_k","_law_reads","_law_early","_law_rest","_law_at"] ["_law_world","_law_name","_law_book_here","_law_paper","_law_due_here","_law_shown","_law_k","_law_reads","_law_early","_law_rest","_law_at"] S.nd (iz rfl B.z (ag 6)) (ag 0) (t5 rfl (aJ lO (av az (ag 6) (ag 0)) (ag 8)))) (aA (aM (aJ (vF hr) (ag 8) (dO aC)) (ay (aY (i:=9) S.nd (aV bB (dg (ag 3) eM (cC (ag 6))) (dg (ag 3) (cC (aV bB (ag 6) aq)) eM))) (ay (aY (i:=10) S.nd (av az (ag 8) aq)) (aA (aM (aJ kO (a9 (ja E) hr (ag 2) (aV bB (aV bB (dg (ag 9) eM (cC (ag 10))) (dO (au (av az (ag 3) (ag 6)) aC))) (dg (ag 9) (cC (ag 10)) eM))) bQ) (aA (aF bQ)) aN)))) aN))))) (aA (aF bQ)))))))))))
theorem DM{f:Addr}{fd:FuncData}(F:Fun K "law" "law" (top 95) f fd):FnOk P w K mg base CX0 88 f fd ["_law_script"] (spM K 1 iH):=FN E ["_law_script","_law_world","_law_book_here","_law_nexts","_law_names","_law_way","_law_found","_law_name"] F fun B S hr=>(ay (aY (i:=1) S.nd (aW (yh E) hr (ag 0))) (ay (sD (i:=2) (j:=3) (k:=4) (m:=5) S.nd (ag 1)) (ay (aY (i:=6) S.nd (aW (xM E) hr (ag 2))) (ay (aM (aJ eE (ba bC rfl B.z boot_len (au (ag 6) aC)) (aV gX (ba bC rfl B.z boot_len (au (ag 4) aC)) (c8 oR rfl B.z boot_int (au (bN bb (ag 5) aq) aC)))) (aA (aF bQ)) aN) (ay (dv (i:=7) S.nd (bM (dO (au (av az (ag 4) aq) (au (av az (ag 4) (aV fA (a9 (pN E) hr (ag 0) aq) (ba bC rfl B.z boot_len (au (ag 4) aC)))) (au (av az (ag 4) (da aq)) aC))))) (aA (aM (b8 (cq (bU (bh (a9 (qh E 25) hr (a9 (Cf E) hr (ag 2) (ag 7)) (a9 (qC E) hr (ag 1) (ag 7))))) (cE (bU (bh (a9 (xa E) hr (ag 1) (ag 7))))))) (aA (aF bQ)) aN))) (aA (aF (bN vG (a9 (ja E) hr (ag 2) (a9 (qy E) hr (ag 2) (ag 4))) bQ))))))))
end
theorem all_mk{l:PySem.W.OpenLaw}{w:World}{K:Frag}{h:Heap}{mg:Str->Option Value}{fa:Addr}(X:K.In h)(G:h.Ns mainGlobals mg)(hfa:mg "law"=some (.ref fa))(d:DfL K top zS)(z:ZL K zZ)(i:IL K zI)(s:SL K zT){a_NOT_GIVEN:Addr}{o_NOT_GIVEN:Obj}(u_NOT_GIVEN:PySem.W.nsIn K mainGlobals "NOT_GIVEN"=some (some (.ref a_NOT_GIVEN)))(l_NOT_GIVEN:K.lookup a_NOT_GIVEN=some o_NOT_GIVEN)(v_NOT_GIVEN:ou a_NOT_GIVEN o_NOT_GIVEN [("want","wants"),("peek","peeks")]=true){a_GETTING:Addr}{o_GETTING:Obj}(u_GETTING:PySem.W.nsIn K mainGlobals "GETTING"=some (some (.ref a_GETTING)))(l_GETTING:K.lookup a_GETTING=some o_GETTING)(v_GETTING:oS o_GETTING ["want","peek"]=true)
  (hm:∀ns:List Int,ns.length<=63->∃T',iH [.d (jt ns)] []=some (.bool true,T')) :
  ∃fd:FuncData,(∀(s:Shared) (v:Value),BindsTo s fd ⟨[v],[]⟩ [("_law_script",v)])/\∀base:Heap,K.In base->base.Ns mainGlobals mg->FnOk l.prog w K mg base CX0 88 fa fd ["_law_script"] (ly K):=by
 obtain⟨f0,oc,od,an,sl,kV,dc,pm,cd,ct,a,lk,c,kp⟩:=(d.at (x:="law") (i:=95) (by decide +kernel)).ex;cases hfa.symm.trans (PySem.W.mg_of X G a);exact⟨PySem.W.fnOf "law" "law" (dt (top 95)) (cz (top 95)) (bp (top 95)) .none kV dc pm an cd ct,fun s v=>.of_eq rfl,fun base _ _=>AO (DM ⟨⟨_,X,G⟩,⟨FZ X G z i s,⟨_,PySem.W.mg_of X G u_NOT_GIVEN,yo l_NOT_GIVEN v_NOT_GIVEN⟩,⟨_,PySem.W.mg_of X G u_GETTING,y4 l_GETTING v_GETTING⟩⟩,d⟩ (uV (st:=top 95) lk c kp)) (zt hm)⟩
theorem walk{l:PySem.W.OpenLaw}{q:Program}{loose:List Str}{XP:(Str->Option Value)->Heap->Prop}{YP:World->Heap->Prop}{d:DefRec}{K:Params->Frag}(hn:l.most=some 63)(hdf:d.params.defaults=[])
  (hY:∀(w:World) (h:Heap),YP w h->(K w.params).In h)
  (F:∀(w:World) (mg:Str->Option Value) (fa:Addr) (h:Heap),(K w.params).In h->h.Ns mainGlobals mg->mg d.name=some (.ref fa) ->
   ∃fd:FuncData,(∀(s:Shared) (u:Value),BindsTo s fd ⟨[u],[]⟩ [("_law_script",u)])/\∀base:Heap,(K w.params).In base->base.Ns mainGlobals mg->FnOk l.prog w (K w.params) mg base CX0 88 fa fd ["_law_script"] (ly (K w.params))) :
  PySem.W.WalkO q loose XP YP l.row.toRowW d [] (fun f vs=>PySem.call f vs):=L2.Bk (n:=63) (k:=88) (x:="_law_script") (CX:=fun _=>CX0) (sp:=fun w=>ly (K w.params)) hn (by decide) hdf ⟨rfl,by decide,by decide,rfl⟩ hY F (fun _ _ a ns hl _ hS=>⟨a,ns,rfl,hS,hl,fun _=>rfl⟩) fun _ _ _ _ _ z=>z
open PySem PySem.Spec PySem.Calls PySem.W PyProof.Rows PySem.W.X PySem.W.ZRun
theorem walkZ{q:Program}{loose:List Str}{XP:(Str->Option Value)->Heap->Prop}{K:Params->Frag}{r:RowW}{d:DefRec}{kwd:List (Str×Expr)}
  {w:World}{s₀ s₁:Shared}{mg mb:Str->Option Value}{a:Addr}{o:Obj}{pm cd doc dV kV:Value}{args:List WData}{vals:List Value}{as:List Addr}
  (KX:(K w.params).In s₁.heap) (GR:Ground q loose r.records XP w s₀ mg mb s₁.heap) (ho:s₁.heap.get? a=some o)
  (hd:o.data=.func { docDef d.name d.params d.body d.scope pm cd doc with defaults:=dV,kwdefaults:=kV }) (hcd:s₁.heap.CodeRec cd d.name) (hD:Dflts mg s₁.heap d.params kwd dV kV) (hmg:mg d.name=some (.ref a)) (hg:s₁.gens = #[])
  (hpre:r.claim.pre args=true) (hlay:WData.layableAll args=true) (hrd:ReadsAllW r.records (classAt s₀.heap) s₁.heap vals args as) (hwl:WellAll w.params s₁.heap vals args) (hlo:∀a∈as,(a == sysModules)=false)
  (W:PySem.W.WalkO q loose XP (fun w h=>(K w.params).In h) r d kwd fun f vs=>PySem.call f vs) :
  wpAny (model r.prog w) callerA (PySem.call (.ref a) vals) (fun v s'=>GoodWG r.claim (classAt s₀.heap) (ExcName.means s₀.heap) args s₁ (.ok (.ret v)) s')
    (fun e s'=>GoodWG r.claim (classAt s₀.heap) (ExcName.means s₀.heap) args s₁ (.error e) s') s₁:=W w s₀ s₁ mg mb GR KX a o pm cd doc dV kV ho hd hcd hD hmg hg args vals as hpre hlay hrd hwl hlo
end G
end Internal
namespace PySem.W.Fast
def tw13651842154047047948:=Nat
def tw11591951654680757744:=Nat
def tw16172253084385789710:=Nat
def tw15483937651108026417:=Nat
def tw9738692727411765078:=Nat
def tw6603438527952353563:=Nat
def tw4755255783232117916:=Nat
def tw8589768780377965520:=Nat
def tw16615290680300342771:=Nat
def tw1573093264803731170:=Nat
def tw8073640562122881176:=Nat
def tw11356422617558663637:=Nat
def tw8632735482232442934:=Nat
def tw708721758993970974:=Nat
def tw3491955796075364986:=Nat
def tw17168711510182497736:=Nat
def tw8795729646350859083:=Nat
def tw11178260338336256929:=Nat
def tw2760422496463793997:=Nat
def tw1184522820396735848:=Nat
def tw12613090579921073843:=Nat
def tw7978339806242258258:=Nat
def tw12574762379076675210:=Nat
def tw5583422947279510041:=Nat
def tw6131138136779868486:=Nat
def tw6868344762581785725:=Nat
def tw2539306795161376108:=Nat
def tw1477208715466158776:=Nat
def tw6332033892854542515:=Nat
def tw4013250402721765470:=Nat
def tw4029172962463670964:=Nat
def tw12638184444564550317:=Nat
def tw9765812486586381707:=Nat
def tw12869013071059531749:=Nat
def tw7848935887380983387:=Nat
def tw15318212149631607920:=Nat
def tw4900233424810257941:=Nat
def tw14512414716966920047:=Nat
def tw2792518069418553901:=Nat
def tw153961047897792946:=Nat
def tw5100214900935854101:=Nat
def tw10918549641106773887:=Nat
def tw5619054367283610220:=Nat
def tw14167236669175110541:=Nat
def tw13655162731503229224:=Nat
def tw4415797919137358103:=Nat
def tw1108957441928656347:=Nat
def tw8042131387459259269:=Nat
def tw6931391132205288639:=Nat
def tw495645609562933426:=Nat
def tw11578234131479986037:=Nat
def tw2063378309698461511:=Nat
def tw1707239257565561796:=Nat
def tw3360906164493640590:=Nat
def tw3327589226523568450:=Nat
def tw680966554848196034:=Nat
def tw14738378116989570718:=Nat
def tw4465729914199870563:=Nat
def tw16307561206240916360:=Nat
def tw6342533128554683769:=Nat
def tw1812888678095996469:=Nat
def tw12738465796107477581:=Nat
def tw17404454337037150279:=Nat
def tw11512554311061065383:=Nat
def tw14862286843449172315:=Nat
def tw9869273211641187144:=Nat
def tw18314273133657424958:=Nat
def tw12221484024335261061:=Nat
def tw11242746276530233463:=Nat
def tw1186896055512171668:=Nat
def tw716424547117682031:=Nat
def tw9837856539009823759:=Nat
def tw1626712290463777485:=Nat
def tw5867459041519480762:=Nat
def tw12453903291372142141:=Nat
def tw12440422600990340545:=Nat
def tw15623435839308397609:=Nat
def tw9908195780947949405:=Nat
def tw6502820616665755534:=Nat
def tw10673747057170915156:=Nat
def tw3949605938289575772:=Nat
def tw5737720963174596484:=Nat
def tw14957629968573852341:=Nat
def tw9331009630397451196:=Nat
def tw8469143458401955163:=Nat
def tw3094435964542625435:=Nat
def tw6530044158111706435:=Nat
def tw16562056924732634941:=Nat
def tw12729158871450653122:=Nat
def tw12097562907127709578:=Nat
def tw14885426927115057093:=Nat
def tw12708334957653982196:=Nat
def tw14623428489104074726:=Nat
def tw1123922202577411654:=Nat
def tw2076749190734524663:=Nat
def tw17522940530383737554:=Nat
def tw16763811684812913074:=Nat
def tw18255245456045911057:=Nat
def tw5535633304988618965:=Nat
def tw7208237843845371006:=Nat
def tw8259553189248214226:=Nat
def tw10869405116389862826:=Nat
def tw11264850253794474210:=Nat
def tw16595485353888368594:=Nat
def tw4466107388360696944:=Nat
def tw11942763133544724305:=Nat
def tw2036317239312505428:=Nat
def tw1190620305131323392:=Nat
def tw65844579794253831:=Nat
def tw17554662719226678507:=Nat
def tw16620302884967808556:=Nat
def tw6586490253427084247:=Nat
def tw7418077377766190548:=Nat
def tw4882947800006684907:=Nat
def tw15764999559322857996:=Nat
def tw18234231342446933106:=Nat
def tw1431138055508700962:=Nat
def tw2859173139141616232:=Nat
def tw10653682755822830348:=Nat
def tw6392581784441463114:=Nat
def tw2275229490833967189:=Nat
def tw8136885571610131201:=Nat
def tw2766069823777210922:=Nat
def tw14716918455058043772:=Nat
def tw16474752643266259319:=Nat
def tw2680631517027469564:=Nat
def tw11660762413731056453:=Nat
def tw13536757188712082226:=Nat
def tw18145895784667985584:=Nat
def tw7850595357303360499:=Nat
def tw7302128108069234824:=Nat
def tw13366053048264223558:=Nat
def tw5010645788780921576:=Nat
def tw4694378102243223851:=Nat
def tw15599033121330739511:=Nat
def tw11753138816812423130:=Nat
def tw12983190307203111528:=Nat
def tw16680386685205858097:=Nat
def tw6041539161989816868:=Nat
def tw3833639199814927437:=Nat
def tw17899492055644122776:=Nat
def tw5032905477054674943:=Nat
def tw18413177789818755218:=Nat
def tw13391985579895072585:=Nat
def tw5415715628707577429:=Nat
def tw6083937646586649784:=Nat
def tw6123091776354708520:=Nat
def tw8747839475147446166:=Nat
def tw5170128920457559911:=Nat
def tw1158811385982160903:=Nat
def tw9923004904752593456:=Nat
def tw5592192888545369040:=Nat
def tw13541168440413440384:=Nat
def tw11965766407965827008:=Nat
def tw8218567357474185851:=Nat
def tw5726032274460086719:=Nat
def tw14278726651692295902:=Nat
def tw6771002224834435502:=Nat
def tw4597063436249355484:=Nat
def tw4027548726623923684:=Nat
def tw14166516349197251140:=Nat
def tw10275168120755588005:=Nat
def tw2943940809414733721:=Nat
def tw10720064201106733454:=Nat
def tw10625485497425372875:=Nat
def tw11605497277182957780:=Nat
def tw15260852037768724561:=Nat
def tw3196510168661920492:=Nat
def tw6258598125163386399:=Nat
def tw15410423549968826494:=Nat
def tw15801390293742654162:=Nat
def tw719798961985927084:=Nat
def tw14038545007997154901:=Nat
def tw243076596897057029:=Nat
def tw7642977047085976208:=Nat
def tw16550407133684207457:=Nat
def tw6538310669963286164:=Nat
def tw13601771507753163712:=Nat
def tw3794199221333699002:=Nat
def tw4147590140611793640:=Nat
def tw2452555059695144330:=Nat
def tw9895716812139780752:=Nat
def tw1972029051312248555:=Nat
def tw3123309726518455120:=Nat
def tw3809226782247997090:=Nat
def tw794932104088482489:=Nat
def tw1985006034331069555:=Nat
def tw14218928167822033280:=Nat
def tw2052432707265561998:=Nat
def tw5614870431392336769:=Nat
def tw6816933896175931354:=Nat
def tw11429046871525585213:=Nat
def tw15186187780160647793:=Nat
def tw14462263545668681501:=Nat
def tw12694631856544203422:=Nat
def tw8786665897047584714:=Nat
def tw511835977590670043:=Nat
def tw13767586545530750177:=Nat
def tw9744669520013151457:=Nat
def tw18358094956854666995:=Nat
def tw13805360877886005809:=Nat
def tw4042960836556732985:=Nat
def tw13390550782887231969:=Nat
def tw14247855718617988492:=Nat
def tw8087858556098252655:=Nat
def tw10570020898308268528:=Nat
def tw16836926230740363029:=Nat
def tw15003313777575003354:=Nat
def tw15196442682825335235:=Nat
def tw7944972023981309860:=Nat
def tw6284303406821618809:=Nat
def tw2736437207237170407:=Nat
def tw16180197203397475868:=Nat
def tw562255416418965402:=Nat
def tw2992073526756605116:=Nat
def tw1992302988045871232:=Nat
def tw15693875373742646083:=Nat
def tw2900423259239871838:=Nat
def tw17607955116324592493:=Nat
def tw5967032653466195207:=Nat
def tw17840906921959369741:=Nat
def tw15499387798939844326:=Nat
def tw6159316820806028157:=Nat
def tw7871091707320514950:=Nat
def tw15582716511313833641:=Nat
def tw9639521110438676684:=Nat
def tw393806661464841405:=Nat
def tw9053949111250858394:=Nat
def tw6290151686040716923:=Nat
def tw806840685379436521:=Nat
def tw450494832647310685:=Nat
def tw11694337580820020629:=Nat
def tw7337717131171803101:=Nat
def tw12543626527547953719:=Nat
def tw7601928832894812561:=Nat
def tw9447574535550517731:=Nat
def tw5086632761181650645:=Nat
def tw14232903563232227340:=Nat
def tw9038798108788996310:=Nat
def tw750362627078952107:=Nat
def tw12390643213127394106:=Nat
def tw6936120704301869950:=Nat
def tw16188842418771334314:=Nat
def tw10882700897347683963:=Nat
def tw14569785665788457658:=Nat
def tw903269628538134481:=Nat
def tw1498248394753647413:=Nat
def tw7573326696473083442:=Nat
def tw174653951282769316:=Nat
def tw12617604553611731417:=Nat
def tw825884388206408153:=Nat
def tw5319258684235422964:=Nat
def tw5422156847970326913:=Nat
def tw5141712421927794227:=Nat
def tw1417293794743083094:=Nat
def tw3831212767579545885:=Nat
def tw3493358748800197828:=Nat
def tw5928855996250497737:=Nat
def tw10589823728786648847:=Nat
def tw3637490283812189015:=Nat
def tw15406800428666205523:=Nat
def tw11977238226368665419:=Nat
def tw10079794195206290329:=Nat
def tw16064266548322288008:=Nat
def tw3800266980351824280:=Nat
def tw5153292887732159489:=Nat
def tw5965616078640855288:=Nat
def tw17168153385612870591:=Nat
def tw9940302957296199908:=Nat
def tw11236251973335815676:=Nat
def tw14360951960879801746:=Nat
def tw12836029810611122179:=Nat
def tw3503191605938084044:=Nat
def tw15207003331822394812:=Nat
def tw16918504177870399470:=Nat
def tw11322581337718856362:=Nat
def tw3948086512216755485:=Nat
def tw4428501075159773865:=Nat
def tw12240771428398366318:=Nat
def tw12446606591290186220:=Nat
def tw14758149285448595616:=Nat
def tw3693331360464873376:=Nat
def tw7659664886837325800:=Nat
def tw12558897213967836045:=Nat
def tw17298200081009827276:=Nat
def tw10411187610448780614:=Nat
def tw9605019231377869961:=Nat
def tw8158202381877982575:=Nat
def tw12497402992701537708:=Nat
def tw10298586518616041817:=Nat
end PySem.W.Fast
noncomputable def PySem.W.Fast.tw12317646344705534849 : PySem.Program := PySem.Challenge.pw_redo_k30_great_books
theorem PySem.W.Fast.te12317646344705534849 : PySem.Challenge.pw_redo_k30_great_books = PySem.W.Fast.tw12317646344705534849 := rfl

open Internal
open PySem PySem.W PyProof.Rows PySem.W.X PySem.W.ZRun
set_option maxRecDepth 100000 in
set_option maxHeartbeats 0 in
theorem PySem.Challenge.cw_redo_k30_great_books_holds : PySem.Challenge.rw_redo_k30_great_books.Holds := by
 w_on; o_law; z_head; (case hw=>w_witness2)
 k_fill
 intro w s₀ s₁ mg mb GR y fa o pm cd doc dV kV ho hd hcd hD hmg hg args vals as L hpre hlay hrd hwl hlo
 z_open y L KX ZH ZN ZT
 clear ZH ZN ZT
 refine G.walkZ KX GR ho hd hcd hD hmg hg hpre hlay hrd hwl hlo ?W
 clear KX GR ho hd hcd hD hmg hg hpre hlay hrd hwl hlo L y
 refine G.walk (l:=PySem.Challenge.rw_redo_k30_great_books) rfl rfl (fun w h Y=>Y) ?F
 case F=>
  intro w mg fa h KX GG hmg
  refine' G.all_mk KX GG hmg ?_ ?_ ?_ ?_ ?_ ?_ ?_ ?_ ?_ ?_ G.AE
  any_goals repeat' first | exact True.intro | refine' D.A3 ?_ ?_ | refine' D.Bj ?_ ?_ | refine' D.Cd ?_ ?_ | refine' D.Br ?_ ?_
  any_goals first | (refine' D.FH ?a ?l ?c ?k; (case a=>k_is); (case l=>k_is); (case c=>k_is); (case k=>k_is)) | k_is
  all_goals first | rfl | decide +kernel
