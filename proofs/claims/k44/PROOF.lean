import PyProof.Rows.All
import Wide.All
import OpenK.AllK
import Wide.FinOn
import Lean
import PyProof.EqAt
import PyProof.EqKinds
import PyProof.TupleCall
import PySem.Challenge.RW_redo_k44_reasons_why_it_fell
noncomputable section
open PySem.W (Frag)
set_option Elab.async false
set_option linter.all false
set_option maxRecDepth 100000
namespace L2
open PySem PySem.Spec PyProof.Rows
abbrev Key:=Sum Int Str
def eW:Key->Value->Bool
 |.inl k,v=>Value.isInt k v
 |.inr x,v=>Value.isStrOf x v
def zG(w:World):Key->Int
 |.inl k=>hashInt k
 |.inr x=>hashStr w x
theorem dX:∀{k:Key}{v:Value},eW k v=true->(∃i t,k=Sum.inl i/\v=Value.int i t)\/(∃x t,k=Sum.inr x/\v=Value.str x t)
 |.inl i,v,h=>by
  obtain⟨t,e⟩:=Value.isInt_shape (k:=i) (v:=v) h;exact .inl ⟨i,t,rfl,e⟩
 |.inr x,v,h=>by
  obtain⟨t,e⟩:=Value.isStrOf_shape (x:=x) (v:=v) h;exact .inr ⟨x,t,rfl,e⟩
theorem BS(i:Int)(t:Tok):eW (.inl i) (.int i t)=true:=by simp[eW,Value.isInt]
theorem BR(x:Str)(t:Tok):eW (.inr x) (.str x t)=true:=by simp[eW,Value.isStrOf]
theorem xX(a b:Int):decide ((Sum.inl a:Key)=Sum.inl b)=(a == b):=by
 by_cases e:a=b
 .subst e;simp
 .have h:¬(Sum.inl a:Key)=Sum.inl b:=fun q=>e (Sum.inl.inj q)
  rw[decide_eq_false h];exact(beq_eq_false_iff_ne.mpr e).symm
theorem xT(a b:Str):decide ((Sum.inr a:Key)=Sum.inr b)=decide (a=b):=by
 by_cases e:a=b
 .subst e;simp
 .have h:¬(Sum.inr a:Key)=Sum.inr b:=fun q=>e (Sum.inr.inj q)
  rw[decide_eq_false h,decide_eq_false e]
theorem xV(a:Int)(b:Str):decide ((Sum.inl a:Key)=Sum.inr b)=false:=decide_eq_false (fun q=>nomatch q)
theorem xU(a:Str)(b:Int):decide ((Sum.inr a:Key)=Sum.inl b)=false:=decide_eq_false (fun q=>nomatch q)
def bx(prog:Program)(w:World):PySem.KeyKind prog w Key where
 is:=eW
 hash:=zG w
 inj:=fun v a b ha hb=>by
  rcases dX ha with⟨i,t,rfl,rfl⟩|⟨x,t,rfl,rfl⟩
  .rcases dX hb with⟨j,u,rfl,e⟩|⟨y,u,rfl,e⟩
   .injection e with e1 _;rw[e1]
   .exact nomatch e
  .rcases dX hb with⟨j,u,rfl,e⟩|⟨y,u,rfl,e⟩
   .exact nomatch e
   .injection e with e1 _;rw[e1]
 byValue:=fun k v h=>by
  rcases dX h with⟨i,t,rfl,rfl⟩|⟨x,t,rfl,rfl⟩ <;> rfl
 pyHash:=fun hv h=>by
  rcases dX hv with⟨i,t,rfl,rfl⟩|⟨x,t,rfl,rfl⟩
  .exact wpAny_pyHash_int h
  .exact wpAny_pyHash_str h
 eqBool:=fun hu hv h=>by
  rcases dX hu with⟨i,t,rfl,rfl⟩|⟨x,t,rfl,rfl⟩
  .rcases dX hv with⟨j,u,rfl,rfl⟩|⟨y,u,rfl,rfl⟩
   .rw[xX] at h;exact wpAny_eqBool_int h
   .rw[xV] at h;exact SeqAt.EqAt.int_str i t y u _ _ _ _ h
  .rcases dX hv with⟨j,u,rfl,rfl⟩|⟨y,u,rfl,rfl⟩
   .rw[xU] at h;exact SeqAt.EqAt.str_int x t j u _ _ _ _ h
   .rw[xT] at h;exact wpAny_eqBool_str h
 «strs»:=fun k x t v h=>by
  rcases dX h with⟨i,u,rfl,e⟩|⟨y,u,rfl,e⟩
  .exact nomatch e
  .injection e with e1 _
   subst e1
   cases v <;> rfl
theorem AG(prog:Program)(w:World)(i:Int)(t:Tok):(bx prog w).is (.inl i) (.int i t)=true:=BS i t
theorem AF(prog:Program)(w:World)(x:Str)(t:Tok):(bx prog w).is (.inr x) (.str x t)=true:=BR x t
inductive V where
 |non|bl (b:Bool)|int (i:Int)|str (x:Str)|byt (b:Array UInt8)|flt (b:UInt64)|ref (a:Addr)|ty (n:String)
 deriving DecidableEq
def RelV:V->Value->Prop
 |.non,u=>u=Value.none
 |.bl b,u=>u=Value.bool b
 |.int i,u=>∃t,u=Value.int i t
 |.str x,u=>∃t,u=Value.str x t
 |.byt b,u=>∃t,u=Value.bytes b t
 |.flt b,u=>∃t,u=Value.float b t
 |.ref a,u=>u=Value.ref a
 |.ty n,u=>u=Value.type n
abbrev Vals:List V->List Value->Prop:=Paired RelV
theorem Vals.length(r:Vals xs us):xs.length=us.length:=Paired.length r
theorem Vals.get:∀{xs:List V}{us:List Value}{i:Nat}{x:V},Vals xs us->xs[i]? = some x->∃u,us[i]? = some u/\RelV x u
 |_,_,_,_,.nil,e=>by simp at e
 |_,_,0,_,.cons r _,e=>by simp at e;subst e;exact⟨_,rfl,r⟩
 |_,_,i+1,x,.cons _ t,e=>by
  obtain⟨u,h1,h2⟩:=Vals.get (i:=i) (x:=x) t (by simpa using e);exact⟨u,by simpa using h1,h2⟩
theorem Vals.set(r:RelV x u):∀{xs:List V}{us:List Value} (i:Nat),Vals xs us->Vals (xs.set i x) (us.set i u)
 |_,_,_,.nil=>.nil
 |_,_,0,.cons _ t=>.cons r t
 |_,_,i+1,.cons q t=>.cons q (Vals.set r i t)
theorem Vals.append:∀{xs ys:List V}{us ws:List Value},Vals xs us->Vals ys ws->Vals (xs++ys) (us++ws)
 |_,_,_,_,.nil,s=>s
 |_,_,_,_,.cons r t,s=>.cons r (Vals.append t s)
theorem Vals.take:∀{xs:List V}{us:List Value} (n:Nat),Vals xs us->Vals (xs.take n) (us.take n)
 |_,_,0,_=>.nil
 |_,_,_+1,.nil=>.nil
 |_,_,n+1,.cons r t=>.cons r (Vals.take n t)
theorem Vals.drop:∀{xs:List V}{us:List Value} (n:Nat),Vals xs us->Vals (xs.drop n) (us.drop n)
 |_,_,0,r=>r
 |_,_,_+1,.nil=>.nil
 |_,_,n+1,.cons _ t=>Vals.drop n t
def RelO:Option V->Option Value->Prop
 |some v,some u=>RelV v u
 |none,none=>True
 |_,_=>False
def KV{κ:Type}:List (κ×V)->List (κ×Value)->Prop:=Paired fun(p:κ×V) (q:κ×Value)=>p.1=q.1/\RelV p.2 q.2
def kV:Key->V
 |.inl i=>.int i
 |.inr x=>.str x
inductive HO where
  |lst (xs:List V)
  |tup (xs:List V)
  |dK (kvs:List (Key×V))|dT (kvs:List (List Key×V))
  |set (S:Int->Bool) (n:Nat)
  |ins (C dx:Addr) (fs:List (Str×V))
  |own (x:Addr)
  |xd (fs:List (Str×V))
  |met (f x:Addr)
  |rng (lo hi:Int)
  |frz (o:Obj) (u:HO)
  |tbl (ps:Array Value)
  |ext (φ:Heap->Prop)
abbrev Hp:=Addr->Option HO
def upd(H:Hp)(a:Addr)(o:HO):Hp:=fun b=>if b=a then some o else H b
theorem bt:upd H a o a=some o:=by unfold upd;rw[if_pos rfl]
theorem aT(h:b≠a):upd H a o b=H b:=by unfold upd;rw[if_neg h]
theorem DQ:upd (upd H a o) a u=upd H a u:=by funext b;unfold upd;split <;> rfl
theorem Ir{H:Hp}{a b:Addr}{o u:HO}(h:H a=some o)(h':H b=some u)(d:o≠u):a≠b:=by intro e;subst e;rw[h] at h';exact d (Option.some.inj h')
theorem dv{H:Hp}{a b:Addr}{o:HO}(h:H a=some o)(h':H b=none):a≠b:=by intro e;subst e;rw[h] at h';cases h'
section
variable (P:Program)(w:World)
def ObjOk(H:Hp)(h:Heap)(a:Addr):HO->Prop
 |.lst xs=>xs.length<=sizeLine/\∃(its:List Value) (n:Nat),Vals xs its/\h.get? a=some { cls:=.type "list",data:=.seq its.toArray n }
 |.tup xs=>xs.length<=sizeLine/\∃its:List Value,Vals xs its/\IsTup h a its.toArray
 |.dK kvs=>kvs.length<=sizeLine/\(a == sysModules)=false/\∃vs,KV kvs vs/\h.DictOf (bx P w) a vs
 |.dT kvs=>kvs.length<=sizeLine/\(a == sysModules)=false/\∃xs:List (List Key×Addr×Value),
   Paired (fun(p:List Key×V) (q:List Key×Addr×Value)=>p.1=q.1/\H q.2.1=some (.tup (p.1.map kV))/\RelV p.2 q.2.2) kvs xs /\
   ∃o es ep,h.get? a=some o/\o.ExactDict/\o.data=.dict es ep/\es.toList=xs.map (entryOfKey (tupleKind (bx P w)))/\(xs.map (·.1)).Nodup
 |.set S n=>h.SetOf (intKind P w) a S n
 |.ins C dx fs=>H dx=some (.own a)/\fs.length<=1000/\dx≠a/\h.get? a=some (PySem.W.instObj C dx) /\
   ∃mA,h.Ns1 dx mA/\(∀f,RelO (fs.lookup f) (mA f))/\PySem.Within mA (fs.map (·.1))
 |.own _=>∃o,h.get? a=some o
 |.xd fs=>∃mA,h.Ns1 a mA/\∀f,RelO (fs.lookup f) (mA f)
 |.rng lo hi=>∃t u v,h.get? a=some { cls:=.type "range",data:=.fields #[.int lo t,.int hi u,.int 1 v] }
 |.frz o u=>h.get? a=some o/\ObjOk H h a u
 |.tbl ps=>h.get? a=some { cls:=.none,data:=.fields ps }
 |.met f x=>h.get? a=some (PySem.W.methodObj (.ref f) (.ref x))
 |.ext φ=>φ h/\(∃o,h.get? a=some o)/\∀h1 h2:Heap,φ h1->(∀o,h1.get? a=some o->h2.get? a=some o)->φ h2
def HOk(H:Hp)(h:Heap):Prop:=∀a o,H a=some o->ObjOk P w H h a o
end
section
variable {P:Program}{w:World}{H H':Hp}{h h':Heap}{a:Addr}{o:HO}
theorem ObjOk.lt(x:ObjOk P w H h a o):a<h.objs.size:=by
 cases o with
 |lst xs=>obtain⟨_,_,_,_,e⟩:=x;exact Heap.lt_size e
 |tup xs=>obtain⟨_,_,_,p⟩:=x;exact p.lt
 |dK kvs=>obtain⟨_,_,_,_,o,_,_,e,_⟩:=x;exact Heap.lt_size e
 |dT kvs=>obtain⟨_,_,_,_,o,_,_,e,_⟩:=x;exact Heap.lt_size e
 |set S n=>obtain⟨o,_,_,_,e,_⟩:=x;exact Heap.lt_size e
 |ins C dx fs=>obtain⟨_,_,_,e,_⟩:=x;exact Heap.lt_size e
 |own y=>obtain⟨_,e⟩:=x;exact Heap.lt_size e
 |xd fs=>obtain⟨_,⟨_,_,_,e,_⟩,_⟩:=x;exact Heap.lt_size e
 |rng lo hi=>obtain⟨_,_,_,e⟩:=x;exact Heap.lt_size e
 |frz ob u=>obtain⟨e,_⟩:=x;exact Heap.lt_size e
 |tbl ps=>exact Heap.lt_size (show h.get? a=some _ from x)
 |met f y=>exact Heap.lt_size (show h.get? a=some _ from x)
 |ext φ=>obtain⟨_,⟨_,e⟩,_⟩:=x;exact Heap.lt_size e
theorem Paired.mapP{α β:Type}{F G:α->β->Prop}:∀{l₁:List α}{l₂:List β},Paired F l₁ l₂->(∀a b,F a b->G a b)->Paired G l₁ l₂
 |_,_,.nil,_=>.nil
 |_,_,.cons r t,f=>.cons (f _ _ r) (Paired.mapP t f)
theorem ObjOk.stay(x:ObjOk P w H h a o)(k:∀b u,(b=a\/H b=some (.own a))->h.get? b=some u->h'.get? b=some u)
  (ho:∀b,H b=some (.own a)->H' b=some (.own a)) (ht:∀b xs,H b=some (.tup xs)->H' b=some (.tup xs)):ObjOk P w H' h' a o:=by
 induction o with
 |lst xs=>obtain⟨z,its,n,r,e⟩:=x;exact⟨z,its,n,r,k _ _ (.inl rfl) e⟩
 |tup xs=>obtain⟨z,its,r,ob,e,c⟩:=x;exact⟨z,its,r,ob,k _ _ (.inl rfl) e,c⟩
 |dK kvs=>obtain⟨z,y,vs,r,ob,es,ep,e,c⟩:=x;exact⟨z,y,vs,r,ob,es,ep,k _ _ (.inl rfl) e,c⟩
 |dT kvs=>
  obtain⟨z,y,xs,r,ob,es,ep,e,c⟩:=x;exact⟨z,y,xs,Paired.mapP r fun p q z=>⟨z.1,ht _ _ z.2.1,z.2.2⟩,ob,es,ep,k _ _ (.inl rfl) e,c⟩
 |set S n=>obtain⟨ob,es,ep,t,e,c⟩:=x;exact⟨ob,es,ep,t,k _ _ (.inl rfl) e,c⟩
 |ins C dx fs=>
  obtain⟨d,z,ne,e,mA,⟨od,es,ep,e2,c⟩,r⟩:=x;exact⟨ho _ d,z,ne,k _ _ (.inl rfl) e,mA,⟨od,es,ep,k _ _ (.inr d) e2,c⟩,r⟩
 |own y=>obtain⟨ob,e⟩:=x;exact⟨ob,k _ _ (.inl rfl) e⟩
 |xd fs=>obtain⟨mA,⟨od,es,ep,e,c⟩,r⟩:=x;exact⟨mA,⟨od,es,ep,k _ _ (.inl rfl) e,c⟩,r⟩
 |rng lo hi=>obtain⟨t,u,v,e⟩:=x;exact⟨t,u,v,k _ _ (.inl rfl) e⟩
 |frz ob u ih=>obtain⟨e,q⟩:=x;exact⟨k _ _ (.inl rfl) e,ih q⟩
 |tbl ps=>
  have e:h.get? a=some { cls:=.none,data:=.fields ps }:=x;show h'.get? a=some { cls:=.none,data:=.fields ps };exact k a _ (.inl rfl) e
 |met f y=>
  have e:h.get? a=some (PySem.W.methodObj (.ref f) (.ref y)):=x;show h'.get? a=some (PySem.W.methodObj (.ref f) (.ref y));exact k a _ (.inl rfl) e
 |ext φ=>obtain⟨p,⟨o,e⟩,st⟩:=x;exact⟨st _ _ p fun o q=>k _ _ (.inl rfl) q,⟨o,k _ _ (.inl rfl) e⟩,st⟩
theorem HOk.lt(x:HOk P w H h)(e:H a=some o):a<h.objs.size:=(x a o e).lt
theorem HOk.fresh(x:HOk P w H h)(e:h.objs.size<=a):H a=none:=by
 cases q:H a with
 |none=>rfl
 |some u=>exact absurd (Nat.lt_of_lt_of_le (x.lt q) e) (Nat.lt_irrefl _)
theorem HOk.kept(x:HOk P w H h)(k:∀b u,h.get? b=some u->h'.get? b=some u):HOk P w H h':=fun a o e=>
 (x a o e).stay (fun b u _ q=>k b u q) (fun _ q=>q) fun _ _ q=>q
theorem HOk.laid(x:HOk P w H h)(k:∀b u,h.get? b=some u->h'.get? b=some u)(hp:h.objs.size<=a)(new:ObjOk P w (upd H a o) h' a o):HOk P w (upd H a o) h':=fun b u e=>by
 have hn:=x.fresh hp
 by_cases hb:b=a
 .subst hb;rw[bt] at e;cases e;exact new
 .rw[aT hb] at e
  exact(x b u e).stay (fun c v _ q=>k c v q) (fun c q=>by rw[aT (dv q hn)];exact q) fun c xs q=>by rw[aT (dv q hn)];exact q
end
def Rd(H:Hp)(a:Addr)(u:HO):Prop:=H a=some u\/∃o,H a=some (.frz o u)
theorem Rd.ok(r:Rd H a u)(x:HOk P w H h):ObjOk P w H h a u:=by
 rcases r with r|⟨o,r⟩
 .exact x a u r
 .obtain⟨_,q⟩:=x a _ r
  exact q
def Mut:Option HO->Prop
 |some (.lst _)=>True
 |some (.dK _)=>True
 |some (.dT _)=>True
 |some (.set _ _)=>True
 |some (.ins _ _ _)=>True
 |some (.ext _)=>True
 |_=>False
section
variable {P:Program}{w:World}{H:Hp}{h h':Heap}{x e:Addr}{o':HO}
theorem HOk.write(ok:HOk P w H h)(mu:Mut (H x))(he:e=x\/H e=some (.own x))(k:∀b u,b≠e->h.get? b=some u->h'.get? b=some u)(heo:∃u,h'.get? e=some u)
  (new:ObjOk P w (upd H x o') h' x o'):HOk P w (upd H x o') h':=fun b u q=>by
 have nown:∀c y,H c=some (.own y)->c≠x:=fun c y r z=>by subst z;rw[r] at mu;exact mu
 have ntup:∀c xs,H c=some (.tup xs)->c≠x:=fun c xs r z=>by subst z;rw[r] at mu;exact mu
 by_cases hb:b=x
 .subst hb;rw[bt] at q;cases q;exact new
 .rw[aT hb] at q
  by_cases hbe:b=e
  .have q':H b=some (.own x):=by
    rcases he with z|z
    .exact absurd (hbe.trans z) hb
    .rw[hbe];exact z
   rw[q] at q';cases q';obtain⟨v,hv⟩:=heo;exact⟨v,by rw[hbe];exact hv⟩
  .refine(ok b u q).stay (fun c v hc r=>k c v ?_ r) (fun c r=>by rw[aT (nown c b r)];exact r) fun c xs r=>by rw[aT (ntup c xs r)];exact r
   rcases hc with rfl|hc
   .exact hbe
   .rintro rfl
    rcases he with z|z
    .exact nown c b hc z
    .rw[hc] at z;cases z;exact hb rfl
end
structure Un(fs ex:List Addr)(H H':Hp)(h h':Heap):Prop where
 keep:∀b o,h.get? b=some o->H b=none->b∉fs->b∉ex->h'.get? b=some o
 slot:∀b o,h.get? b=some o->H b=none->b∈fs->b∉ex->∃sl,h'.get? b=some { o with slots:=sl }
 free:∀b o,h.get? b=some o->H b=none->b∉ex->H' b=none
 there:∀b o,h.get? b=some o->b∉ex->∃o',h'.get? b=some o'
 tups:∀b xs,H b=some (.tup xs)->H' b=some (.tup xs)
 frzs:∀b o u,H b=some (.frz o u)->H' b=some (.frz o u)
 tbls:∀b ps,H b=some (.tbl ps)->∃more,H' b=some (.tbl (ps++more))
section
variable {fs fs' ex ex':List Addr}{H H1 H2:Hp}{h h1 h2 h':Heap}{a x e:Addr}{o:HO}
theorem Un.any(u:Un fs ex H H1 h h1)(q:h.get? b=some ob)(n:H b=none)(hx:b∉ex):∃sl,h1.get? b=some { ob with slots:=sl }:=by
 by_cases hb:b∈fs
 .exact u.slot b ob q n hb hx
 .exact⟨ob.slots,u.keep b ob q n hb hx⟩
theorem Un.kept(k:∀b u,h.get? b=some u->h'.get? b=some u):Un fs ex H H h h':=⟨fun b ob q _ _ _=>k b ob q,fun b ob q _ _ _=>⟨ob.slots,k b ob q⟩,fun _ _ _ n _=>n,fun b ob q _=>⟨ob,k b ob q⟩,fun _ _ q=>q,fun _ _ _ q=>q,fun _ ps q=>⟨#[],by rw[q];simp⟩⟩
theorem Un.refl:Un fs ex H H h h:=Un.kept fun _ _ q=>q
theorem Un.laid(k:∀b u,h.get? b=some u->h'.get? b=some u)(hp:h.objs.size<=a)(hn:H a=none):Un fs ex H (upd H a o) h h' where
 keep:=fun b u q _ _ _=>k b u q
 slot:=fun b u q _ _ _=>⟨u.slots,k b u q⟩
 free:=fun b u q n _=>by rw[aT (Nat.ne_of_lt (Nat.lt_of_lt_of_le (Heap.lt_size q) hp))];exact n
 there:=fun b u q _=>⟨u,k b u q⟩
 tups:=fun b xs q=>by rw[aT (dv q hn)];exact q
 frzs:=fun b u xs q=>by rw[aT (dv q hn)];exact q
 tbls:=fun b ps q=>⟨#[],by rw[aT (dv q hn),q];simp⟩
theorem Un.write(mu:Mut (H x))(he:e=x\/H e=some (.own x))(k:∀b u,b≠e->h.get? b=some u->h'.get? b=some u)(heo:∃u,h'.get? e=some u):Un fs ex H (upd H x o) h h':=by
 have hx:∀b,H b=none->b≠x:=fun b n z=>by subst z;rw[n] at mu;exact mu
 have hb:∀b,H b=none->b≠e:=fun b n z=>by
  subst z
  rcases he with r|r
  .exact hx b n r
  .rw[n] at r;cases r
 have hm:∀b u,H b=some u->¬Mut (some u)->b≠x:=fun b u q nm z=>by subst z;rw[q] at mu;exact nm mu
 refine⟨fun b u q n _ _=>k b u (hb b n) q,fun b u q n _ _=>⟨u.slots,k b u (hb b n) q⟩,fun b u q n _=>by rw[aT (hx b n)];exact n,fun b u q _=>?_,
  fun b xs q=>by rw[aT (hm b _ q fun z=>z)];exact q,fun b u xs q=>by rw[aT (hm b _ q fun z=>z)];exact q,fun b ps q=>⟨#[],by rw[aT (hm b _ q fun z=>z),q];simp⟩⟩
 by_cases hbe:b=e
 .subst hbe;exact heo
 .exact⟨u,k b u hbe q⟩
end
def trk(h:Heap)(H:Hp):List Addr:=(List.range h.objs.size).filter fun a=>(H a).isSome
def gH(h:Heap)(H:Hp):Heap:=PySem.W.hideAll h (trk h H)
theorem BY(h:Heap)(H:Hp):(gH h H).objs.size=h.objs.size:=PySem.W.hideAll_size _ _
theorem C3(e:h.get? b=some o)(n:H b=none):(gH h H).get? b=some o:=
 PySem.W.hideAll_get _ e fun hm=>by
  have q:(H b).isSome=true:=(List.mem_filter.mp hm).2;rw[n] at q;simp at q
theorem Et(e:(gH h H).get? b=some o):h.get? b=some o/\H b=none:=by
 have e':h.get? b=some o:=PySem.W.of_hideAll (trk h H) e;refine⟨e',?_⟩
 cases q:H b with
 |none=>rfl
 |some x=>
  have hm:b∈trk h H:=List.mem_filter.mpr ⟨List.mem_range.mpr (Heap.lt_size e'),by simp[q]⟩;have z:(gH h H).get? b=none:=PySem.W.hideAll_none (trk h H) hm;rw[z] at e;cases e
def Fs(g h:Heap)(L:Addr):List (Addr×Obj):=(List.range h.objs.size).filterMap fun a=>if a=L\/(g.get? a).isSome=true then none else (h.get? a).map fun o=>(a,o)
def rest(g h:Heap)(L d:Addr):List (Addr×Obj):=(Fs g h L).filter fun p=>decide (p.1≠d)
structure Mod(K:Frag)(mg:Str->Option Value)(base:Heap):Prop where
 kin:K.In base
 glob:base.Ns mainGlobals mg
 blt:∃mb,base.Ns builtinsNs mb/\∀x:Str,x≠"__name__"->mb x=bootBuiltins x
 nolimit:base.NoLimit
structure Cx where
 prog:Program
 w:World
 K:Frag
 mg:Str->Option Value
 base:Heap
 A:Around
 N:List Str
 s₀:Shared
 H₀:Hp
 env:Env
 outer:List Env
 stack:List Env
 ex:List Addr
 fn:Str->Bool
 calm:Bool
 pn:List (Addr×Obj)
 xe:Value->Shared->Prop
def frs(l:List Env):List Addr:=l.filterMap (·.frame)
abbrev Cx.fs(X:Cx):List Addr:=frs X.outer
def Vis(sc:Scope)(x:Str):Prop:=sc.names.lookup x=some .local\/sc.names.lookup x=some .cell\/sc.names.lookup x=some .free
def Loc(sc:Scope)(x:Str):Prop:=sc.names.lookup x=some .local\/sc.names.lookup x=some .cell
def Look(env:Env)(h:Heap)(m:Str->Option Value)(x:Str)(u:Value):Prop:=(env.kindOf x=some .local/\m x=some u)\/((env.kindOf x=some .cell\/env.kindOf x=some .free)/\∃c,env.cells.lookup x=some c/\h.IsCell c (some u))
structure Cx.Ok(X:Cx):Prop where
 mod:Mod X.K X.mg X.base
 kind:X.env.scope.kind=.function
 glob:X.env.globals=mainGlobals
 blt:X.env.builtins=builtinsNs
 above:X.s₀.heap.objs.size<=X.env.locals
 inj:∀x y c,X.env.cells.lookup x=some c->X.env.cells.lookup y=some c->x=y
 has:∀x,(X.env.kindOf x=some .cell\/X.env.kindOf x=some .free)->∃c,X.env.cells.lookup x=some c
 cab:∀x c,X.fn x=true->X.env.cells.lookup x=some c->X.s₀.heap.objs.size<=c
 hd:X.calm=true->X.A.handled=none
 frames:X.A.frames=some X.stack
 stk:X.stack=X.outer\/(X.stack=X.env::X.outer/\X.env.frame=some X.env.locals)
 exf:∀b∈X.ex,b≠X.env.locals/\∀x c,X.env.cells.lookup x=some c->c≠b
 bs:∀b o,X.base.get? b=some o->X.s₀.heap.get? b=some o/\X.H₀ b=none
 bsz:X.base.objs.size<=X.s₀.heap.objs.size
 noex:∀b o,X.base.get? b=some o->b∉X.ex
 exfs:∀b∈X.ex,b∉X.fs
 funs:X.s₀.heap.FunFrames X.base X.outer
 frf:∀b∈X.fs,X.H₀ b=none
structure Inv(X:Cx)(pins:List (Addr×Obj))(σ:List (Option V))(H:Hp)(s:Shared):Prop where
 ok:X.Ok
 os:s.os=X.s₀.os
 bare:AllBare s.gens
 base:Un X.fs X.ex X.H₀ H X.s₀.heap s.heap
 loc:∃m,s.heap.Ns X.env.locals m/\∀(i:Nat) (x:Str) (v:V),X.N[i]? = some x->σ[i]? = some (some v)->Vis X.env.scope x->∃u,RelV v u/\Look X.env s.heap m x u
 cell:∀x c,X.env.cells.lookup x=some c->∃v,s.heap.IsCell c v
 free:H X.env.locals=none
 freeC:∀x c,X.env.cells.lookup x=some c->H c=none
 pin:∀p∈X.pn++pins,s.heap.get? p.1=some p.2/\H p.1=none/\p.1≠X.env.locals/\p.1∉X.fs/\∀v,p.2.data≠.cell v
 hok:HOk X.prog X.w H s.heap
 len:σ.length=X.N.length
section
variable {X:Cx}{pins:List (Addr×Obj)}{σ:List (Option V)}{H H':Hp}{s:Shared}{h':Heap}
theorem Cx.Ok.nofr(ok:X.Ok)(e:X.base.get? b=some o):b∉X.fs:=fun hb=>by
 have:=(ok.funs.mem hb).1;rw[e] at this;cases this
theorem Inv.bs(I:Inv X pins σ H s):∀b o,X.base.get? b=some o->s.heap.get? b=some o/\H b=none:=fun b o e=>
 ⟨I.base.keep b o (I.ok.bs b o e).1 (I.ok.bs b o e).2 (I.ok.nofr e) (I.ok.noex b o e),I.base.free b o (I.ok.bs b o e).1 (I.ok.bs b o e).2 (I.ok.noex b o e)⟩
theorem Inv.bk(I:Inv X pins σ H s):∀b o,X.base.get? b=some o->s.heap.get? b=some o:=fun b o e=>(I.bs b o e).1
theorem Inv.mod(I:Inv X pins σ H s):Mod X.K X.mg X.base:=I.ok.mod
theorem Inv.kIn(I:Inv X pins σ H s):X.K.In s.heap:=I.ok.mod.kin.keeps I.bk
theorem Inv.lt(I:Inv X pins σ H s):X.env.locals<s.heap.objs.size:=let ⟨_,hn,_⟩:=I.loc;hn.lt
theorem Inv.sz(I:Inv X pins σ H s):X.s₀.heap.objs.size<=s.heap.objs.size:=Nat.le_trans I.ok.above (Nat.le_of_lt I.lt)
theorem Inv.nofs(I:Inv X pins σ H s)(h:s.heap.objs.size<=a):a∉X.fs:=fun hb=>by
 obtain⟨_,o,ho,_⟩:=I.ok.funs.mem hb;exact absurd (Nat.lt_of_lt_of_le (Heap.lt_size ho) (Nat.le_trans I.sz h)) (Nat.lt_irrefl _)
theorem Inv.cne(I:Inv X pins σ H s):∀x c,X.env.cells.lookup x=some c->c≠X.env.locals:=fun x c e z=>by
 obtain⟨v,o,ho,hd⟩:=I.cell x c e;obtain⟨m,⟨o',es,ep,ho',hd',_⟩,_⟩:=I.loc;rw[z,ho'] at ho;cases ho;rw[hd'] at hd;cases hd
theorem Inv.funs(I:Inv X pins σ H s):s.heap.FunFrames X.base X.outer:=by
 have all:∀(l:List Env),(∀b∈frs l,b∈X.fs)->X.s₀.heap.FunFrames X.base l->s.heap.FunFrames X.base l:=by
  intro l
  induction l with
  |nil=>intro _ _;trivial
  |cons env r ih=>
   intro hs hl;obtain⟨hk,⟨L,o,hf,hn,ho,hd⟩,hr⟩:=hl;have hL:L∈X.fs:=hs L (by unfold frs;rw[List.filterMap_cons,hf];exact List.mem_cons_self);obtain⟨sl,e⟩:=I.base.slot L o ho (I.ok.frf L hL) hL fun z=>I.ok.exfs L z hL;exact⟨hk,⟨L,_,hf,hn,e,hd⟩,ih (fun b hb=>hs b (by unfold frs;rw[List.filterMap_cons,hf];exact List.mem_cons_of_mem _ hb)) hr⟩
 exact all X.outer (fun _ hb=>hb) I.ok.funs
theorem Inv.stack(I:Inv X pins σ H s):s.heap.FunFrames X.base X.stack:=by
 rcases I.ok.stk with e|⟨e,hf⟩
 .rw[e];exact I.funs
 .rw[e]
  obtain⟨m,hn,_⟩:=I.loc;refine .cons (by rw[I.ok.kind];decide) hf hn ?_ I.funs;exact Heap.get?_none_of_le (Nat.le_trans I.ok.bsz I.ok.above)
theorem Inv.stkSub(I:Inv X pins σ H s):∀b∈frs X.stack,b∈X.env.locals::X.fs:=fun b hb=>by
 rcases I.ok.stk with e|⟨e,hf⟩
 .rw[e] at hb;exact List.mem_cons_of_mem _ hb
 .rw[e] at hb
  unfold frs at hb;rw[List.filterMap_cons,hf] at hb;exact hb
theorem Inv.stkFree(I:Inv X pins σ H s):∀b∈frs X.stack,H b=none:=fun b hb=>by
 rcases List.mem_cons.mp (I.stkSub b hb) with e|hb
 .rw[e];exact I.free
 .obtain⟨_,o,ho,_⟩:=I.ok.funs.mem hb
  exact I.base.free b o ho (I.ok.frf b hb) fun z=>I.ok.exfs b z hb
theorem Inv.step{g':Array GenState}{t':Nat}{d':Drawn}{ch:List Addr}(I:Inv X pins σ H s)
  (hch:∀b∈ch,(b∈X.ex\/X.s₀.heap.objs.size<=b)/\b≠X.env.locals/\(∀x c,X.env.cells.lookup x=some c->c≠b)/\∀p∈X.pn++pins,p.1≠b)
  (keep:∀b o,b≠X.env.locals->b∉X.fs->b∉ch->s.heap.get? b=some o->H b=none->h'.get? b=some o)
  (slot:∀b o,b≠X.env.locals->b∈X.fs->b∉ch->s.heap.get? b=some o->H b=none->∃sl,h'.get? b=some { o with slots:=sl }) (free:∀b o,b∉ch->s.heap.get? b=some o->H b=none->H' b=none)
  (there:∀b o,b∉ch->s.heap.get? b=some o->∃o',h'.get? b=some o')
  (tups:∀b xs,H b=some (.tup xs)->H' b=some (.tup xs)) (frzs:∀b o u,H b=some (.frz o u)->H' b=some (.frz o u)) (tbls:∀b ps,H b=some (.tbl ps)->∃more,H' b=some (.tbl (ps++more)))
  (ns:∀m,s.heap.Ns X.env.locals m->h'.Ns X.env.locals m) (hok:HOk X.prog X.w H' h') (hg:AllBare g') :
  Inv X pins σ H' { s with heap:=h',gens:=g',drawn:=d',toks:=t' }:=by
 have neL:∀b o,X.s₀.heap.get? b=some o->b≠X.env.locals:=fun b o e=>Nat.ne_of_lt (Nat.lt_of_lt_of_le (Heap.lt_size e) I.ok.above)
 have neC:∀b o,X.s₀.heap.get? b=some o->b∉X.ex->b∉ch:=fun b o e hx hb=>by
  rcases(hch b hb).1 with z|z
  .exact hx z
  .exact absurd (Nat.lt_of_lt_of_le (Heap.lt_size e) z) (Nat.lt_irrefl _)
 have cellK:∀x c,X.env.cells.lookup x=some c->∀v,s.heap.IsCell c v->h'.IsCell c v:=fun x c e v ⟨o,ho,hd⟩=>by
  have nch:c∉ch:=fun z=>(hch c z).2.2.1 x c e rfl
  by_cases hc:c∈X.fs
  .obtain⟨sl,q⟩:=slot c o (I.cne x c e) hc nch ho (I.freeC x c e)
   exact⟨_,q,hd⟩
  .exact⟨o,keep c o (I.cne x c e) hc nch ho (I.freeC x c e),hd⟩
 refine⟨I.ok,I.os,hg,⟨fun b o e n hb hx=>?_,fun b o e n hb hx=>?_,fun b o e n hx=>?_,fun b o e hx=>?_,fun b xs e=>tups b xs (I.base.tups b xs e),fun b o xs e=>frzs b o xs (I.base.frzs b o xs e),fun b ps e=>?_⟩,?_,fun x c e=>?_,?_,fun x c e=>?_,fun p hp=>?_,hok,I.len⟩
 .exact keep b o (neL b o e) hb (neC b o e hx) (I.base.keep b o e n hb hx) (I.base.free b o e n hx)
 .obtain⟨sl,e1⟩:=I.base.slot b o e n hb hx
  obtain⟨sl',e2⟩:=slot b _ (neL b o e) hb (neC b o e hx) e1 (I.base.free b o e n hx);exact⟨sl',e2⟩
 .obtain⟨o',e1⟩:=I.base.there b o e hx
  exact free b o' (neC b o e hx) e1 (I.base.free b o e n hx)
 .obtain⟨o',e1⟩:=I.base.there b o e hx
  exact there b o' (neC b o e hx) e1
 .obtain⟨m1,e1⟩:=I.base.tbls b ps e
  obtain⟨m2,e2⟩:=tbls b _ e1;exact⟨m1++m2,by rw[e2,Array.append_assoc]⟩
 .obtain⟨m,hn,hl⟩:=I.loc
  refine⟨m,ns m hn,fun i x v e1 e2 e3=>?_⟩;obtain⟨u,r,l⟩:=hl i x v e1 e2 e3;refine⟨u,r,?_⟩
  rcases l with l|⟨k,c,e,z⟩
  .exact .inl l
  .exact .inr ⟨k,c,e,cellK x c e _ z⟩
 .obtain⟨v,z⟩:=I.cell x c e
  exact⟨v,cellK x c e v z⟩
 .obtain⟨m,⟨o,_,_,ho,_⟩,_⟩:=I.loc
  exact free _ o (fun z=>(hch _ z).2.1 rfl) ho I.free
 .obtain⟨v,o,ho,hd⟩:=I.cell x c e
  exact free c o (fun z=>(hch c z).2.2.1 x c e rfl) ho (I.freeC x c e)
 .obtain⟨e,n,ne,nf,d⟩:=I.pin p hp
  have nch:p.1∉ch:=fun z=>(hch p.1 z).2.2.2 p hp rfl;exact⟨keep p.1 p.2 ne nf nch e n,free p.1 p.2 nch e n,ne,nf,d⟩
theorem Inv.un(I:Inv X pins σ H s)(u:Un X.fs [] H H' s.heap h')(hok:HOk X.prog X.w H' h'):Inv X pins σ H' { s with heap:=h',toks:=t' }:=by
 obtain⟨m,⟨o,es,ep,ho,r⟩,_⟩:=id I.loc;obtain⟨sl,hL⟩:=u.any ho I.free (by simp)
 exact I.step (g':=s.gens) (d':=s.drawn) (ch:=[]) (fun _ z=>nomatch z) (fun b o _ hb _ e n=>u.keep b o e n hb (by simp)) (fun b o _ hb _ e n=>u.slot b o e n hb (by simp)) (fun b o _ e n=>u.free b o e n (by simp)) (fun b o _ e=>u.there b o e (by simp)) u.tups u.frzs u.tbls (fun m' hm=>by
  obtain⟨o',es',ep',ho',r'⟩:=hm;rw[ho] at ho';cases ho'
  exact⟨_,es',ep',hL,r'⟩) hok I.bare
theorem Inv.call(I:Inv X pins σ H s)(u:Un (frs X.stack) ch H H' s.heap h')(hok:HOk X.prog X.w H' h')(hg:AllBare g')
  (hch:∀b∈ch,(b∈X.ex\/X.s₀.heap.objs.size<=b)/\b≠X.env.locals/\(∀x c,X.env.cells.lookup x=some c->c≠b)/\∀p∈X.pn++pins,p.1≠b) :
  Inv X pins σ H' { s with heap:=h',gens:=g',drawn:=d',toks:=t' }:=by
 obtain⟨m,⟨o,es,ep,ho,r⟩,_⟩:=id I.loc;obtain⟨sl,hL⟩:=u.any ho I.free fun z=>(hch _ z).2.1 rfl
 exact I.step (ch:=ch) hch (fun b o hL hb hc e n=>u.keep b o e n (fun z=>(List.mem_cons.mp (I.stkSub b z)).elim hL hb) hc) (fun b o _ _ hc e n=>u.any e n hc) (fun b o hc e n=>u.free b o e n hc) (fun b o hc e=>u.there b o e hc) u.tups u.frzs u.tbls (fun m' hm=>by
  obtain⟨o',es',ep',ho',r'⟩:=hm;rw[ho] at ho';cases ho'
  exact⟨_,es',ep',hL,r'⟩) hok hg
theorem Inv.turned(I:Inv X pins σ H s)(k:∀b o,b≠it->s.heap.get? b=some o->h'.get? b=some o)(hn:H it=none)(hL:it≠X.env.locals)
  (h1:it∈X.ex\/X.s₀.heap.objs.size<=it) (h2:∀x c,X.env.cells.lookup x=some c->c≠it) (h3:∀p∈X.pn++pins,p.1≠it):Inv X pins σ H { s with heap:=h',toks:=t' }:=by
 have nit:∀b u,H b=some u->b≠it:=fun b u e z=>by rw[z,hn] at e;cases e
 refine I.step (g':=s.gens) (d':=s.drawn) (ch:=[it]) (fun b hb=>?_) (fun b o _ _ hc e _=>k b o (fun z=>hc (by simp[z])) e) (fun b o _ _ hc e _=>⟨o.slots,k b o (fun z=>hc (by simp[z])) e⟩) (fun _ _ _ _ n=>n)
  (fun b o hc e=>⟨o,k b o (fun z=>hc (by simp[z])) e⟩) (fun _ _ e=>e) (fun _ _ _ e=>e) (fun b ps e=>⟨#[],by rw[e];simp⟩) (fun m hm=>?_) (fun b u e=>?_) I.bare
 .have e:b=it:=by simpa using hb
  subst e;exact⟨h1,hL,h2,h3⟩
 .obtain⟨o,es,ep,ho,r⟩:=hm
  exact⟨o,es,ep,k _ o (Ne.symm hL) ho,r⟩
 .refine(I.hok b u e).stay (fun c v hc q=>k c v ?_ q) (fun _ q=>q) fun _ _ q=>q
  rcases hc with z|z
  .rw[z];exact nit b u e
  .exact nit c _ z
theorem Inv.tok(I:Inv X pins σ H s)(t:Nat):Inv X pins σ H { s with toks:=t }:=I.un (h':=s.heap) (t':=t) Un.refl I.hok
theorem Inv.kept(I:Inv X pins σ H s)(k:∀b u,s.heap.get? b=some u->h'.get? b=some u):Inv X pins σ H { s with heap:=h',toks:=t' }:=I.un (Un.kept k) (I.hok.kept k)
theorem Inv.laid(I:Inv X pins σ H s)(k:∀b u,s.heap.get? b=some u->h'.get? b=some u)(hp:s.heap.objs.size<=a)(new:ObjOk X.prog X.w (upd H a o) h' a o) :
  Inv X pins σ (upd H a o) { s with heap:=h',toks:=t' }:=I.un (Un.laid k hp (I.hok.fresh hp)) (I.hok.laid k hp new)
theorem Inv.write(I:Inv X pins σ H s)(mu:Mut (H x))(he:e=x\/H e=some (.own x))(k:∀b u,b≠e->s.heap.get? b=some u->h'.get? b=some u)(heo:∃u,h'.get? e=some u)
  (new:ObjOk X.prog X.w (upd H x o) h' x o):Inv X pins σ (upd H x o) { s with heap:=h',toks:=t' }:=I.un (Un.write mu he k heo) (I.hok.write mu he k heo new)
theorem Inv.pins_of(I:Inv X pins σ H s)(h:∀p∈pins',s.heap.get? p.1=some p.2/\H p.1=none/\p.1≠X.env.locals/\p.1∉X.fs/\∀v,p.2.data≠.cell v):Inv X pins' σ H s:=⟨I.ok,I.os,I.bare,I.base,I.loc,I.cell,I.free,I.freeC,fun p hp=>(List.mem_append.mp hp).elim (fun z=>I.pin p (List.mem_append_left _ z)) (h p),I.hok,I.len⟩
theorem qd{N:List Str}(hN:N.Nodup){i j:Nat}{x:Str}(a:N[i]? = some x)(b:N[j]? = some x):i=j:=by
 obtain⟨h1,e1⟩:=List.getElem?_eq_some_iff.mp a;obtain⟨h2,e2⟩:=List.getElem?_eq_some_iff.mp b;exact(List.getElem_inj hN).mp (e1.trans e2.symm)
theorem uh(I:Inv X pins σ H s)(hN:X.N.Nodup)(hi:X.N[i]? = some x)(hx:Loc X.env.scope x)(r:RelV v u)
  (h:∀s',Inv X pins (σ.set i (some v)) H s'->(∃a,Heap.SameBut a s.heap s'.heap/\(a=X.env.locals\/X.env.cells.lookup x=some a))->Q () s') (hf:X.fn x=true\/X.env.scope.names.lookup x=some .local:=by first|exact .inl rfl|exact .inr rfl|assumption):wpAny M A (storeName X.env x u) Q E s:=by
 obtain⟨m,hn,hl⟩:=id I.loc
 have hcls:(X.env.scope.kind == .class||(X.env.scope.kind == .module&&X.env.locals != X.env.globals))=false:=by rw[I.ok.kind];rfl
 have hiσ:i<σ.length:=by rw[I.len];exact(List.getElem?_eq_some_iff.mp hi).1
 have cne:=I.cne
 have tracked:∀{a:Addr}{h':Heap},(∃o,s.heap.get? a=some o/\H a=none)->Heap.SameBut a s.heap h'->HOk X.prog X.w H h':=fun {a h'} ha hs b ob e=>by
  obtain⟨_,_,hfree⟩:=ha;refine(I.hok b ob e).stay (fun c w' hc q=>(hs.2 c ?_).trans q) (fun _ q=>q) fun _ _ q=>q;rintro rfl
  rcases hc with rfl|hc
  .rw[hfree] at e;cases e
  .rw[hfree] at hc;cases hc
 rcases hx with hk|hk
 .refine wpAny_storeName_local hk hn (fun h' hn' hs=>?_) hcls
  obtain⟨oL,_,_,hoL,_⟩:=id hn;refine h _ ⟨I.ok,I.os,I.bare,⟨fun b o e n hb hx=>?_,fun b o e n hb hx=>?_,I.base.free,fun b o e hx=>?_,I.base.tups,I.base.frzs,I.base.tbls⟩,⟨_,hn',fun j y v' e1 e2 e3=>?_⟩,fun y c e=>?_,I.free,I.freeC,fun p hp=>?_,tracked ⟨oL,hoL,I.free⟩ hs,by simpa using I.len⟩ ⟨_,hs,.inl rfl⟩
  .exact(hs.2 b (Nat.ne_of_lt (Nat.lt_of_lt_of_le (Heap.lt_size e) I.ok.above))).trans (I.base.keep b o e n hb hx)
  .obtain⟨sl,e1⟩:=I.base.slot b o e n hb hx
   exact⟨sl,(hs.2 b (Nat.ne_of_lt (Nat.lt_of_lt_of_le (Heap.lt_size e) I.ok.above))).trans e1⟩
  .obtain⟨o',e1⟩:=I.base.there b o e hx
   exact⟨o',(hs.2 b (Nat.ne_of_lt (Nat.lt_of_lt_of_le (Heap.lt_size e) I.ok.above))).trans e1⟩
  .by_cases hj:j=i
   .subst hj
    rw[hi] at e1;cases e1;rw[List.getElem?_set_self hiσ] at e2;cases e2;exact⟨u,r,.inl ⟨hk,by simp⟩⟩
   .rw[List.getElem?_set_ne (Ne.symm hj)] at e2
    obtain⟨u',r',q⟩:=hl j y v' e1 e2 e3;refine⟨u',r',?_⟩
    rcases q with⟨k,e⟩|⟨k,c,e,z⟩
    .refine .inl ⟨k,?_⟩
     have:y≠x:=fun e=>hj (qd hN e1 (e ▸ hi));simp[this,e]
    .exact .inr ⟨k,c,e,z.sameBut hs (cne y c e)⟩
  .obtain⟨w',z⟩:=I.cell y c e
   exact⟨w',z.sameBut hs (cne y c e)⟩
  .obtain⟨e,n,ne,nf,d⟩:=I.pin p hp
   exact⟨(hs.2 p.1 ne).trans e,n,ne,nf,d⟩
 .have hfn:X.fn x=true:=by
   rcases hf with z|z
   .exact z
   .rw[z] at hk;cases hk
  obtain⟨c,hc⟩:=I.ok.has x (.inl hk);obtain⟨w',z⟩:=I.cell x c hc;refine wpAny_storeName_cell I.ok.kind hk hc z (fun h' hc' hs=>?_);obtain⟨oc,hoc,hocd⟩:=id z;refine h { s with heap:=h' } ⟨I.ok,I.os,I.bare,⟨fun b o e n hb hx=>?_,fun b o e n hb hx=>?_,I.base.free,fun b o e hx=>?_,I.base.tups,I.base.frzs,I.base.tbls⟩,⟨m,hn.sameBut hs (Ne.symm (cne x c hc)),fun j y v' e1 e2 e3=>?_⟩,fun y c' e=>?_,I.free,I.freeC,fun p hp=>?_,tracked ⟨oc,hoc,I.freeC x c hc⟩ hs,by simpa using I.len⟩ ⟨c,hs,.inr hc⟩
  .exact(hs.2 b (Nat.ne_of_lt (Nat.lt_of_lt_of_le (Heap.lt_size e) (I.ok.cab x c hfn hc)))).trans (I.base.keep b o e n hb hx)
  .obtain⟨sl,e1⟩:=I.base.slot b o e n hb hx
   exact⟨sl,(hs.2 b (Nat.ne_of_lt (Nat.lt_of_lt_of_le (Heap.lt_size e) (I.ok.cab x c hfn hc)))).trans e1⟩
  .obtain⟨o',e1⟩:=I.base.there b o e hx
   exact⟨o',(hs.2 b (Nat.ne_of_lt (Nat.lt_of_lt_of_le (Heap.lt_size e) (I.ok.cab x c hfn hc)))).trans e1⟩
  .by_cases hj:j=i
   .subst hj
    rw[hi] at e1;cases e1;rw[List.getElem?_set_self hiσ] at e2;cases e2;exact⟨u,r,.inr ⟨.inl hk,c,hc,hc'⟩⟩
   .rw[List.getElem?_set_ne (Ne.symm hj)] at e2
    obtain⟨u',r',q⟩:=hl j y v' e1 e2 e3;refine⟨u',r',?_⟩
    rcases q with q|⟨k,c',e,z'⟩
    .exact .inl q
    .refine .inr ⟨k,c',e,z'.sameBut hs ?_⟩
     rintro rfl;exact hj (qd hN e1 (I.ok.inj _ _ _ e hc ▸ hi))
  .by_cases hcc:c'=c
   .subst hcc;exact⟨_,hc'⟩
   .obtain⟨w2,z2⟩:=I.cell y c' e
    exact⟨w2,z2.sameBut hs hcc⟩
  .obtain⟨e,n,ne,nf,d⟩:=I.pin p hp
   refine⟨(hs.2 p.1 ?_).trans e,n,ne,nf,d⟩;intro q;rw[q,hoc] at e;have q':oc=p.2:=Option.some.inj e;exact d w' (by rw[←q'];exact hocd)
theorem p0(I:Inv X pins σ H s)(hN:X.N.Nodup)(hi:X.N[i]? = some x)(hx:Loc X.env.scope x)(r:RelV v u)
  (h:∀s',Inv X pins (σ.set i (some v)) H s'->Q () s') (hf:X.fn x=true\/X.env.scope.names.lookup x=some .local:=by first|exact .inl rfl|exact .inr rfl|assumption):wpAny M A (storeName X.env x u) Q E s:=uh I hN hi hx r (fun s' I' _=>h s' I') hf
theorem Inv.call'(I:Inv X pins σ H s)(ho:s'.os=s.os)(u:Un (frs X.stack) ch H H' s.heap s'.heap)(hok:HOk X.prog X.w H' s'.heap)(hg:AllBare s'.gens)
  (hch:∀b∈ch,(b∈X.ex\/X.s₀.heap.objs.size<=b)/\b≠X.env.locals/\(∀x c,X.env.cells.lookup x=some c->c≠b)/\∀p∈X.pn++pins,p.1≠b):Inv X pins σ H' s':=by
 obtain⟨h',g',d',t',o'⟩:=s';have e:o'=s.os:=ho;subst e;exact I.call (g':=g') (t':=t') (d':=d') u hok hg hch
end
abbrev XK:=Value->Option Addr->Hp->Prop
abbrev St:=List (Option V)
abbrev VK:=V->Hp->Prop
abbrev TE:=St->Hp->VK->Prop
abbrev TT:=St->Hp->(Bool->Hp->Prop)->Prop
abbrev TA:=St->Hp->(List V->Hp->Prop)->Prop
structure Ends where
 nx:St->Hp->Prop
 rt:VK
 bk:St->Hp->Prop:=fun _ _=>False
 ct:St->Hp->Prop:=fun _ _=>False
abbrev TS:=Ends->St->Hp->Prop
def EP(X:Cx)(pins:List (Addr×Obj))(σ:St)(Q:VK)(u:Value)(s':Shared):Prop:=∃v H',Inv X pins σ H' s'/\RelV v u/\Q v H'
def TP(X:Cx)(pins:List (Addr×Obj))(σ:St)(Q:Bool->Hp->Prop)(b:Bool)(s':Shared):Prop:=∃H',Inv X pins σ H' s'/\Q b H'
def AP(X:Cx)(pins:List (Addr×Obj))(σ:St)(Q:List V->Hp->Prop)(us:List Value)(s':Shared):Prop:=∃vs H',Inv X pins σ H' s'/\Vals vs us/\Q vs H'
def SP(X:Cx)(pins:List (Addr×Obj))(D:Ends)(f:Flow)(s':Shared):Prop:=
 match f with
 |.next=>∃σ' H',Inv X pins σ' H' s'/\D.nx σ' H'
 |.brk=>∃σ' H',Inv X pins σ' H' s'/\D.bk σ' H'
 |.cont=>∃σ' H',Inv X pins σ' H' s'/\D.ct σ' H'
 |.ret u=>∃v σ' H',Inv X pins σ' H' s'/\RelV v u/\D.rt v H'
def PE(X:Cx)(e:Expr)(t:TE):Prop:=∀(pins:List (Addr×Obj)) (s:Shared) (σ:St) (H:Hp) (Q:VK),Inv X pins σ H s->t σ H Q->wpAny (model X.prog X.w) X.A (eval e X.env) (EP X pins σ Q) X.xe s
def PT(X:Cx)(e:Expr)(t:TT):Prop:=∀(pins:List (Addr×Obj)) (s:Shared) (σ:St) (H:Hp) (Q:Bool->Hp->Prop),Inv X pins σ H s->t σ H Q->wpAny (model X.prog X.w) X.A (isTrue e X.env (eval e X.env)) (TP X pins σ Q) X.xe s
def PW(X:Cx)(e:Expr)(t:TT):Prop:=∀(whole:Sem Value) (pins:List (Addr×Obj)) (s:Shared) (σ:St) (H:Hp) (Q:Bool->Hp->Prop),Inv X pins σ H s->t σ H Q->wpAny (model X.prog X.w) X.A (isTrue e X.env whole) (TP X pins σ Q) X.xe s
theorem PW.pt(h:PW X e t):PT X e t:=h _
def PA(X:Cx)(es:List Expr)(t:TA):Prop:=∀(pos:Pos) (pins:List (Addr×Obj)) (s:Shared) (σ:St) (H:Hp) (Q:List V->Hp->Prop),Inv X pins σ H s->t σ H Q->wpAny (model X.prog X.w) X.A (spliced (backTo pos (starEach es X.env))) (AP X pins σ Q) X.xe s
def PS(X:Cx)(st:Stmt)(t:TS):Prop:=∀(pins:List (Addr×Obj)) (s:Shared) (σ:St) (H:Hp) (D:Ends),Inv X pins σ H s->t D σ H->wpAny (model X.prog X.w) X.A (exec st X.env) (SP X pins D) X.xe s
def PSs(X:Cx)(st:List Stmt)(t:TS):Prop:=∀(pins:List (Addr×Obj)) (s:Shared) (σ:St) (H:Hp) (D:Ends),Inv X pins σ H s->t D σ H->wpAny (model X.prog X.w) X.A (execs st X.env) (SP X pins D) X.xe s
theorem thn{α:Type}{t:Sem α}{Q Q':α->Shared->Prop}{M:Model}{A:Around}{E:Value->Shared->Prop}{s:Shared}(h:wpAny M A t Q E s)(hQ:∀a s,Q a s->Q' a s):wpAny M A t Q' E s:=wpAny_mono h hQ fun _ _ x=>x
section
variable {X:Cx}
def zo(i:Nat):TE:=fun σ H Q=>∃v,σ[i]? = some (some v)/\Q v H
def tC(v:V):TE:=fun _ H Q=>Q v H
theorem Gj(hN:X.N[i]? = some x)(hv:Vis X.env.scope x)(hd:(x == ("__debug__" : Str))=false:=by decide)(hcd:(x == ("__classdict__" : Str))=false:=by decide):PE X (.Name x pos) (zo i):=by
 intro pins s σ H Q I h;obtain⟨v,e,h⟩:=h;obtain⟨m,hn,hl⟩:=I.loc;obtain⟨u,r,l⟩:=hl i x v hN e hv;have fin:EP X pins σ Q u s:=⟨v,H,I,r,h⟩
 rcases l with⟨hk,hm⟩|⟨hk,c,hc,hcell⟩
 .exact wpAny_Name (wpAny_loadName_local I.ok.kind hk hn hm fin) hd
 .rcases hk with hk|hk
  .exact wpAny_Name (wpAny_loadName_cell I.ok.kind hk hc hcell fin) hd
  .exact wpAny_Name (wpAny_loadName_free I.ok.kind hk hc hcell fin hcd) hd
theorem Gq{i j pos}:PE X (.Constant (.int i) j pos) (tC (.int i)):=fun _ _ _ H _ I h=>wpAny_Constant_int ⟨.int i,H,I.tok _,⟨_,rfl⟩,h⟩
theorem Ib{b j pos}:PE X (.Constant (.bool b) j pos) (tC (.bl b)):=fun _ _ _ H _ I h=>Constant_bool ⟨.bl b,H,I,rfl,h⟩
theorem Gp{j pos}:PE X (.Constant .none j pos) (tC .non):=fun _ _ _ H _ I h=>Constant_none ⟨.non,H,I,rfl,h⟩
theorem xF{x j pos}:PE X (.Constant (.str x) j pos) (tC (.str x)):=fun _ _ _ H _ I h=>Calls.Constant_str ⟨.str x,H,I.tok _,⟨_,rfl⟩,h⟩
def Gl(X:Cx)(x:Str):Prop:=X.env.kindOf x=some .globalImplicit
theorem kQ(I:Inv X pins σ H s)(hg:Gl X x)(hm:X.mg x=some u)(h:Q u s)
  (hd:(x == ("__debug__" : Str))=false:=by decide):wpAny (model X.prog X.w) X.A (eval (.Name x pos) X.env) Q E s:=Calls.Name_function_global I.ok.kind hg (Calls.loadGlobal_global (by rw[I.ok.glob];exact I.mod.glob.keeps I.bk) hm h) hd
theorem jC(I:Inv X pins σ H s)(hg:Gl X x)(hm:X.mg x=none)(hv:bootBuiltins x=some u)(h:Q u s)
  (hn:x≠"__name__":=by decide) (hd:(x == ("__debug__" : Str))=false:=by decide):wpAny (model X.prog X.w) X.A (eval (.Name x pos) X.env) Q E s:=by
 obtain⟨mb,h1,h2⟩:=I.mod.blt;exact Calls.Name_function_global I.ok.kind hg (Calls.loadGlobal_builtin (by rw[I.ok.glob];exact I.mod.glob.keeps I.bk) hm (by rw[I.ok.blt];exact h1.keeps I.bk) ((h2 x hn).trans hv) h) hd
theorem qE(hg:Gl X x)(hm:X.mg x=some u)(r:RelV v u)(hd:(x == ("__debug__" : Str))=false:=by decide):PE X (.Name x pos) (tC v):=fun _ _ _ H _ I h=>kQ I hg hm ⟨v,H,I,r,h⟩ hd
theorem Eo(hg:Gl X x)(hm:X.mg x=none)(hv:bootBuiltins x=some u)(r:RelV v u)(hn:x≠"__name__":=by decide)(hd:(x == ("__debug__" : Str))=false:=by decide):PE X (.Name x pos) (tC v):=fun _ _ _ H _ I h=>jC I hg hm hv ⟨v,H,I,r,h⟩ hn hd
variable {a b:Expr}{ta tb:TE}{pos:Pos}
variable {tA tB':TT}{rest:List Expr}
def Jr(t u:TT):TT:=fun σ H Q=>t σ H fun c H1=>if c=true then u σ H1 Q else Q false H1
def tOr(t u:TT):TT:=fun σ H Q=>t σ H fun c H1=>if c=true then Q true H1 else u σ H1 Q
def Jn(t:TT):TT:=fun σ H Q=>t σ H fun c H1=>Q (!c) H1
theorem D7(ha:PT X a tA):PW X (.BoolOp .And [a] pos) tA:=by
 intro wh pins s σ H Q I h;refine isTrue_and (thn (ha pins s σ H Q I h) fun c s1 e=>?_)
 cases c with
 |true=>exact isTrue_and_nil e
 |false=>exact e
theorem Gd(ha:PT X a tA):PW X (.BoolOp .Or [a] pos) tA:=by
 intro wh pins s σ H Q I h;refine isTrue_or (thn (ha pins s σ H Q I h) fun c s1 e=>?_)
 cases c with
 |false=>exact isTrue_or_nil e
 |true=>exact e
theorem Ge(ha:PT X a tA)(hb:PW X (.BoolOp .And (b::rest) pos) tB'):PW X (.BoolOp .And (a::b::rest) pos) (Jr tA tB'):=by
 intro wh pins s σ H Q I h;refine isTrue_and (thn (ha pins s σ H _ I h) fun c s1 ⟨H1,I1,q1⟩=>?_)
 cases c with
 |true=>exact hb wh pins s1 σ H1 Q I1 q1
 |false=>exact⟨H1,I1,q1⟩
theorem HW(ha:PT X a tA)(hb:PW X (.BoolOp .Or (b::rest) pos) tB'):PW X (.BoolOp .Or (a::b::rest) pos) (tOr tA tB'):=by
 intro wh pins s σ H Q I h;refine isTrue_or (thn (ha pins s σ H _ I h) fun c s1 ⟨H1,I1,q1⟩=>?_)
 cases c with
 |true=>exact⟨H1,I1,q1⟩
 |false=>exact hb wh pins s1 σ H1 Q I1 q1
theorem Gf(ha:PT X a tA):PT X (.UnaryOp .Not a pos) (Jn tA):=by
 intro pins s σ H Q I h;exact isTrue_not (ha pins s σ H (fun c H1=>Q (!c) H1) I h)
def HN(ta tb:TE):TE:=fun σ H Q=>ta σ H fun x H1=>∃c,x=.bl c/\if c=true then tb σ H1 Q else Q (.bl false) H1
def HJ(ta:TE):TE:=fun σ H Q=>ta σ H fun x H1=>∃c,x=.bl c/\Q (.bl (!c)) H1
theorem Gm{op}(h:PE X a t):PE X (.BoolOp op [a] pos) t:=fun pins s σ H Q I hw=>BoolOp_one (h pins s σ H Q I hw)
theorem Gr(ha:PE X a ta)(hb:PE X (.BoolOp .And (b::rest) pos) tb):PE X (.BoolOp .And (a::b::rest) pos) (HN ta tb):=by
 intro pins s σ H Q I h;refine BoolOp_and (thn (ha pins s σ H _ I h) fun v s1 ⟨x,H1,I1,r1,q1⟩=>?_);obtain⟨c,rfl,q1⟩:=q1;cases r1;refine wpAny_truthy_bool ?_
 cases c with
 |true=>exact hb pins s1 σ H1 Q I1 q1
 |false=>exact⟨.bl false,H1,I1,rfl,q1⟩
theorem Gn(ha:PE X a ta):PE X (.UnaryOp .Not a pos) (HJ ta):=by
 intro pins s σ H Q I h;refine UnaryOp_ (thn (ha pins s σ H _ I h) fun v s1 ⟨x,H1,I1,r1,q1⟩=>?_);obtain⟨c,rfl,q1⟩:=q1;cases r1;exact not_of (wpAny_truthy_bool ⟨.bl (!c),H1,I1,rfl,q1⟩)
def tIf(t:TT)(ta tb:TE):TE:=fun σ H Q=>t σ H fun c H1=>if c=true then ta σ H1 Q else tb σ H1 Q
theorem CH(hc:PT X c tA)(ha:PE X a ta)(hb:PE X b tb):PE X (.IfExp c a b pos) (tIf tA ta tb):=by
 intro pins s σ H Q I h;refine wpAny_IfExp (thn (hc pins s σ H _ I h) fun d s1 ⟨H1,I1,q1⟩=>?_)
 cases d with
 |true=>exact ha pins s1 σ H1 Q I1 q1
 |false=>exact hb pins s1 σ H1 Q I1 q1
end
def SqL(K:Frag)(H:Hp)(a:Addr)(xs:List V):Prop:=
 Rd H a (.lst xs) \/
  ∃(o:Obj) (its:Array Value) (n:Nat),K.lookup a=some o/\o.cls=.type "list"/\o.dict=none/\o.data=.seq its n/\its.size<=sizeLine/\Vals xs its.toList
def SqT(K:Frag)(H:Hp)(a:Addr)(xs:List V):Prop:=
 Rd H a (.tup xs) \/
  ∃(o:Obj) (its:Array Value) (n:Nat),K.lookup a=some o/\o.cls=.type "tuple"/\o.data=.seq its n/\its.size<=sizeLine/\Vals xs its.toList
def JJ:Value->Option V
 |.none=>some .non
 |.bool b=>some (.bl b)
 |.int i _=>some (.int i)
 |.str x _=>some (.str x)
 |.bytes b _=>some (.byt b)
 |.float b _=>some (.flt b)
 |.ref a=>some (.ref a)
 |.type n=>some (.ty n)
 |_=>none
theorem RelV.abs(r:RelV x u):JJ u=some x:=by
 cases x with
 |non=>cases r;rfl
 |bl _=>cases r;rfl
 |int _=>obtain⟨t,rfl⟩:=r;rfl
 |str _=>obtain⟨t,rfl⟩:=r;rfl
 |byt _=>obtain⟨t,rfl⟩:=r;rfl
 |flt _=>obtain⟨t,rfl⟩:=r;rfl
 |ref _=>cases r;rfl
 |ty _=>cases r;rfl
theorem RelV.inj(r:RelV x u)(q:RelV y u):x=y:=Option.some.inj (r.abs.symm.trans q.abs)
theorem Vals.inj:∀{xs ys:List V}{us:List Value},Vals xs us->Vals ys us->xs=ys
 |_,_,_,.nil,.nil=>rfl
 |_,_,_,.cons r t,.cons r' t'=>by rw[r.inj r',Vals.inj t t']
section
variable {X:Cx}{pins:List (Addr×Obj)}{σ:St}{H:Hp}{s:Shared}{a:Addr}{xs ys:List V}
theorem SqL.of{K:Frag}(h:H a=some (.lst xs)):SqL K H a xs:=.inl (.inl h)
theorem SqT.of{K:Frag}(h:H a=some (.tup xs)):SqT K H a xs:=.inl (.inl h)
theorem Inv.list(I:Inv X pins σ H s)(h:SqL X.K H a xs):∃its:List Value,Vals xs its/\PlainL s.heap a its.toArray/\xs.length<=sizeLine:=by
 rcases h with h|⟨o,its,n,hk,hc,hd,hs,hz,r⟩
 .obtain⟨z,its,n,r,e⟩:=h.ok I.hok
  exact⟨its,r,⟨_,n,e,rfl,rfl,rfl⟩,z⟩
 .refine⟨its.toList,r,⟨o,n,I.kIn a o hk,hc,hd,by simpa using hs⟩,?_⟩
  have e:=r.length;simp only[Array.length_toList] at e;omega
theorem Inv.tuple(I:Inv X pins σ H s)(h:SqT X.K H a xs):∃its:List Value,Vals xs its/\IsTup s.heap a its.toArray/\xs.length<=sizeLine:=by
 rcases h with h|⟨o,its,n,hk,hc,hs,hz,r⟩
 .obtain⟨z,its,r,p⟩:=h.ok I.hok
  exact⟨its,r,p,z⟩
 .refine⟨its.toList,r,⟨o,I.kIn a o hk,hc,n,by simpa using hs⟩,?_⟩
  have e:=r.length;simp only[Array.length_toList] at e;omega
theorem Inv.list_inj(I:Inv X pins σ H s)(h:SqL X.K H a xs)(h':SqL X.K H a ys):xs=ys:=by
 obtain⟨its,r,⟨o,n,e,_,_,d⟩,_⟩:=I.list h;obtain⟨its',r',⟨o',n',e',_,_,d'⟩,_⟩:=I.list h';rw[e] at e';cases e';rw[d] at d'
 injection d' with d1 _
 have:its=its':=by simpa using congrArg Array.toList d1
 subst this;exact r.inj r'
theorem Inv.tuple_inj(I:Inv X pins σ H s)(h:SqT X.K H a xs)(h':SqT X.K H a ys):xs=ys:=by
 obtain⟨its,r,⟨o,e,_,n,d⟩,_⟩:=I.tuple h;obtain⟨its',r',⟨o',e',_,n',d'⟩,_⟩:=I.tuple h';rw[e] at e';cases e';rw[d] at d'
 injection d' with d1 _
 have:its=its':=by simpa using congrArg Array.toList d1
 subst this;exact r.inj r'
end
abbrev Cx.wish(X:Cx)(E:Value->Shared->Prop):Cx:={ X with xe:=E }
abbrev Cx.nox(X:Cx):Cx:=X.wish fun _ _=>False
theorem Cx.Ok.wish{X:Cx}(ok:X.Ok)(E:Value->Shared->Prop):(X.wish E).Ok:=⟨ok.mod,ok.kind,ok.glob,ok.blt,ok.above,ok.inj,ok.has,ok.cab,ok.hd,ok.frames,ok.stk,ok.exf,ok.bs,ok.bsz,ok.noex,ok.exfs,ok.funs,ok.frf⟩
theorem Cx.Ok.unwish{X:Cx}{E:Value->Shared->Prop}(ok:(X.wish E).Ok):X.Ok:=⟨ok.mod,ok.kind,ok.glob,ok.blt,ok.above,ok.inj,ok.has,ok.cab,ok.hd,ok.frames,ok.stk,ok.exf,ok.bs,ok.bsz,ok.noex,ok.exfs,ok.funs,ok.frf⟩
section
variable {X:Cx}{pins:List (Addr×Obj)}{σ:St}{H:Hp}{s:Shared}{E:Value->Shared->Prop}
theorem Inv.wish(I:Inv X pins σ H s)(E:Value->Shared->Prop):Inv (X.wish E) pins σ H s:=⟨I.ok.wish E,I.os,I.bare,I.base,I.loc,I.cell,I.free,I.freeC,I.pin,I.hok,I.len⟩
theorem Inv.unwish(I:Inv (X.wish E) pins σ H s):Inv X pins σ H s:=⟨I.ok.unwish,I.os,I.bare,I.base,I.loc,I.cell,I.free,I.freeC,I.pin,I.hok,I.len⟩
theorem SP.unwish(h:SP (X.wish E) pins D f s'):SP X pins D f s':=by
 cases f with
 |next=>obtain⟨σ',H',I,q⟩:=h;exact⟨σ',H',I.unwish,q⟩
 |brk=>obtain⟨σ',H',I,q⟩:=h;exact⟨σ',H',I.unwish,q⟩
 |cont=>obtain⟨σ',H',I,q⟩:=h;exact⟨σ',H',I.unwish,q⟩
 |ret u=>obtain⟨v,σ',H',I,r,q⟩:=h;exact⟨v,σ',H',I.unwish,r,q⟩
theorem PSs.nox{st:List Stmt}{t:TS}(h:PSs X.nox st t):PSs X st t:=fun pins s σ H D I hw=>
 wpAny_mono (h pins s σ H D (I.wish _) hw) (fun _ _ q=>q.unwish) fun _ _ z=>False.elim z
end
section
variable {X:Cx}{st:Stmt}{rest:List Stmt}{t u:TS}{e:Expr}{te:TE}{pos:Pos}
def HK:TS:=fun D σ H=>D.nx σ H
def Jl(t u:TS):TS:=fun D σ H=>t { D with nx:=u D } σ H
theorem vX:PSs X [] HK:=fun _ _ σ H _ I h=>wpAny_execs_nil ⟨σ,H,I,h⟩
theorem qc(h1:PS X st t)(h2:PSs X rest u):PSs X (st::rest) (Jl t u):=by
 intro pins s σ H D I h;refine wpAny_execs_cons (thn (h1 pins s σ H { D with nx:=u D } I h) fun f s1 q=>?_)
 cases f with
 |next=>
  obtain⟨σ',H',I',q⟩:=q;exact h2 pins s1 σ' H' D I' q
 |ret v=>exact q
 |brk=>exact q
 |cont=>exact q
theorem vW(h1:PS X st t):PSs X [st] t:=by
 intro pins s σ H D I h;refine wpAny_execs_cons (thn (h1 pins s σ H D I h) fun f s1 q=>?_)
 cases f with
 |next=>exact wpAny_execs_nil q
 |ret v=>exact q
 |brk=>exact q
 |cont=>exact q
theorem Inv.quiet(I:Inv X pins σ H s):interactive X.env=false:=by simp[interactive,I.ok.kind]
def HM(te:TE):TS:=fun D σ H=>te σ H fun _ H1=>D.nx σ H1
theorem qD(he:PE X e te)(hs:swapsWith e none pos.line X.env=pure false:=by rfl):PS X (.Expr e pos) (HM te):=by
 intro pins s σ H D I h;exact wpAny_Expr_any (thn (he pins s σ H _ I h) fun v s1 ⟨x,H1,I1,r1,q1⟩=>⟨σ,H1,I1,q1⟩) I.quiet hs
def Jm(te:TE):TS:=fun D σ H=>te σ H D.rt
theorem xy(he:PE X e te):PS X (.Return (some e) pos) (Jm te):=by
 intro pins s σ H D I h;exact wpAny_Return_some (thn (he pins s σ H _ I h) fun v s1 ⟨x,H1,I1,r1,q1⟩=>⟨x,σ,H1,I1,r1,q1⟩)
def Jp(c:TT)(t u:TS):TS:=fun D σ H=>c σ H fun b H1=>if b=true then t D σ H1 else u D σ H1
theorem yG(hc:PT X c tc)(ha:PSs X a t)(hb:PSs X b u):PS X (.If c a b pos) (Jp tc t u):=by
 intro pins s σ H D I h;refine wpAny_If (thn (hc pins s σ H _ I h) fun d s1 ⟨H1,I1,q1⟩=>?_)
 cases d with
 |true=>exact ha pins s1 σ H1 D I1 q1
 |false=>exact hb pins s1 σ H1 D I1 q1
end
abbrev TG:=V->St->Hp->(St->Hp->Prop)->Prop
abbrev TGs:=List V->St->Hp->(St->Hp->Prop)->Prop
def PG(X:Cx)(target:Expr)(t:TG):Prop:=
 ∀(pins:List (Addr×Obj)) (s:Shared) (σ:St) (H:Hp) (v:V) (u:Value) (Q:St->Hp->Prop),Inv X pins σ H s->RelV v u->t v σ H Q ->
  wpAny (model X.prog X.w) X.A (assign target X.env u) (fun _ s'=>∃σ' H',Inv X pins σ' H' s'/\Q σ' H') X.xe s
def PGs(X:Cx)(ts:List Expr)(t:TGs):Prop:=
 ∀(pins:List (Addr×Obj)) (s:Shared) (σ:St) (H:Hp) (vs:List V) (us:List Value) (Q:St->Hp->Prop),Inv X pins σ H s->Vals vs us->t vs σ H Q ->
  wpAny (model X.prog X.w) X.A (assignInOrder ((assignEach ts X.env).map (·.2)) us) (fun _ s'=>∃σ' H',Inv X pins σ' H' s'/\Q σ' H') X.xe s
abbrev sH:=V->V->V->Hp->(Hp->Prop)->Prop
def zQ(X:Cx)(t:sH):Prop:=
 ∀(pins:List (Addr×Obj)) (s:Shared) (σ:St) (H:Hp) (o i v:V) (ov iv u:Value) (Q:Hp->Prop),Inv X pins σ H s->RelV o ov->RelV i iv->RelV v u->t o i v H Q ->
  wpAny (model X.prog X.w) X.A (setItem ov iv u) (fun _ s'=>∃H',Inv X pins σ H' s'/\Q H') X.xe s
section
variable {X:Cx}{pos:Pos}
def yU(i:Nat):TG:=fun v σ H Q=>Q (σ.set i (some v)) H
theorem fF(hN:X.N.Nodup)(hi:X.N[i]? = some x)(hx:Loc X.env.scope x)(hf:X.fn x=true\/X.env.scope.names.lookup x=some .local:=by first|exact .inl rfl|exact .inr rfl|assumption):PG X (.Name x pos) (yU i):=by
 intro pins s σ H v u Q I r h;exact wpAny_assign_Name (p0 I hN hi hx r (fun s' I'=>⟨_,H,I',h⟩) hf)
def JC:TGs:=fun vs σ H Q=>vs=[]/\Q σ H
def IT(t:TG)(u:TGs):TGs:=fun vs σ H Q=>∃v r,vs=v::r/\t v σ H fun σ' H'=>u r σ' H' Q
theorem mQ:PGs X [] JC:=by
 intro pins s σ H vs us Q I r h;obtain⟨e,h⟩:=h;subst e;cases r;exact assignInOrder_nil ⟨σ,H,I,h⟩
theorem gk(h1:PG X e t)(h2:PGs X es u)
  (hs:(assignEach (e::es) X.env).map (·.2)=assign e X.env::(assignEach es X.env).map (·.2):=by rfl):PGs X (e::es) (IT t u):=by
 intro pins s σ H vs us Q I r h;obtain⟨v,vr,e1,h⟩:=h;subst e1
 cases r with
 |cons r rr=>
  rw[hs];refine assignInOrder_cons (thn (h1 pins s σ H _ _ _ I r h) fun _ s1 ⟨σ1,H1,I1,q1⟩=>?_);exact h2 pins s1 σ1 H1 _ _ Q I1 rr q1
def Jy(K:Frag)(n:Nat)(t:TGs):TG:=fun v σ H Q=>∃a xs,v=.ref a/\SqT K H a xs/\xs.length=n/\t xs σ H Q
theorem nF(hc:X.calm=true)(h:PGs X es t)
  (hn:(assignEach es X.env).length=n:=by rfl) (hst:(assignEach es X.env).findIdx? (·.1)=none:=by rfl):PG X (.Tuple es k pos) (Jy X.K n t):=by
 intro pins s σ H v u Q I r hw;obtain⟨a,xs,e1,hq,hl,hw⟩:=hw;subst e1;cases r;obtain⟨its,rv,ht,hz⟩:=I.tuple hq;refine assign_Tuple_tuple (I.ok.hd hc) ht (by simp[hn,←hl,rv.length]) hst fun h' hx=>?_;have I1:Inv X pins σ H { s with heap:=h' }:=I.kept (t':=s.toks) fun b o e=>hx b o (Nat.ne_of_lt (Heap.lt_size e)) e;exact h pins _ σ H xs _ Q I1 (by simpa using rv) hw
def Jz(to ti:TE)(t:sH):TG:=fun v σ H Q=>to σ H fun o H1=>ti σ H1 fun i H2=>t o i v H2 fun H3=>Q σ H3
theorem Gi(ho:PE X o to)(hi:PE X i ti)(hs:zQ X t)
  (ha:∀v,assign (.Subscript o i pos) X.env v=(do
   let ov ←holding [v] (eval o X.env)
   let iv ←holding [v,ov] (eval i X.env)
   standAt pos
   holding [v,ov,iv] (setItem ov iv v)
   release [v,ov,iv] []):=by intro _;rfl):PG X (.Subscript o i pos) (Jz to ti t):=by
 intro pins s σ H v u Q I r h;rw[ha];refine wpAny_bind (wpAny_holding (thn (ho pins s σ H _ I h) fun ov s1 ⟨x,H1,I1,r1,q1⟩=>?_));refine wpAny_bind (wpAny_holding (thn (hi pins s1 σ H1 _ I1 q1) fun iv s2 ⟨y,H2,I2,r2,q2⟩=>?_));refine wpAny_bind (wpAny_standAt (wpAny_bind (wpAny_holding (thn (hs pins s2 σ H2 x y v ov iv u _ I2 r1 r2 r q2) fun _ s3 ⟨H3,I3,q3⟩=>?_))));exact wpAny_release ⟨σ,H3,I3,q3⟩
def zq(te:TE)(g:TG):TS:=fun D σ H=>te σ H fun x H1=>g x σ H1 D.nx
theorem rj(he:PE X e te)(hg:PG X tg g)(hs:swapsWithSole [tg] e pos.line X.env=pure false:=by rfl)(hw:swappedStores [tg] e X.env=pure none:=by rfl)
  (h1:(assignEach [tg] X.env).map (·.2)=[assign tg X.env]:=by rfl):PS X (.Assign [tg] e pos) (zq te g):=by
 intro pins s σ H D I h;refine wpAny_Assign_stores (thn (he pins s σ H _ I h) fun v s1 ⟨x,H1,I1,r1,q1⟩=>?_) hs hw;rw[h1];exact thn (hg pins s1 σ H1 x v _ I1 r1 q1) fun _ s2 q=>q
theorem iI(hN:X.N.Nodup)(hi:X.N[i]? = some x)(hx:Loc X.env.scope x)(he:PE X e te)(hs:swapsWith e (some (.Name x pos')) pos.line X.env=pure false:=by rfl)(hf:X.fn x=true\/X.env.scope.names.lookup x=some .local:=by first|exact .inl rfl|exact .inr rfl|assumption) :
  PS X (.Assign [.Name x pos'] e pos) (zq te (yU i)):=by
 intro pins s σ H D I h;refine wpAny_Assign_Name (thn (he pins s σ H _ I h) fun v s1 ⟨y,H1,I1,r1,q1⟩=>?_) hs;exact p0 I1 hN hi hx r1 (fun s2 I2=>⟨_,H1,I2,q1⟩) hf
def F2(c:TT)(tb:TS):TS:=fun D σ H=>∃W:Nat->St->Hp->Prop,(∃m,W m σ H)/\∀m σ H,W m σ H ->
 c σ H fun b H1=>if b=true then ∃N:St->Hp->Prop,(∀σ' H',N σ' H'->∃m',m' < m/\W m' σ' H')/\tb { D with nx:=N,ct:=N,bk:=D.nx } σ H1 else D.nx σ H1
theorem CA(hp:PassesOwn (model X.prog X.w) X.A X.env X.xe)(hc:PT X c tc)(hb:PSs X body tb):PS X (.While c body [] pos) (F2 tc tb):=by
 intro pins s σ H D I h;obtain⟨W,⟨m0,w0⟩,turn⟩:=h;refine wpAny_While (codeAny_whileLoop (fun n s'=>∃σ' H',Inv X pins σ' H' s'/\W n σ' H') ?_ m0 ⟨σ,H,I,w0⟩);rintro n s1 ⟨σ1,H1,I1,w1⟩;refine wpAny_passesOwn hp (thn (hc pins s1 σ1 H1 _ I1 (turn n σ1 H1 w1)) fun b s2 ⟨H2,I2,q2⟩=>?_)
 cases b with
 |true=>
  obtain⟨N,hN,q2⟩:=q2;rw[if_pos rfl];refine wpAny_passesOwn hp (thn (hb pins s2 σ1 H2 _ I2 q2) fun f s3 q3=>?_)
  cases f with
  |next=>
   obtain⟨σ3,H3,I3,n3⟩:=q3;obtain⟨m',hm,w3⟩:=hN σ3 H3 n3;exact⟨m',hm,σ3,H3,I3,w3⟩
  |cont=>
   obtain⟨σ3,H3,I3,n3⟩:=q3;obtain⟨m',hm,w3⟩:=hN σ3 H3 n3;exact⟨m',hm,σ3,H3,I3,w3⟩
  |brk=>exact q3
  |ret v=>exact q3
 |false=>
  rw[if_neg Bool.false_ne_true];exact wpAny_execs_nil ⟨σ1,H2,I2,q2⟩
end
structure It where
 go:Nat->Hp->Prop
 yld:Nat->Hp->V->Hp->Prop
 stop:Nat->Hp->Prop
def dr(X:Cx)(pins:List (Addr×Obj))(H:Hp)(b:Addr):Prop:=H b=none/\b≠X.env.locals/\b∉X.fs/\(b∈X.ex\/X.s₀.heap.objs.size<=b)/\(∀x c,X.env.cells.lookup x=some c->c≠b)/\∀p∈X.pn++pins,p.1≠b
theorem Inv.fpOk(I:Inv X pins σ H s)(hb:s.heap.objs.size<=b)(hn:H' b=none):dr X pins H' b:=by
 refine⟨hn,Nat.ne_of_gt (Nat.lt_of_lt_of_le I.lt hb),I.nofs hb,.inr (Nat.le_trans I.sz hb),fun x c e z=>?_,fun p hp z=>?_⟩
 .obtain⟨v,q⟩:=I.cell x c e
  exact absurd (Nat.lt_of_lt_of_le q.lt (by rw[z];exact hb)) (Nat.lt_irrefl _)
 .exact absurd (Nat.lt_of_lt_of_le (Heap.lt_size (I.pin p hp).1) (by rw[z];exact hb)) (Nat.lt_irrefl _)
structure Turn(P:Program)(w:World)(K:Frag)(tg:Expr)(J:It)(fp:List Addr)(it:Addr)(tn:Nat->Heap->Prop):Prop where
 mem:it∈fp
 obj:∀i h,tn i h->∀b∈fp,∃o,h.get? b=some o/\∀v,o.data≠.cell v
 keep:∀i h h',tn i h->(∀b∈fp,∀o,h.get? b=some o->h'.get? b=some o)->tn i h'
 item:∀(X:Cx),X.prog=P->X.w=w->X.K=K->X.calm=true->∀(i:Nat) (pins:List (Addr×Obj)) (s:Shared) (σ:St) (H:Hp) (E:Value->Shared->Prop),Inv X pins σ H s->(∀b∈fp,dr X pins H b)->tn i s.heap->J.go i H ->
  wpAny (model P w) X.A (pyNext (.ref it)) (fun r s1=>∃u,r=some u /\
   wpAny (model P w) X.A (letOwnedTupleGo tg (.ref it) u) (fun _ s2=>∃x H',Inv X pins σ H' s2/\RelV x u/\J.yld i H x H'/\tn (i+1) s2.heap/\∀b∈fp,H' b=none) E s1) E s
 done:∀(X:Cx),X.prog=P->X.w=w->X.K=K->X.calm=true->∀(i:Nat) (pins:List (Addr×Obj)) (s:Shared) (σ:St) (H:Hp) (E:Value->Shared->Prop),Inv X pins σ H s->(∀b∈fp,dr X pins H b)->tn i s.heap->J.stop i H ->
  wpAny (model P w) X.A (pyNext (.ref it)) (fun r s1=>r=none/\Inv X pins σ H s1) E s
 self:∀(A:Around) (i:Nat) (s:Shared) (Q:Value->Shared->Prop) (E:Value->Shared->Prop),tn i s.heap->Q (.ref it) s->wpAny (model P w) A (pyIter (.ref it)) Q E s
abbrev TI:=St->Hp->(It->Hp->Prop)->Prop
def PIE(X:Cx)(pins:List (Addr×Obj))(σ:St)(tg:Expr)(R:It->Hp->Prop)(itv:Value)(s2:Shared):Prop:=∃(it:Addr) (fp:List Addr) (tn:Nat->Heap->Prop) (J:It) (H':Hp),itv=.ref it/\Inv X pins σ H' s2/\Turn X.prog X.w X.K tg J fp it tn/\tn 0 s2.heap/\(∀b∈fp,dr X pins H' b)/\R J H'
def PI(X:Cx)(tg iter:Expr)(wi:TI):Prop:=
 ∀(pins:List (Addr×Obj)) (s:Shared) (σ:St) (H:Hp) (R:It->Hp->Prop),Inv X pins σ H s->wi σ H R ->
  wpAny (model X.prog X.w) X.A (eval iter X.env) (fun v s1=>wpAny (model X.prog X.w) X.A (pyIter v) (PIE X pins σ tg R) X.xe s1) X.xe s
theorem lD(ho:s.heap.get? it=some o)(hc:o.cls=.type n)(hd:o.data=.fields vs)
  (hn:["enumerate","zip","dict_itemiterator","dict_reverseitemiterator","odict_iterator","itertools.zip_longest","itertools.pairwise"].contains n=false) (hQ:Q () s):wpAny M A (letOwnedTupleGo tg (.ref it) u) Q E s:=by
 unfold letOwnedTupleGo
 cases tg <;> first
  |exact wpAny_pure hQ
  | (cases u <;> first
    |exact wpAny_pure hQ
    | (refine wpAny_bind (wpAny_load ho ?_)
       rw[hc,hd];show wpAny M A (if (["enumerate","zip","dict_itemiterator","dict_reverseitemiterator","odict_iterator","itertools.zip_longest","itertools.pairwise"].contains n&&vs[0]? == some (rawInt _))=true then _ else _) Q E s;rw[if_neg (by intro h;rw[hn,Bool.false_and] at h;cases h)]
       exact wpAny_pure hQ))
def Itl(K:Frag)(a:Addr):It:=⟨fun i H=>∃xs x,SqL K H a xs/\xs[i]? = some x,fun i H x H'=>H'=H/\∀xs,SqL K H a xs->xs[i]? = some x,fun i H=>∃xs,SqL K H a xs/\xs.length<=i⟩
def Itt(K:Frag)(a:Addr):It:=⟨fun i H=>∃xs x,SqT K H a xs/\xs[i]? = some x,fun i H x H'=>H'=H/\∀xs,SqT K H a xs->xs[i]? = some x,fun i H=>∃xs,SqT K H a xs/\xs.length<=i⟩
def Itr(lo:Int)(n:Nat):It:=⟨fun i _=>i<n,fun i H x H'=>H'=H/\x=.int (lo+i),fun i _=>n<=i⟩
theorem Bp{P:Program}{w:World}{K:Frag}{tg:Expr}(a it:Addr):Turn P w K tg (Itl K a) [it] it (fun i h=>h.IsListIter it a i) where
 mem:=by simp
 obj:=fun i h st b hb=>by
  have e:b=it:=by simpa using hb
  subst e;obtain⟨o,e,c,d⟩:=st;exact⟨o,e,fun v z=>by rw[d] at z;cases z⟩
 keep:=fun i h h' st k=>st.at fun o e=>k it (by simp) o e
 item:=by
  intro X hP hw hK hc i pins s σ H E I hf st hg;subst hP hw hK;obtain⟨xs,x,hq,hx⟩:=hg;obtain⟨its,rv,p,hz⟩:=I.list hq;obtain⟨u,hu,ru⟩:=rv.get hx;obtain⟨f0,f1,f2,f3,f4,f5⟩:=hf it (by simp);refine wpAny_pyNext_list_item st p.isList (x:=u) (by simpa using hu) fun h' st' sb=>?_;have I1:Inv X pins σ H { s with heap:=h' }:=I.turned (t':=s.toks) (fun b o hb e=>(sb.2 b hb).trans e) f0 f1 f3 f4 f5;obtain⟨o,e,c,d⟩:=id st';exact⟨u,rfl,lD (s:={ s with heap:=h' }) e c d (by decide) ⟨x,H,I1,ru,⟨rfl,fun ys hy=>by rw[I.list_inj hy hq];exact hx⟩,st',fun b hb=>(hf b hb).1⟩⟩
 done:=by
  intro X hP hw hK hc i pins s σ H E I hf st hg;subst hP hw hK;obtain⟨xs,hq,hx⟩:=hg;obtain⟨its,rv,p,hz⟩:=I.list hq;obtain⟨f0,f1,f2,f3,f4,f5⟩:=hf it (by simp);have hl:=rv.length;exact wpAny_pyNext_list_end (I.ok.hd hc) st p.isList (by simp;omega) fun h' eb=>⟨rfl,I.turned (t':=s.toks) (fun b o hb e=>eb b o hb e) f0 f1 f3 f4 f5⟩
 self:=fun _ _ _ _ _ st h=>wpAny_pyIter_listiter st h
theorem AW{P:Program}{w:World}{K:Frag}{tg:Expr}(a it:Addr):Turn P w K tg (Itt K a) [it] it (fun i h=>h.IsTupleIter it a i) where
 mem:=by simp
 obj:=fun i h st b hb=>by
  have e:b=it:=by simpa using hb
  subst e;obtain⟨o,e,c,d⟩:=st;exact⟨o,e,fun v z=>by rw[d] at z;cases z⟩
 keep:=fun i h h' st k=>st.at fun o e=>k it (by simp) o e
 item:=by
  intro X hP hw hK hc i pins s σ H E I hf st hg;subst hP hw hK;obtain⟨xs,x,hq,hx⟩:=hg;obtain⟨its,rv,p,hz⟩:=I.tuple hq;obtain⟨u,hu,ru⟩:=rv.get hx;obtain⟨f0,f1,f2,f3,f4,f5⟩:=hf it (by simp);refine wpAny_pyNext_tuple_item st (show s.heap.IsTuple a its.toArray from p) (x:=u) (by simpa using hu) fun h' st' sb=>?_;have I1:Inv X pins σ H { s with heap:=h' }:=I.turned (t':=s.toks) (fun b o hb e=>(sb.2 b hb).trans e) f0 f1 f3 f4 f5;obtain⟨o,e,c,d⟩:=id st';exact⟨u,rfl,lD (s:={ s with heap:=h' }) e c d (by decide) ⟨x,H,I1,ru,⟨rfl,fun ys hy=>by rw[I.tuple_inj hy hq];exact hx⟩,st',fun b hb=>(hf b hb).1⟩⟩
 done:=by
  intro X hP hw hK hc i pins s σ H E I hf st hg;subst hP hw hK;obtain⟨xs,hq,hx⟩:=hg;obtain⟨its,rv,p,hz⟩:=I.tuple hq;obtain⟨f0,f1,f2,f3,f4,f5⟩:=hf it (by simp);have hl:=rv.length;exact wpAny_pyNext_tuple_end (I.ok.hd hc) st (show s.heap.IsTuple a its.toArray from p) (by simp;omega) fun h' eb=>⟨rfl,I.turned (t':=s.toks) (fun b o hb e=>eb b o hb e) f0 f1 f3 f4 f5⟩
 self:=fun _ _ _ _ _ st h=>wpAny_pyIter_tupleiter st h
theorem AX{P:Program}{w:World}{K:Frag}{tg:Expr}(it:Addr)(lo:Int)(n:Nat):Turn P w K tg (Itr lo n) [it] it (fun i h=>IsRangeIter h it (lo+(i:Nat)*1) ((n:Int)-(i:Nat)) 1) where
 mem:=by simp
 obj:=fun i h st b hb=>by
  have e:b=it:=by simpa using hb
  subst e
  exact⟨_,st,fun v z=>by
   have z':Data.fields _=Data.cell v:=z
   cases z'⟩
 keep:=fun i h h' st k=>k it (by simp) _ st
 item:=by
  intro X hP hw hK hc i pins s σ H E I hf st hg;subst hP hw hK;obtain⟨f0,f1,f2,f3,f4,f5⟩:=hf it (by simp);have W:=Walks.range (prog:=X.prog) (w:=X.w) (I.ok.hd hc) it lo 1 n;refine W.item i s _ _ hg st fun v h' tk hv st' kk=>?_;obtain⟨t,rfl⟩:=hv;have I1:Inv X pins σ H { s with heap:=h',toks:=tk }:=I.turned (fun b o hb e=>kk b o (by simpa using hb) e) f0 f1 f3 f4 f5;refine⟨_,rfl,lD (s:={ s with heap:=h',toks:=tk }) (n:="range_iterator") st' rfl rfl (by decide) ⟨.int (lo+i),H,I1,⟨t,?_⟩,⟨rfl,rfl⟩,st',fun b hb=>(hf b hb).1⟩⟩;rw[Int.mul_one]
 done:=by
  intro X hP hw hK hc i pins s σ H E I hf st hg;subst hP hw hK;obtain⟨f0,f1,f2,f3,f4,f5⟩:=hf it (by simp);exact wpAny_pyNext_range_end (I.ok.hd hc) st (by have:n<=i:=hg;omega) fun h' eb=>⟨rfl,I.turned (t':=s.toks) (fun b o hb e=>eb b o hb e) f0 f1 f3 f4 f5⟩
 self:=fun _ _ _ _ _ st h=>wpAny_pyIter_rangeiter st h
section
variable {X:Cx}{tg:Expr}
theorem Ct{pins:List (Addr×Obj)}{σ:St}{H:Hp}{s:Shared}{R:It->Hp->Prop}{E:Value->Shared->Prop}{lo hi:Int}{t u v:Tok}{tk:Nat}(I:Inv X pins σ H s)(h1 : -(2^62)<=lo)(h2:lo<2^62)(h3 : -(2^62)<=hi)(h4:hi<2^62)
  (q:R (Itr lo (hi-lo).toNat) H):wpAny (model X.prog X.w) X.A (pyIter (.ref s.heap.objs.size)) (PIE X pins σ tg R) E { s with heap:=s.heap.push { cls:=.type "range",data:=.fields #[.int lo t,.int hi u,.int 1 v] },toks:=tk }:=by
 refine wpAny_pyIter_range (IsRange.new ..) (small_one h1 h2 h3 h4) ?_;have I1:Inv X pins σ H { s with heap:=s.heap.push { cls:=.type "range",data:=.fields #[.int lo t,.int hi u,.int 1 v] },toks:=tk }:=I.kept fun b o e=>Heap.get?_push_of_some _ e
 refine⟨(s.heap.push { cls:=.type "range",data:=.fields #[.int lo t,.int hi u,.int 1 v] }).objs.size,[(s.heap.push { cls:=.type "range",data:=.fields #[.int lo t,.int hi u,.int 1 v] }).objs.size],_,_,H,rfl,
  I1.kept (t':=tk) fun b o e=>Heap.get?_push_of_some _ e,AX _ lo (hi-lo).toNat,?_,fun b hb=>?_,q⟩
 .have e1:lo+((0:Nat):Int)*1=lo:=by simp
  have e2:(((hi-lo).toNat:Nat):Int)-((0:Nat):Int)=Builtin.Range.rangeSize lo hi 1:=by rw[rangeSize_one];split <;> omega
  show IsRangeIter _ _ (lo+((0:Nat):Int)*1) ((((hi-lo).toNat:Nat):Int)-((0:Nat):Int)) 1;rw[e1,e2];exact Heap.get?_push_size _ rfl
 .have e:b=(s.heap.push { cls:=.type "range",data:=.fields #[.int lo t,.int hi u,.int 1 v] }).objs.size:=by simpa using hb
  subst e;exact I1.fpOk (Nat.le_refl _) (I1.hok.fresh (Nat.le_refl _))
def IJ(ta:TA):TI:=fun σ H R=>ta σ H fun vs H1=>∃j:Int,vs=[.int j]/\-(2^62)<=j/\j<2^62/\R (Itr 0 j.toNat) H1
theorem Bv(hg:Gl X "range")(hm:X.mg "range"=none)(ha:PA X [a] ta)(hs:starEach [a] X.env=[(false,eval a X.env)]:=by rfl):PI X tg (.Call (.Name "range" p) [a] [] pos) (IJ ta):=by
 intro pins s σ H R I h;refine Call_ (jC I hg hm boot_range (PyProof.Rows.callWith_type1 (thn (ha pos pins s σ H _ I h) fun us s1 ⟨vs,H1,I1,r1,q1⟩=>?_) hs rfl));obtain⟨j,e,q1,q2,q⟩:=q1;subst e
 cases r1 with
 |cons r rr=>
  cases rr;obtain⟨t,rfl⟩:=r;exact call_range_1 (Ct I1 (by omega) (by omega) q1 q2 (by simpa using q))
def Jq(wi:TI)(g:TG)(tb:TS):TS:=fun D σ H=>wi σ H fun J H1=>∃W:Nat->Nat->St->Hp->Prop,(∃m,W 0 m σ H1)/\∀i m σ H,W i m σ H ->
 (J.stop i H/\D.nx σ H)\/(J.go i H/\∃N:St->Hp->Prop,(∀σ' H',N σ' H'->∃m',m' < m/\W (i+1) m' σ' H')/\∀x H',J.yld i H x H'->g x σ H' fun σ2 H2=>tb { D with nx:=N,ct:=N,bk:=D.nx } σ2 H2)
def gX(fp:List Addr)(h:Heap):List (Addr×Obj):=fp.filterMap fun b=>(h.get? b).map fun o=>(b,o)
theorem lX(hb:b∈fp)(e:h.get? b=some o):(b,o)∈gX fp h:=List.mem_filterMap.mpr ⟨b,hb,by rw[e];rfl⟩
theorem BB(hp:p∈gX fp h):p.1∈fp/\h.get? p.1=some p.2:=by
 obtain⟨b,hb,e⟩:=List.mem_filterMap.mp hp
 cases q:h.get? b with
 |none=>rw[q] at e;cases e
 |some o=>
  rw[q] at e;have e':(b,o)=p:=Option.some.inj e;subst e';exact⟨hb,q⟩
theorem Inv.pinned(I:Inv X pins σ H s)(hf:∀b∈fp,dr X pins H b)(ho:∀b∈fp,∃o,s.heap.get? b=some o/\∀v,o.data≠.cell v):Inv X (pins++gX fp s.heap) σ H s:=
 I.pins_of fun p hp=>(List.mem_append.mp hp).elim (fun z=>I.pin p (List.mem_append_right _ z)) fun z=>by
  obtain⟨hb,e⟩:=BB z;obtain⟨f0,f1,f2,_⟩:=hf p.1 hb;obtain⟨o,e',d⟩:=ho p.1 hb;rw[e] at e';cases e';exact⟨e,f0,f1,f2,d⟩
theorem Inv.unpinned(I:Inv X (pins++pl) σ H s):Inv X pins σ H s:=I.pins_of fun p hp=>I.pin p (List.mem_append_right _ (List.mem_append_left _ hp))
theorem rh(hp:PassesOwn (model X.prog X.w) X.A X.env X.xe)(hc:X.calm=true)(hi:PI X tg iter wi)(hg:PG X tg g)(hb:PSs X body tb)
  (hs:∀x,foldedSetIterable iter X.env x=pure x:=by intro _;rfl):PS X (.For tg iter body [] pos) (Jq wi g tb):=by
 intro pins s σ H D I h;refine wpAny_For (thn (hi pins s σ H _ I h) fun v s1 h1=>thn h1 fun itv s2 h2=>?_) hs;obtain⟨it,fp,tn,J,H2,e,I2,T,st2,f2,W,⟨m0,w0⟩,turn⟩:=h2;subst e;have stat:∀{H':Hp},(∀b∈fp,H' b=none)->∀b∈fp,dr X pins H' b:=fun hn b hb=>⟨hn b hb,(f2 b hb).2⟩;refine codeAny_forLoop_any (fun n s'=>∃i σ' H',Inv X pins σ' H' s'/\tn i s'.heap/\(∀b∈fp,H' b=none)/\W i n σ' H') ?_ m0 ⟨0,σ,H2,I2,st2,fun b hb=>(f2 b hb).1,w0⟩;rintro n s3 ⟨i,σ3,H3,I3,st3,fr3,w3⟩
 rcases turn i n σ3 H3 w3 with⟨stop,qn⟩|⟨go,N,hN,step⟩
 .refine wpAny_passesOwn hp (thn (T.done X rfl rfl rfl hc i pins s3 σ3 H3 X.xe I3 (stat fr3) st3 stop) fun r s4 ⟨hr,I4⟩=>?_)
  subst hr;exact wpAny_execs_nil ⟨σ3,H3,I4,qn⟩
 .refine wpAny_passesOwn hp (thn (T.item X rfl rfl rfl hc i pins s3 σ3 H3 X.xe I3 (stat fr3) st3 go) fun r s4 ⟨u,hr,h4⟩=>?_)
  subst hr;refine wpAny_passesOwn hp (thn h4 fun _ s5 ⟨x,H5,I5,r5,y5,st5,fr5⟩=>?_);have I5':=I5.pinned (stat fr5) (T.obj _ _ st5);refine wpAny_passesOwn hp (thn (hg _ s5 σ3 H5 x u _ I5' r5 (step x H5 y5)) fun _ s6 ⟨σ6,H6,I6,q6⟩=>?_);refine wpAny_passesOwn hp (thn (hb _ s6 σ6 H6 _ I6 q6) fun f s7 q7=>?_)
  have again:∀{σ7:St}{H7:Hp},Inv X (pins++gX fp s5.heap) σ7 H7 s7->N σ7 H7->∃m,m<n/\∃i σ' H',Inv X pins σ' H' s7/\tn i s7.heap/\(∀b∈fp,H' b=none)/\W i m σ' H':=fun {σ7 H7} I7 n7=>by
   obtain⟨m',hm,w7⟩:=hN σ7 H7 n7;refine⟨m',hm,i+1,σ7,H7,I7.unpinned,T.keep _ _ _ st5 fun b hb o e=>(I7.pin (b,o) (List.mem_append_right _ (List.mem_append_right _ (lX hb e)))).1,fun b hb=>?_,w7⟩;obtain⟨o,e,d⟩:=T.obj _ _ st5 b hb;exact(I7.pin (b,o) (List.mem_append_right _ (List.mem_append_right _ (lX hb e)))).2.1
  cases f with
  |next=>obtain⟨σ7,H7,I7,n7⟩:=q7;exact again I7 n7
  |cont=>obtain⟨σ7,H7,I7,n7⟩:=q7;exact again I7 n7
  |brk=>obtain⟨σ7,H7,I7,q7⟩:=q7;exact⟨σ7,H7,I7.unpinned,q7⟩
  |ret v=>obtain⟨x7,σ7,H7,I7,r7,q7⟩:=q7;exact⟨x7,σ7,H7,I7.unpinned,r7,q7⟩
end
abbrev R2:=V->V->Hp->VK->Prop
def OpR(X:Cx)(f:Value->Value->Sem Value)(r:R2):Prop:=
 ∀(pins:List (Addr×Obj)) (s:Shared) (σ:St) (H:Hp) (x y:V) (v u:Value) (Q:VK),Inv X pins σ H s->RelV x v->RelV y u->r x y H Q ->
  wpAny (model X.prog X.w) X.A (f v u) (EP X pins σ Q) X.xe s
def UnR(X:Cx)(f:Value->Sem Value)(r:V->Hp->VK->Prop):Prop:=
 ∀(pins:List (Addr×Obj)) (s:Shared) (σ:St) (H:Hp) (x:V) (v:Value) (Q:VK),Inv X pins σ H s->RelV x v->r x H Q ->
  wpAny (model X.prog X.w) X.A (f v) (EP X pins σ Q) X.xe s
def CallR(X:Cx)(f:Value)(r:List V->Hp->VK->Prop):Prop:=
 ∀(pins:List (Addr×Obj)) (s:Shared) (σ:St) (H:Hp) (xs:List V) (us:List Value) (Q:VK),Inv X pins σ H s->Vals xs us->r xs H Q ->
  wpAny (model X.prog X.w) X.A (call f us) (EP X pins σ Q) X.xe s
def JK(X:Cx)(r:V->Hp->(Bool->Hp->Prop)->Prop):Prop:=
 ∀(pins:List (Addr×Obj)) (s:Shared) (σ:St) (H:Hp) (x:V) (v:Value) (Q:Bool->Hp->Prop),Inv X pins σ H s->RelV x v->r x H Q ->
  wpAny (model X.prog X.w) X.A (truthy v) (TP X pins σ Q) X.xe s
def tOp(r:R2)(ta tb:TE):TE:=fun σ H Q=>ta σ H fun x H1=>tb σ H1 fun y H2=>r x y H2 Q
def tUn(r:V->Hp->VK->Prop)(ta:TE):TE:=fun σ H Q=>ta σ H fun x H1=>r x H1 Q
def rI(C:Int->Int->Prop)(g:Int->Int->V):R2:=fun x y H Q=>∃i j,x=.int i/\y=.int j/\C i j/\Q (g i j) H
def rI0(g:Int->Int->V):R2:=fun x y H Q=>∃i j,x=.int i/\y=.int j/\Q (g i j) H
def rU(g:Int->V):V->Hp->VK->Prop:=fun x H Q=>∃i,x=.int i/\Q (g i) H
section
variable {X:Cx}{a b c:Expr}{ta tb tc:TE}{pos:Pos}
theorem sE(ha:PE X a ta)(hb:PE X b tb){R:V->V->Hp->Prop}(I:Inv X pins σ H s)
  (h:ta σ H fun x H1=>tb σ H1 fun y H2=>R x y H2) {Q:Value->Shared->Prop}{f:Value->Value->Sem Value}
  (hf:∀v u s2 x y H2,Inv X pins σ H2 s2->RelV x v->RelV y u->R x y H2->wpAny (model X.prog X.w) X.A (f v u) Q X.xe s2) :
  wpAny (model X.prog X.w) X.A (eval a X.env) (fun v s₁=>wpAny (model X.prog X.w) X.A (eval b X.env) (fun u s₂=>wpAny (model X.prog X.w) X.A (f v u) Q X.xe s₂) X.xe s₁) X.xe s:=by
 refine thn (ha pins s σ H _ I h) fun v s1 ⟨x,H1,I1,r1,q1⟩=>?_;refine thn (hb pins s1 σ H1 _ I1 q1) fun u s2 ⟨y,H2,I2,r2,q2⟩=>?_;exact hf v u s2 x y H2 I2 r1 r2 q2
theorem yH(ho:OpR X (binaryOp op) r)(ha:PE X a ta)(hb:PE X b tb):PE X (.BinOp a op b pos) (tOp r ta tb):=by
 intro pins s σ H Q I h;exact wpAny_BinOp (sE ha hb I h fun v u s2 x y H2 I2 rx ry q=>ho pins s2 σ H2 x y v u Q I2 rx ry q)
theorem HY(ho:UnR X (unaryOp op) r)(ha:PE X a ta):PE X (.UnaryOp op a pos) (tUn r ta):=by
 intro pins s σ H Q I h;exact UnaryOp_ (thn (ha pins s σ H _ I h) fun v s1 ⟨x,H1,I1,r1,q1⟩=>ho pins s1 σ H1 x v Q I1 r1 q1)
theorem opI{f:Value->Value->Sem Value}{C:Int->Int->Prop}{g:Int->Int->Int}
  (rule:∀(i j:Int) (t u:Tok) (s:Shared) (Q:Value->Shared->Prop) (E:Value->Shared->Prop),C i j->Q (.int (g i j) s.toks) { s with toks:=s.toks+1 }->wpAny (model X.prog X.w) X.A (f (.int i t) (.int j u)) Q E s) :
  OpR X f (rI C fun i j=>.int (g i j)):=by
 intro pins s σ H x y v u Q I rx ry h;obtain⟨i,j,rfl,rfl,hc,q⟩:=h;obtain⟨t,rfl⟩:=rx;obtain⟨t',rfl⟩:=ry;exact rule i j t t' s _ _ hc ⟨.int (g i j),H,I.tok _,⟨_,rfl⟩,q⟩
theorem zC{f:Value->Value->Sem Value}{g:Int->Int->Int}
  (rule:∀(i j:Int) (t u:Tok) (s:Shared) (Q:Value->Shared->Prop) (E:Value->Shared->Prop),Q (.int (g i j) s.toks) { s with toks:=s.toks+1 }->wpAny (model X.prog X.w) X.A (f (.int i t) (.int j u)) Q E s) :
  OpR X f (rI0 fun i j=>.int (g i j)):=by
 intro pins s σ H x y v u Q I rx ry h;obtain⟨i,j,rfl,rfl,q⟩:=h;obtain⟨t,rfl⟩:=rx;obtain⟨t',rfl⟩:=ry;exact rule i j t t' s _ _ ⟨.int (g i j),H,I.tok _,⟨_,rfl⟩,q⟩
theorem oW{f:Value->Value->Sem Value}{g:Int->Int->Bool}
  (rule:∀(i j:Int) (t u:Tok) (s:Shared) (Q:Value->Shared->Prop) (E:Value->Shared->Prop),Q (.bool (g i j)) s->wpAny (model X.prog X.w) X.A (f (.int i t) (.int j u)) Q E s) :
  OpR X f (rI0 fun i j=>.bl (g i j)):=by
 intro pins s σ H x y v u Q I rx ry h;obtain⟨i,j,rfl,rfl,q⟩:=h;obtain⟨t,rfl⟩:=rx;obtain⟨t',rfl⟩:=ry;exact rule i j t t' s _ _ ⟨.bl (g i j),H,I,rfl,q⟩
def JM(i j:Int):Prop:=0<=j/\j<=1000000/\i.natAbs<2^64
def CMul(i j:Int):Prop:=(-(2^64)<i/\i<2^64)\/(-(2^64)<j/\j<2^64)
theorem CMul.ok(h:CMul i j):IntMulOk i j:=by
 rcases h with⟨h1,h2⟩|⟨h1,h2⟩
 .exact .of_left (intBits_le_64 h1 h2)
 .exact .of_right (intBits_le_64 h1 h2)
theorem op_add:OpR X (binaryOp .Add) (rI0 fun i j=>.int (i+j)):=zC fun _ _ _ _ _ _ _ q=>add_int q
theorem Gs:OpR X (binaryOp .Sub) (rI0 fun i j=>.int (i-j)):=zC fun _ _ _ _ _ _ _ q=>sub_int q
theorem op_mul:OpR X (binaryOp .Mult) (rI CMul fun i j=>.int (i*j)):=opI fun _ _ _ _ _ _ _ hc q=>mul_int q hc.ok
theorem Gw:OpR X (binaryOp .Mod) (rI (fun _ j=>0<j) fun i j=>.int (i % j)):=opI fun i j _ _ _ _ _ hc q=>by
 have h1:(0:Int)<j:=hc;exact mod_int' (by omega) (by rw[Int.fmod_eq_emod_of_nonneg i (by omega)];exact q)
theorem Gu:OpR X (binaryOp .Pow) (rI JM fun i j=>.int (i^j.toNat)):=opI fun _ _ _ _ _ _ _ hc q=>pow_int_small hc.1 hc.2.1 hc.2.2 q
theorem unI{f:Value->Sem Value}{g:Int->Int}
  (rule:∀(i:Int) (t:Tok) (s:Shared) (Q:Value->Shared->Prop) (E:Value->Shared->Prop),Q (.int (g i) s.toks) { s with toks:=s.toks+1 }->wpAny (model X.prog X.w) X.A (f (.int i t)) Q E s) :
  UnR X f (rU fun i=>.int (g i)):=by
 intro pins s σ H x v Q I rx h;obtain⟨i,rfl,q⟩:=h;obtain⟨t,rfl⟩:=rx;exact rule i t s _ _ ⟨.int (g i),H,I.tok _,⟨_,rfl⟩,q⟩
theorem FR:UnR X (unaryOp .USub) (rU fun i=>.int (-i)):=unI fun _ _ _ _ _ q=>neg_int q
end
def sv:V->V->Bool
 |.non,.non=>true | .non,.int _=>true | .int _,.non=>true | .non,.bl _=>true | .bl _,.non=>true | .non,.str _=>true | .str _,.non=>true
 |.int _,.int _=>true | .bl _,.bl _=>true | .str _,.str _=>true | .byt _,.byt _=>true
 |.int _,.str _=>true | .str _,.int _=>true | .bl _,.str _=>true | .str _,.bl _=>true
 |_,_=>false
def rEq:R2:=fun x y H Q=>sv x y=true/\Q (.bl (decide (x=y))) H
def rNe:R2:=fun x y H Q=>sv x y=true/\Q (.bl (!decide (x=y))) H
theorem wY:decide (V.int i=V.int j)=(i == j):=by
 rw[Bool.eq_iff_iff];simp
theorem yl:decide (V.bl i=V.bl j)=(i == j):=by
 rw[Bool.eq_iff_iff];simp
theorem wX:decide (V.str i=V.str j)=(i == j):=by
 rw[Bool.eq_iff_iff];simp
theorem wZ:decide (V.byt i=V.byt j)=(i.toList == j.toList):=by
 rw[Bool.eq_iff_iff];cases i;cases j;simp
section
variable {X:Cx}{a b c:Expr}{ta tb tc:TE}{pos:Pos}
theorem br(I:Inv X pins σ H s)(q:Q (.bl k) H)(e:k=k'):EP X pins σ Q (.bool k') s:=by
 subst e;exact⟨.bl k,H,I,rfl,q⟩
theorem Il:OpR X (compareOp .Eq) rEq:=by
 intro pins s σ H x y v u Q I rx ry h;obtain⟨hs,q⟩:=h
 cases x with
 |non=>
  cases rx
  cases y with
  |non=>cases ry;exact PySem.EqNone.eq_none_none (br I q (by simp))
  |bl j=>cases ry;exact PySem.EqNone.eq_none_bool (br I q (by simp))
  |int j=>obtain⟨t',rfl⟩:=ry;exact PySem.EqNone.eq_none_int (br I q (by simp))
  |str j=>obtain⟨t',rfl⟩:=ry;exact PySem.EqNone.eq_none_str (br I q (by simp))
  |_=>exact absurd (show false=true from hs) Bool.false_ne_true
 |bl i=>
  cases rx
  cases y with
  |non=>cases ry;exact PySem.EqNone.eq_bool_none (br I q (by simp))
  |bl j=>cases ry;exact eq_bool (br I q yl)
  |str j=>obtain⟨t',rfl⟩:=ry;exact PySem.EqMixed.eq_bool_str (br I q (by simp))
  |_=>exact absurd (show false=true from hs) Bool.false_ne_true
 |int i=>
  obtain⟨t,rfl⟩:=rx
  cases y with
  |non=>cases ry;exact PySem.EqNone.eq_int_none (br I q (by simp))
  |int j=>obtain⟨t',rfl⟩:=ry;exact eq_int (br I q wY)
  |str j=>obtain⟨t',rfl⟩:=ry;exact PySem.EqMixed.eq_int_str (br I q (by simp))
  |_=>exact absurd (show false=true from hs) Bool.false_ne_true
 |str i=>
  obtain⟨t,rfl⟩:=rx
  cases y with
  |non=>cases ry;exact PySem.EqNone.eq_str_none (br I q (by simp))
  |bl j=>cases ry;exact PySem.EqMixed.eq_str_bool (br I q (by simp))
  |int j=>obtain⟨t',rfl⟩:=ry;exact PySem.EqMixed.eq_str_int (br I q (by simp))
  |str j=>obtain⟨t',rfl⟩:=ry;exact eq_str (br I q wX)
  |_=>exact absurd (show false=true from hs) Bool.false_ne_true
 |byt i=>
  obtain⟨t,rfl⟩:=rx
  cases y with
  |byt j=>obtain⟨t',rfl⟩:=ry;exact PySem.W.eq_bytes (br I q wZ)
  |_=>exact absurd (show false=true from hs) Bool.false_ne_true
 |_=>cases y <;> exact absurd (show false=true from hs) Bool.false_ne_true
theorem Ig:OpR X (compareOp .NotEq) rNe:=by
 intro pins s σ H x y v u Q I rx ry h;obtain⟨hs,q⟩:=h
 cases x with
 |non=>
  cases rx
  cases y with
  |non=>cases ry;exact PySem.EqNone.ne_none_none (br I q (by simp))
  |bl j=>cases ry;exact PySem.EqNone.ne_none_bool (br I q (by simp))
  |int j=>obtain⟨t',rfl⟩:=ry;exact PySem.EqNone.ne_none_int (br I q (by simp))
  |str j=>obtain⟨t',rfl⟩:=ry;exact PySem.EqNone.ne_none_str (br I q (by simp))
  |_=>exact absurd (show false=true from hs) Bool.false_ne_true
 |bl i=>
  cases rx
  cases y with
  |non=>cases ry;exact PySem.EqNone.ne_bool_none (br I q (by simp))
  |bl j=>cases ry;exact ne_bool (br I q (congrArg not yl))
  |str j=>obtain⟨t',rfl⟩:=ry;exact PySem.EqMixed.ne_bool_str (br I q (by simp))
  |_=>exact absurd (show false=true from hs) Bool.false_ne_true
 |int i=>
  obtain⟨t,rfl⟩:=rx
  cases y with
  |non=>cases ry;exact PySem.EqNone.ne_int_none (br I q (by simp))
  |int j=>obtain⟨t',rfl⟩:=ry;exact ne_int (br I q (congrArg not wY))
  |str j=>obtain⟨t',rfl⟩:=ry;exact PySem.EqMixed.ne_int_str (br I q (by simp))
  |_=>exact absurd (show false=true from hs) Bool.false_ne_true
 |str i=>
  obtain⟨t,rfl⟩:=rx
  cases y with
  |non=>cases ry;exact PySem.EqNone.ne_str_none (br I q (by simp))
  |bl j=>cases ry;exact PySem.EqMixed.ne_str_bool (br I q (by simp))
  |int j=>obtain⟨t',rfl⟩:=ry;exact PySem.EqMixed.ne_str_int (br I q (by simp))
  |str j=>obtain⟨t',rfl⟩:=ry;exact ne_str (br I q (congrArg not wX))
  |_=>exact absurd (show false=true from hs) Bool.false_ne_true
 |byt i=>
  obtain⟨t,rfl⟩:=rx
  cases y with
  |byt j=>obtain⟨t',rfl⟩:=ry;exact PySem.W.ne_bytes (br I q (congrArg not wZ))
  |_=>exact absurd (show false=true from hs) Bool.false_ne_true
 |_=>cases y <;> exact absurd (show false=true from hs) Bool.false_ne_true
theorem Ih:OpR X (compareOp .Lt) (rI0 fun i j=>.bl (decide (i<j))):=oW fun _ _ _ _ _ _ _ q=>lt_int q
theorem Ii:OpR X (compareOp .LtE) (rI0 fun i j=>.bl (decide (i<=j))):=oW fun _ _ _ _ _ _ _ q=>le_int q
theorem Ij:OpR X (compareOp .Gt) (rI0 fun i j=>.bl (decide (j<i))):=oW fun _ _ _ _ _ _ _ q=>gt_int q
theorem Ik:OpR X (compareOp .GtE) (rI0 fun i j=>.bl (decide (j<=i))):=oW fun _ _ _ _ _ _ _ q=>ge_int q
theorem op_in_str:OpR X (compareOp .In) (fun x y H Q=>∃i j,x=.str i/\y=.str j/\Q (.bl (!(Builtin.Str.occurrences j i 0 j.length 1).isEmpty)) H):=by
 intro pins s σ H x y v u Q I rx ry h;obtain⟨i,j,rfl,rfl,q⟩:=h;obtain⟨t,rfl⟩:=rx;obtain⟨t',rfl⟩:=ry;exact in_str (br I q rfl)
theorem Gx:OpR X (compareOp .Is) (fun x y H Q=>y=.non/\Q (.bl (decide (x=.non))) H):=by
 intro pins s σ H x y v u Q I rx ry h;obtain⟨rfl,q⟩:=h;cases ry;refine is_none_gen (br I q ?_)
 cases x <;> first
  |(cases rx;rfl)
  |(obtain⟨t,rfl⟩:=rx;rfl)
theorem op_notN:OpR X (compareOp .IsNot) (fun x y H Q=>y=.non/\Q (.bl (!decide (x=.non))) H):=by
 intro pins s σ H x y v u Q I rx ry h;obtain⟨rfl,q⟩:=h;cases ry;refine isnot_none_gen (br I q ?_)
 cases x <;> first
  |(cases rx;rfl)
  |(obtain⟨t,rfl⟩:=rx;rfl)
theorem op_notin_str:OpR X (compareOp .NotIn) (fun x y H Q=>∃i j,x=.str i/\y=.str j/\Q (.bl (!(!(Builtin.Str.occurrences j i 0 j.length 1).isEmpty))) H):=by
 intro pins s σ H x y v u Q I rx ry h;obtain⟨i,j,rfl,rfl,q⟩:=h;obtain⟨t,rfl⟩:=rx;obtain⟨t',rfl⟩:=ry;exact notIn_str (br I q rfl)
theorem OpR.or(h:OpR X f r)(h':OpR X f r'):OpR X f (fun x y H Q=>r x y H Q\/r' x y H Q):=by
 intro pins s σ H x y v u Q I rx ry q
 rcases q with q|q
 .exact h pins s σ H x y v u Q I rx ry q
 .exact h' pins s σ H x y v u Q I rx ry q
theorem xI(b:Expr)(h:op≠.In:=by decide)(h2:op≠.NotIn:=by decide):behindInMarks op b=false:=by
 have e1:(op == CmpOp.In)=false:=by cases op <;> first|rfl|exact absurd rfl h
 have e2:(op == CmpOp.NotIn)=false:=by cases op <;> first|rfl|exact absurd rfl h2
 cases b <;> simp[behindInMarks,e1,e2]
theorem Em(ho:OpR X (compareOp op) r)(ha:PE X a ta)(hb:PE X b tb)(hm:behindInMarks op b=false):PE X (.Compare a [op] [b] pos) (tOp r ta tb):=by
 intro pins s σ H Q I h;exact wpAny_Compare1 (sE ha hb I h fun v u s2 x y H2 I2 rx ry q=>ho pins s2 σ H2 x y v u Q I2 rx ry q) hm
def yA(t:TE):TT:=fun σ H Q=>t σ H fun x H'=>∃k,x=.bl k/\Q k H'
theorem Ec(ho:OpR X (compareOp op) r)(ha:PE X a ta)(hb:PE X b tb)(hm:behindInMarks op b=false):PT X (.Compare a [op] [b] pos) (yA (tOp r ta tb)):=by
 intro pins s σ H Q I h
 refine wpAny_isTrue_Compare1 (thn (ha pins s σ H _ I h) fun v s1 ⟨x,H1,I1,r1,q1⟩=>thn (hb pins s1 σ H1 _ I1 q1) fun u s2 ⟨y,H2,I2,r2,q2⟩=>
  thn (ho pins s2 σ H2 x y v u _ I2 r1 r2 q2) fun c s3 ⟨z,H3,I3,r3,k,e,q3⟩=>?_) hm
 subst e;cases r3;exact wpAny_truthy_bool ⟨H3,I3,q3⟩
def qZ(r r':R2)(ta tb tc:TE):TE:=fun σ H Q=>ta σ H fun x H1=>tb σ H1 fun y H2=>r x y H2 fun z H3=>∃k,z=.bl k /\
 (if k=true then tc σ H3 fun w' H4=>r' y w' H4 Q else Q (.bl false) H3)
theorem CL(ho:OpR X (compareOp op) r)(ho':OpR X (compareOp op') r')(ha:PE X a ta)(hb:PE X b tb)(hc:PE X c tc)
  (hm:lastMarks [op,op'] [b,c]=false:=by with_unfolding_all rfl):PE X (.Compare a [op,op'] [b,c] pos) (qZ r r' ta tb tc):=by
 intro pins s σ H Q I h
 refine Compare_chain (thn (ha pins s σ H _ I h) fun v s1 ⟨x,H1,I1,r1,q1⟩=>chain_link (thn (hb pins s1 σ H1 _ I1 q1) fun u s2 ⟨y,H2,I2,r2,q2⟩=>
  thn (ho pins s2 σ H2 x y v u _ I2 r1 r2 q2) fun d s3 ⟨z,H3,I3,r3,k,e,q3⟩=>?_)) hm
 subst e;cases r3;refine wpAny_truthy_bool ?_
 cases k with
 |false=>exact ite_ff ⟨.bl false,H3,I3,rfl,q3⟩
 |true=>exact ite_tt (chain_last (thn (hc pins s3 σ H3 _ I3 q3) fun w' s4 ⟨z',H4,I4,r4,q4⟩=>ho' pins s4 σ H4 y z' u w' Q I4 r2 r4 q4))
theorem Cy(ho:OpR X (compareOp op) r)(ho':OpR X (compareOp op') r')(ha:PE X a ta)(hb:PE X b tb)(hc:PE X c tc)
  (hm:lastMarks [op,op'] [b,c]=false:=by with_unfolding_all rfl):PT X (.Compare a [op,op'] [b,c] pos) (yA (qZ r r' ta tb tc)):=by
 intro pins s σ H Q I h
 refine isTrue_chain (thn (ha pins s σ H _ I h) fun v s1 ⟨x,H1,I1,r1,q1⟩=>test_link (thn (hb pins s1 σ H1 _ I1 q1) fun u s2 ⟨y,H2,I2,r2,q2⟩=>
  thn (ho pins s2 σ H2 x y v u _ I2 r1 r2 q2) fun d s3 ⟨z,H3,I3,r3,k,e,q3⟩=>?_)) hm
 subst e;cases r3;refine wpAny_truthy_bool ?_
 cases k with
 |false=>
  obtain⟨k',e',q'⟩:=q3;cases e';exact ite_ff ⟨H3,I3,q'⟩
 |true=>
  refine ite_tt (test_last (thn (hc pins s3 σ H3 _ I3 q3) fun w' s4 ⟨z',H4,I4,r4,q4⟩=>thn (ho' pins s4 σ H4 y z' u w' _ I4 r2 r4 q4) fun d' s5 ⟨z2,H5,I5,r5,k2,e2,q5⟩=>?_));subst e2;cases r5;exact wpAny_truthy_bool ⟨H5,I5,q5⟩
def sG(K:Frag)(x:V)(H:Hp)(k:Bool):Prop:=
 match x with
 |.non=>k=false
 |.bl b=>k=b
 |.int i=>k=(i != 0)
 |.str y=>y.length<=sizeLine/\k=((y.length:Int) != 0)
 |.byt y=>y.size<=sizeLine/\k=((y.size:Int) != 0)
 |.ref p=>(∃xs,SqL K H p xs/\k = !xs.isEmpty)\/(∃xs,SqT K H p xs/\k = !xs.isEmpty)\/∃kvs,H p=some (.dK kvs)/\k = !kvs.isEmpty
 |_=>False
theorem Bb{κ:Type}{kvs:List (κ×V)}{vs:List (κ×Value)}(r:KV kvs vs):(!vs.isEmpty) = !kvs.isEmpty:=by cases r <;> rfl
theorem tN(r:Vals xs its):(!its.toArray.isEmpty) = !xs.isEmpty:=by cases r <;> simp
theorem iK:(sizeLine:Nat)<2^63:=by rw[sizeLine_eq];decide
theorem F0:JK X (fun x H Q=>∃k,sG X.K x H k/\Q k H):=by
 intro pins s σ H x v Q I rx h;obtain⟨k,e,q⟩:=h;have hl:=iK;have hs:sizeLine=16777216:=sizeLine_eq
 cases x with
 |non=>
  cases rx;have e':k=false:=e;subst e';exact truthy_none ⟨H,I,q⟩
 |bl b=>
  cases rx;have e':k=b:=e;subst e';exact wpAny_truthy_bool ⟨H,I,q⟩
 |int i=>
  obtain⟨t,rfl⟩:=rx;have e':k=(i != 0):=e;subst e';exact PySem.P.truthy_int ⟨H,I,q⟩
 |str y=>
  obtain⟨t,rfl⟩:=rx;obtain⟨hy,e'⟩:y.length<=sizeLine/\k=((y.length:Int) != 0):=e;subst e';exact PySem.P.truthy_str (by omega) ⟨H,I.tok _,q⟩
 |byt y=>
  obtain⟨t,rfl⟩:=rx;obtain⟨hy,e'⟩:y.size<=sizeLine/\k=((y.size:Int) != 0):=e;subst e';exact PySem.W.truthy_bytes (by omega) ⟨H,I.tok _,q⟩
 |ref p=>
  cases rx;have e':(∃xs,SqL X.K H p xs/\k = !xs.isEmpty)\/(∃xs,SqT X.K H p xs/\k = !xs.isEmpty)\/∃kvs,H p=some (.dK kvs)/\k = !kvs.isEmpty:=e
  rcases e' with⟨xs,hx,e'⟩|⟨xs,hx,e'⟩|⟨kvs,hx,e'⟩
  .subst e'
   obtain⟨its,r,pl,hz⟩:=I.list hx;have hlen:=r.length;exact wpAny_truthy_list pl.isList (by simp only[List.size_toArray];omega) ⟨H,I.tok _,by rw[tN r];exact q⟩
  .subst e'
   obtain⟨its,r,pl,hz⟩:=I.tuple hx;have hlen:=r.length;exact truthy_tuple pl (by simp only[List.size_toArray];omega) ⟨H,I.tok _,by rw[tN r];exact q⟩
  .subst e'
   obtain⟨hz,hS,vs,r,m⟩:kvs.length<=sizeLine/\(p == sysModules)=false/\∃vs,KV kvs vs/\s.heap.DictOf (bx X.prog X.w) p vs:=I.hok p _ hx;have hlen:kvs.length=vs.length:=Paired.length r;exact wpAny_truthy_dict hS m (by omega) ⟨H,I.tok _,by rw[Bb r];exact q⟩
 |_=>exact(show False from e).elim
theorem Cw(ha:PE X a ta)(he:∀whole,isTrue a X.env whole=(do let v ←whole;standAt a.pos;holding [v] (truthy v))) :
  PT X a (fun σ H Q=>ta σ H fun x H'=>∃k,sG X.K x H' k/\Q k H'):=by
 intro pins s σ H Q I h;exact isTrue_plain (thn (ha pins s σ H _ I h) fun v s1 ⟨x,H1,I1,r1,q1⟩=>F0 pins s1 σ H1 x v Q I1 r1 q1) (he _)
theorem op_add_str:OpR X (binaryOp .Add) (fun x y H Q=>∃i j,x=.str i/\y=.str j/\i.length+j.length<=sizeLine/\Q (.str (i++j)) H):=by
 intro pins s σ H x y v u Q I rx ry h;obtain⟨i,j,rfl,rfl,hz,q⟩:=h;obtain⟨t,rfl⟩:=rx;obtain⟨t',rfl⟩:=ry;exact add_str (fun t' tk=>⟨.str (i++j),H,I.tok _,⟨_,rfl⟩,q⟩) hz
theorem vals1(r:Vals [x] us):∃u,us=[u]/\RelV x u:=by
 cases r with
 |cons r1 r2=>cases r2;exact⟨_,rfl,r1⟩
theorem vals2(r:Vals [x,y] us):∃u w',us=[u,w']/\RelV x u/\RelV y w':=by
 cases r with
 |cons r1 r2=>
  cases r2 with
  |cons r3 r4=>cases r4;exact⟨_,_,rfl,r1,r3⟩
theorem DB:CallR X (.builtin "abs") (fun xs H Q=>∃i,xs=[.int i]/\Q (.int (if i<0 then -i else i)) H):=by
 intro pins s σ H xs us Q I r h;obtain⟨i,rfl,q⟩:=h;obtain⟨u,rfl,t,rfl⟩:=vals1 r;exact call_abs_int fun u tk=>⟨.int (if i<0 then -i else i),H,I.tok _,⟨_,rfl⟩,q⟩
theorem call_int1:CallR X (.type "int") (fun xs H Q=>(∃i,xs=[.int i]/\Q (.int i) H)\/∃k,xs=[.bl k]/\Q (.int (if k then 1 else 0)) H):=by
 intro pins s σ H xs us Q I r h
 rcases h with⟨i,rfl,q⟩|⟨k,rfl,q⟩
 .obtain⟨u,rfl,t,rfl⟩:=vals1 r
  exact call_int_int ⟨.int i,H,I,⟨_,rfl⟩,q⟩
 .obtain⟨u,rfl,r1⟩:=vals1 r
  cases r1;exact call_int_bool ⟨.int (if k then 1 else 0),H,I.tok _,⟨_,rfl⟩,q⟩
theorem AD:CallR X (.type "str") (fun xs H Q=>∃i,xs=[.int i]/\i.natAbs.log2<1920/\Q (.str (toString i)) H):=by
 intro pins s σ H xs us Q I r h;obtain⟨i,rfl,hz,q⟩:=h;obtain⟨u,rfl,t,rfl⟩:=vals1 r;exact PySem.P.str_of_int hz ⟨.str _,H,I.tok _,⟨_,rfl⟩,q⟩
end
structure ObjM(h:Heap)(x dx C:Addr)(mA:Str->Option Value):Prop where
 obj:h.get? x=some (PySem.W.instObj C dx)
 ns:h.Ns1 dx mA
 ne:dx≠x
theorem BH{h:Heap}{mA:Str->Option Value}(n:h.Ns1 dx mA):∃od,h.get? dx=some od/\∀name,PySem.W.lookIn name od=some (mA name):=by
 obtain⟨o,es,ep,ho,hd,hk,_,hm⟩:=n;refine⟨o,ho,fun name=>?_⟩;have e:=hm name;unfold nsFind findBy at e;rw[←Array.find?_toList] at e;unfold PySem.W.lookIn;rw[hd];dsimp only;split
 .rename_i y q
  rw[q] at e;exact congrArg some e
 .rename_i q
  rw[q] at e
  have a:es.toList.any (·.refKey)=false:=by
   rw[List.any_eq_false];intro y hy;obtain⟨z,t,hkey⟩:=hk y (Array.mem_toList_iff.mp hy);simp[DictEntry.refKey,hkey]
  have a':¬es.toList.any (·.refKey)=true:=by rw[a];exact Bool.false_ne_true
  rw[if_neg a'];exact congrArg some e
theorem ObjM.look(I:ObjM h x dx C mA):∃od,PySem.W.InstAt h x (PySem.W.instObj C dx) C (some od)/\∀name,PySem.W.lookIn name od=some (mA name):=
 let ⟨od,ho,hl⟩:=BH I.ns
 ⟨od,⟨I.obj,rfl,rfl,ho⟩,hl⟩
section
variable {prog:Program}{w:World}{A:Around}{E:Value->Shared->Prop}{s:Shared}{K:Frag}{x dx C f:Addr}{mA:Str->Option Value}{name:Str}{v:Value}
end
theorem RelO.some_of(r:RelO (some v) o):∃u,o=some u/\RelV v u:=by
 cases o with
 |none=>exact(show False from r).elim
 |some u=>exact⟨u,rfl,r⟩
theorem RelO.none_of(r:RelO none o):o=none:=by
 cases o with
 |none=>rfl
 |some u=>exact(show False from r).elim
section
variable {P:Program}{w:World}{H H':Hp}{h h':Heap}{a C dx:Addr}{fs fs':List (Str×V)}
theorem EO(hok:HOk P w H h)(e:H a=some (.ins C dx fs)):∃mA,ObjM h a dx C mA/\(∀f,RelO (fs.lookup f) (mA f))/\PySem.Within mA (fs.map (·.1))/\fs.length<=1000/\H dx=some (.own a):=by
 obtain⟨d,z,ne,ob,mA,n,r,q⟩:=(show ObjOk P w H h a (.ins C dx fs) from hok a _ e);exact⟨mA,⟨ob,n,ne⟩,r,q,z,d⟩
end
structure Cls(K:Frag)(C:Addr):Prop where
 pg:PySem.W.plainGet K C Str.empty=true
 hd:PySem.W.hasDictIn K C=true
 po:PySem.W.plainOver K C=true
 sa:PySem.W.findIn K (.ref C) "__setattr__"=some (some (.builtin "object.__setattr__"))
theorem Cls.get{K:Frag}{C:Addr}(c:Cls K C)(f:Str):PySem.W.plainGet K C f=true:=c.pg
structure Con(K:Frag)(C:Addr)(f:Str)(v:V)(u:Value):Prop where
 at_:PySem.W.findIn K (.ref C) f=some (some u)
 rel:RelV v u
 get:PySem.W.specialIn K u "__get__"=some none
 cp:PySem.W.copiedNames.contains f=false
structure Meth(K:Frag)(C:Addr)(m:Str)(f:Addr):Prop where
 at_:PySem.W.findIn K (.ref C) m=some (some (.ref f))
 fn:PySem.W.isFn K (.ref f)=true
 kp:PySem.W.keepIn K (.ref f)=true
section
variable {X:Cx}{pins:List (Addr×Obj)}{σ:St}{H:Hp}{s:Shared}{a C dx:Addr}{fs:List (Str×V)}{f:Str}{v:V}{A:Around}{E:Value->Shared->Prop}
end
section
variable {X:Cx}{o e value:Expr}{f:Str}{pos pos' tpos:Pos}{ta tv:TE}
end
section
variable {X:Cx}{pins:List (Addr×Obj)}{σ:St}{H:Hp}{s:Shared}{A:Around}{E:Value->Shared->Prop}{Q:Value->Shared->Prop}{c:Value}{b:Bool}
inductive TyOf(K:Frag)(H:Hp):V->Value->Prop where
 |non:TyOf K H .non (.type "NoneType")
 |bl (x:Bool):TyOf K H (.bl x) (.type "bool")
 |int (i:Int):TyOf K H (.int i) (.type "int")
 |str (x:Str):TyOf K H (.str x) (.type "str")
 |flt (x:UInt64):TyOf K H (.flt x) (.type "float")
 |lst {a:Addr}{xs:List V} (e:H a=some (.lst xs)):TyOf K H (.ref a) (.type "list")
 |frz {a:Addr}{o:Obj}{xs:List V} (e:H a=some (.frz o (.lst xs))):TyOf K H (.ref a) (.type "list")
 |tup {a:Addr}{xs:List V} (e:H a=some (.tup xs)):TyOf K H (.ref a) (.type "tuple")
 |dK {a:Addr}{kvs:List (Key×V)} (e:H a=some (.dK kvs)):TyOf K H (.ref a) (.type "dict")
 |dT {a:Addr}{kvs:List (List Key×V)} (e:H a=some (.dT kvs)):TyOf K H (.ref a) (.type "dict")
 |ins {a C dx:Addr}{fs:List (Str×V)} (e:H a=some (.ins C dx fs)) (cl:Cls K C) (ha:PySem.W.findIn K (.ref C) "__class__"=some (some (.builtin "object.__class__")))
   (hn:PySem.W.specialIn K (.builtin "object.__class__") "__get__"=some (some (.builtin "getset_descriptor.__get__"))) (htk:PySem.W.takesIn K (.builtin "object.__class__")=some true)
   (hm:PySem.W.mroIn K C (.type "object")=some true):TyOf K H (.ref a) (.ref C)
theorem mi(I:Inv X pins σ H s)(rx:RelV x u)(ty:TyOf X.K H x t)(e:PySem.W.kitOne X.K t c=some b)(h:∀tk,Q (.bool b) { s with toks:=tk }) :
  wpAny (model X.prog X.w) A (call (.builtin "isinstance") [u,c]) Q E s:=by
 cases ty with
 |non=>cases (show u=Value.none from rx);exact PySem.W.kia_one PySem.W.kitx_none I.kIn True.intro e (fun z=>nomatch z) h
 |bl y=>cases (show u=Value.bool y from rx);exact PySem.W.kia_one PySem.W.kitx_bool I.kIn True.intro e (fun z=>nomatch z) h
 |int i=>obtain⟨t,q⟩:=(show ∃t,u=Value.int i t from rx);cases q;exact PySem.W.kia_one PySem.W.kitx_int I.kIn True.intro e (fun z=>nomatch z) h
 |str y=>obtain⟨t,q⟩:=(show ∃t,u=Value.str y t from rx);cases q;exact PySem.W.kia_one PySem.W.kitx_str I.kIn True.intro e (fun z=>nomatch z) h
 |flt y=>obtain⟨t,q⟩:=(show ∃t,u=Value.float y t from rx);cases q;exact PySem.W.kia_one PySem.W.kitx_float I.kIn True.intro e (fun z=>nomatch z) h
 |@lst a xs ea=>
  cases (show u=Value.ref a from rx);obtain⟨_,_,n,_,h1⟩:=(show ObjOk X.prog X.w H s.heap a (.lst xs) from I.hok a _ ea);exact PySem.W.kia_one PySem.W.kitx_list I.kIn ⟨_,h1,rfl⟩ e (fun z=>nomatch z) h
 |@frz a ob xs ea=>
  cases (show u=Value.ref a from rx);obtain⟨_,_,_,n,_,h1⟩:=(show ObjOk X.prog X.w H s.heap a (.frz ob (.lst xs)) from I.hok a _ ea);exact PySem.W.kia_one PySem.W.kitx_list I.kIn ⟨_,h1,rfl⟩ e (fun z=>nomatch z) h
 |@tup a xs ea=>
  cases (show u=Value.ref a from rx);obtain⟨_,_,_,p⟩:=(show ObjOk X.prog X.w H s.heap a (.tup xs) from I.hok a _ ea);obtain⟨o,h1,h2,_⟩:=p;exact PySem.W.kia_one PySem.W.kitx_tuple I.kIn ⟨o,h1,h2⟩ e (fun z=>nomatch z) h
 |@dK a kvs ea=>
  cases (show u=Value.ref a from rx);obtain⟨_,_,vs,_,p⟩:=(show ObjOk X.prog X.w H s.heap a (.dK kvs) from I.hok a _ ea);obtain⟨o,es,ep,h1,h2,_⟩:=p;exact PySem.W.kia_one PySem.W.kitx_dict I.kIn ⟨o,h1,h2.1⟩ e (fun z=>nomatch z) h
 |@dT a kvs ea=>
  cases (show u=Value.ref a from rx);obtain⟨_,_,xs,_,o,es,ep,h1,h2,_⟩:=(show ObjOk X.prog X.w H s.heap a (.dT kvs) from I.hok a _ ea);exact PySem.W.kia_one PySem.W.kitx_dict I.kIn ⟨o,h1,h2.1⟩ e (fun z=>nomatch z) h
 |@ins a C dx fs ea cl ha hn htk hm=>
  cases (show u=Value.ref a from rx);obtain⟨mA,O,_⟩:=EO I.hok ea;obtain⟨od,J,_⟩:=O.look;exact PySem.W.kia_one (PySem.W.kitx_own (cl.get _) cl.hd ha hn htk hm) I.kIn J e (fun z=>nomatch z) h
end
structure Room(k:Nat)(A:Around):Prop where
 hd:A.handled=none
 dp:A.depth+3*k+5<recursionLimit
 un:A.units+16*k+200<cLine
 gd:A.guards=some []
theorem Room.mono(r:Room k A)(h:j<=k):Room j A:=⟨r.hd,by have:=r.dp;omega,by have:=r.un;omega,r.gd⟩
theorem Room.deeper(r:Room (k+1) A)(env:Env):Room k (A.deeper env):=⟨r.hd,by have:=r.dp;show A.depth+1+3*k+5<_;omega,by have:=r.un;show A.units+3+16*k+200<_;omega,r.gd⟩
theorem Room.depth(r:Room k A):A.depth<recursionLimit:=by have:=r.dp;omega
def oV:TA:=fun _ H Q=>Q [] H
def oq(ta:TE)(tr:TA):TA:=fun σ H Q=>ta σ H fun x H1=>tr σ H1 fun xs H2=>Q (x::xs) H2
section
variable {X:Cx}{e:Expr}{es:List Expr}{te:TE}{t:TA}{pos:Pos}
theorem dA:PA X [] oV:=fun _ _ _ _ H Q I h=>Calls.spliced_nil ⟨[],H,I,.nil,h⟩
theorem cX(ha:PE X e te)(hr:PA X es t)(hs:starEach (e::es) X.env=(false,eval e X.env)::starEach es X.env:=by rfl):PA X (e::es) (oq te t):=by
 intro pos pins s σ H Q I h;rw[hs];show wpAny _ _ (spliced ((false,eval e X.env)::backTo pos (starEach es X.env))) _ _ s;refine Calls.spliced_cons (thn (ha pins s σ H _ I h) fun u s1 ⟨x,H1,I1,r1,q1⟩=>?_);exact thn (hr pos pins s1 σ H1 _ I1 q1) fun us s2 ⟨xs,H2,I2,r2,q2⟩=>⟨x::xs,H2,I2,.cons r1 r2,q2⟩
def Jk(t:TA):TE:=fun σ H Q=>t σ H fun xs H1=>xs.length<=sizeLine/\∀p,H1 p=none->Q (.ref p) (upd H1 p (.tup xs))
def Jo(t:TA):TE:=fun σ H Q=>t σ H fun xs H1=>xs.length<=sizeLine/\∀p,H1 p=none->Q (.ref p) (upd H1 p (.lst xs))
theorem Gk{x1}(h:PA X es t):PE X (.Tuple es x1 pos) (Jk t):=by
 intro pins s σ H Q I hq;refine wpAny_Tuple_spliced (thn (h pos pins s σ H _ I hq) fun us s1 ⟨xs,H1,I1,r,z,q⟩=>⟨by rw[←r.length];exact z,?_⟩);have hf:H1 s1.heap.objs.size=none:=I1.hok.fresh (Nat.le_refl _);refine⟨.ref s1.heap.objs.size,upd H1 s1.heap.objs.size (.tup xs),I1.laid (t':=s1.toks) (fun b u e=>Heap.get?_push_of_some _ e) (Nat.le_refl _) ?_,rfl,q _ hf⟩;exact⟨z,us,r,⟨_,Heap.get?_push_size _ rfl,rfl,_,rfl⟩⟩
theorem rl(h:PA X es t):PE X (.List es pos) (Jo t):=by
 intro pins s σ H Q I hq;refine wpAny_List_spliced (thn (h pos pins s σ H _ I hq) fun us s1 ⟨xs,H1,I1,r,z,q⟩=>⟨by rw[←r.length];exact z,?_⟩);have hf:H1 s1.heap.objs.size=none:=I1.hok.fresh (Nat.le_refl _);refine⟨.ref s1.heap.objs.size,upd H1 s1.heap.objs.size (.lst xs),I1.laid (t':=s1.toks) (fun b u e=>Heap.get?_push_of_some _ e) (Nat.le_refl _) ?_,rfl,q _ hf⟩;exact⟨z,us,0,r,Heap.get?_push_size _ rfl⟩
end
abbrev Sp:=List V->Hp->VK->XK->Prop
abbrev CXT:=List Env->Hp->Shared->XK->Value->Shared->Prop
structure Env0(P:Program)(w:World)(K:Frag)(mg:Str->Option Value)(base:Heap)(A:Around)(outer:List Env)(s:Shared)(H:Hp):Prop where
 frames:A.frames=some outer
 mod:Mod K mg base
 bs:∀b o,base.get? b=some o->s.heap.get? b=some o/\H b=none
 bsz:base.objs.size<=s.heap.objs.size
 funs:s.heap.FunFrames base outer
 frf:∀b∈frs outer,H b=none
 hok:HOk P w H s.heap
 bare:AllBare s.gens
def CE(outer:List Env)(P:Program)(w:World)(H:Hp)(s:Shared)(Q:VK)(u:Value)(s':Shared):Prop:=∃v H',s'.os=s.os/\AllBare s'.gens/\Un (frs outer) [] H H' s.heap s'.heap/\HOk P w H' s'.heap/\RelV v u/\Q v H'
def CR(CX:CXT)(outer:List Env)(P:Program)(w:World)(H:Hp)(s:Shared)(Q:VK)(E:XK)(r:Result)(s':Shared):Prop:=
 match r with
 |.ok (.ret u)=>CE outer P w H s Q u s'
 |.ok _=>False
 |.error e=>CX outer H s E e s'
structure FnOk(P:Program)(w:World)(K:Frag)(mg:Str->Option Value)(base:Heap)(CX:CXT)(k:Nat)(f:Addr)(fd:FuncData)(ps:List Str)(sp:Sp):Prop where
 len:∀vs H Q E,sp vs H Q E->vs.length=ps.length
 run:∀(A:Around) (outer:List Env) (s:Shared) (H:Hp) (args:Args) (us:List Value) (vs:List V) (Q:VK) (E:XK),Room k A->Env0 P w K mg base A outer s H->BindsTo s fd args (ps.zip us)->Vals vs us->sp vs H Q E ->
  codeAny (model P w) A (.call (.ref f) args) (CR CX outer P w H s Q E) s
section
variable {X:Cx}{pins:List (Addr×Obj)}{σ:St}{H:Hp}{s s':Shared}
theorem Inv.env0(I:Inv X pins σ H s):Env0 X.prog X.w X.K X.mg X.base X.A X.stack s H:=⟨I.ok.frames,I.ok.mod,I.bs,Nat.le_trans I.ok.bsz I.sz,I.stack,I.stkFree,I.hok,I.bare⟩
theorem Inv.after(I:Inv X pins σ H s)(h:CE X.stack X.prog X.w H s Q u s'):EP X pins σ Q u s':=by
 obtain⟨v,H',os,bare,un,hok,r,q⟩:=h;obtain⟨hh,g,d,t,os'⟩:=s';obtain rfl:os'=s.os:=os;exact⟨v,H',I.call (h':=hh) (g':=g) (d':=d) (t':=t) (ch:=[]) un hok bare (fun b z=>absurd z (by simp)),r,q⟩
end
def rP(sp:Sp)(dvs:List V)(E:XK)(t:TA):TE:=fun σ H Q=>t σ H fun vs H1=>sp (vs++dvs) H1 Q E
def Binds(K:Frag)(fd:FuncData)(ps:List Str)(ds:List Value):Prop:=∀(s:Shared) (us:List Value),K.In s.heap->(us++ds).length=ps.length->BindsTo s fd ⟨us,[]⟩ (ps.zip (us++ds))
theorem Binds.all{K:Frag}{fd:FuncData}{ps:List Str}(h:∀us:List Value,us.length=ps.length->bindArgs fd ⟨us,[]⟩=pure (ps.zip us)):Binds K fd ps []:=fun s us _ hl=>by
 rw[List.append_nil] at hl ⊢;exact .of_eq (h us hl)
def rM(CX:CXT)(X:Cx)(E:XK):Prop:=∀(pins:List (Addr×Obj)) (σ:St) (H:Hp) (s:Shared) (e:Value) (s':Shared),Inv X pins σ H s->CX X.stack H s E e s'->X.xe e s'
section
variable {X:Cx}{CX:CXT}{k:Nat}{f C:Addr}{fd:FuncData}{ps:List Str}{sp:Sp}{dvs:List V}{ds:List Value}{E:XK}{x m:Str}{p pos apos:Pos}{e o:Expr}{es:List Expr}{ta:TE}{t:TA}
theorem Gc(F:FnOk X.prog X.w X.K X.mg X.base CX k f fd ps sp)(hr:Room k X.A)(hb:Binds X.K fd ps ds)(hd:Vals dvs ds)(hx:rM CX X E)
  (I:Inv X pins σ H s) (r:Vals vs us) (h:sp (vs++dvs) H Q E):wpAny (model X.prog X.w) X.A (call (.ref f) us) (EP X pins σ Q) X.xe s:=by
 have r2:Vals (vs++dvs) (us++ds):=r.append hd
 have hl:(us++ds).length=ps.length:=by rw[←r2.length];exact F.len _ _ _ _ h
 refine wpAny_call (codeAny_mono (F.run X.A X.stack s H ⟨us,[]⟩ (us++ds) (vs++dvs) Q E hr I.env0 (hb s us I.kIn hl) r2 h) fun r s' hq=>?_)
 cases r with
 |error e=>exact hx pins σ H s e s' I hq
 |ok fl=>
  cases fl with
  |ret u=>exact I.after hq
  |next=>exact False.elim hq
  |brk=>exact False.elim hq
  |cont=>exact False.elim hq
theorem En(F:FnOk X.prog X.w X.K X.mg X.base CX k f fd ps sp)(hr:Room k X.A)(hg:Gl X x)(hm:X.mg x=some (.ref f))(hk:PySem.W.keepIn X.K (.ref f)=true)(hb:Binds X.K fd ps ds)(hd:Vals dvs ds)(hx:rM CX X E)
  (ha:PA X (e::es) t) (hdb:(x == ("__debug__" : Str))=false:=by decide) (he:starEach (e::es) X.env=(false,eval e X.env)::starEach es X.env:=by rfl) (hpl:(backTo pos (starEach es X.env)).any (·.1)=false:=by rfl) :
  PE X (.Call (.Name x p) (e::es) [] pos) (rP sp dvs E t):=by
 intro pins s σ H Q I h;refine wpAny_Call_Name_kw (kQ I hg hm ?_ hdb);refine PySem.W.callWith_K (h₀:=X.base) I.ok.mod.kin hk (thn (ha pos pins s σ H _ I h) fun us s1 ⟨vs,H1,I1,r,q⟩=>⟨I1.kIn,?_⟩) he hpl;exact Gc F hr hb hd hx I1 r q
structure Mk(K:Frag)(C f:Addr):Prop where
 makes:PySem.W.makesIn K C=true
 init:PySem.W.findIn K (.ref C) "__init__"=some (some (.ref f))
 fn:PySem.W.isFn K (.ref f)=true
 kp:PySem.W.keepIn K (.ref C)=true
end
section
variable {X:Cx}{CX:CXT}{k:Nat}{f C:Addr}{fd:FuncData}{ps ks:List Str}{sp:Sp}{E:XK}{x m:Str}{p pos apos kpos:Pos}{e o:Expr}{es:List Expr}{kws:List Keyword}{te ta:TE}{t tk:TA}{nm:Option Str}
structure KBinds(K:Frag)(fd:FuncData)(ps ks:List Str)(g:List Value->List Value->List Value)(gV:List V->List V->List V):Prop where
 to:∀(s:Shared) (us ws:List Value),K.In s.heap->(g us ws).length=ps.length->BindsTo s fd ⟨us,ks.zip ws⟩ (ps.zip (g us ws))
 rel:∀{vs:List V}{us:List Value}{zs:List V}{ws:List Value},Vals vs us->Vals zs ws->Vals (gV vs zs) (g us ws)
variable {g:List Value->List Value->List Value}{gV:List V->List V->List V}
end
structure FnScope(N P:List Str)(sc:Scope):Prop where
 kind:sc.kind=.function
 co:sc.isCoroutine=false
 gen:sc.isGenerator=false
 nd:N.Nodup
 pre:N.take P.length=P
 par:∀x∈P,sc.names.lookup x=some .local\/sc.names.lookup x=some .cell
 nofree:∀y∈sc.names,y.2≠.free
theorem uH{kindOf:Str->Option NameKind}:∀{binds:List (Str×Value)}{m:Str->Option Value},(∀v,(x,v)∉binds)->bindL kindOf binds m x=m x
 |[],_,_=>rfl
 |(n,v)::r,m,h=>by
  unfold bindL;rw[uH fun w hw=>h w (List.mem_cons_of_mem _ hw)];split
  .have:x≠n:=by rintro rfl;exact h v List.mem_cons_self
   simp[this]
  .rfl
theorem uJ{kindOf:Str->Option NameKind}:∀{binds:List (Str×Value)}{m:Str->Option Value},(∀v,(x,v)∉binds)->bindC kindOf binds m x=m x
 |[],_,_=>rfl
 |(n,v)::r,m,h=>by
  unfold bindC;rw[uJ fun w hw=>h w (List.mem_cons_of_mem _ hw)];split
  .rfl
  .have:x≠n:=by rintro rfl;exact h v List.mem_cons_self
   simp[this]
theorem uI{kindOf:Str->Option NameKind}:∀{P:List Str}{vs:List Value}{i:Nat}{m:Str->Option Value},P.Nodup->P[i]? = some x->vs[i]? = some v->kindOf x=some .local ->
  bindL kindOf (P.zip vs) m x=some v
 |[],_,_,_,_,h,_,_=>by simp at h
 |_::_,[],_,_,_,_,h,_=>by simp at h
 |p::P,w::vs,0,m,nd,h1,h2,hk=>by
  simp at h1 h2;subst h1;subst h2;show bindL kindOf ((p,w)::P.zip vs) m p=_;unfold bindL;rw[uH fun v hv=>(List.nodup_cons.mp nd).1 (List.of_mem_zip hv).1,if_pos hk];simp
 |p::P,w::vs,i+1,m,nd,h1,h2,hk=>by
  show bindL kindOf ((p,w)::P.zip vs) m x=_;unfold bindL;exact uI (i:=i) (List.nodup_cons.mp nd).2 (by simpa using h1) (by simpa using h2) hk
theorem uK{kindOf:Str->Option NameKind}:∀{P:List Str}{vs:List Value}{i:Nat}{m:Str->Option Value},P.Nodup->P[i]? = some x->vs[i]? = some v->kindOf x≠some .local ->
  bindC kindOf (P.zip vs) m x=some v
 |[],_,_,_,_,h,_,_=>by simp at h
 |_::_,[],_,_,_,_,h,_=>by simp at h
 |p::P,w::vs,0,m,nd,h1,h2,hk=>by
  simp at h1 h2;subst h1;subst h2;show bindC kindOf ((p,w)::P.zip vs) m p=_;unfold bindC;rw[uJ fun v hv=>(List.nodup_cons.mp nd).1 (List.of_mem_zip hv).1,if_neg hk];simp
 |p::P,w::vs,i+1,m,nd,h1,h2,hk=>by
  show bindC kindOf ((p,w)::P.zip vs) m x=_;unfold bindC;exact uK (i:=i) (List.nodup_cons.mp nd).2 (by simpa using h1) (by simpa using h2) hk
def start(N:List Str)(vs:List V):St:=vs.map some++List.replicate (N.length-vs.length) none
def cF(CX:CXT)(P:Program)(w:World)(K:Frag)(mg:Str->Option Value)(base:Heap)(N:List Str)(qual:Str)(scope:Scope)(f:Addr)(cd:Value)(A:Around)(outer:List Env)(s:Shared)(H:Hp)(E:XK):Cx where
 prog:=P
 w:=w
 K:=K
 mg:=mg
 base:=base
 A:=A.deeper (envOfC qual scope s.heap.objs.size f cd)
 N:=N
 s₀:=s
 H₀:=H
 env:=envOfC qual scope s.heap.objs.size f cd
 outer:=outer
 stack:=envOfC qual scope s.heap.objs.size f cd::outer
 ex:=[]
 calm:=true
 fn:=fun _=>true
 pn:=[]
 xe:=fun e s'=>wpAny (model P w) (A.deeper (envOfC qual scope s.heap.objs.size f cd)) (leaving (envOfC qual scope s.heap.objs.size f cd) e) (fun _ s''=>CX outer H s E e s'') (fun e' s''=>CX outer H s E e' s'') s'
theorem vB{sc:Scope}(h:sc.names.lookup x=some .cell):∃c,(cellsFrom n sc.names []).lookup x=some c:=by
 have q:=PySem.W.cellsFrom_some sc.names n [] (.inl h);exact Option.isSome_iff_exists.mp q
theorem BW{CX:CXT}{P:Program}{w:World}{K:Frag}{mg:Str->Option Value}{base:Heap}{N ps:List Str}{qual:Str}{scope:Scope}{f:Addr}{cd:Value}{A:Around}{outer:List Env}{s s1:Shared}{H:Hp}{E:XK}{us:List Value}{vs:List V}
  (S:FnScope N ps scope) (hd:A.handled=none) (e0:Env0 P w K mg base A outer s H) (hl:vs.length=ps.length) (r:Vals vs us)
  (x:InCallC s s.heap.objs.size (bindL (envOfC qual scope s.heap.objs.size f cd).kindOf (ps.zip us) fun _=>none) (cellsFrom (s.heap.objs.size+1) scope.names []) (bindC (envOfC qual scope s.heap.objs.size f cd).kindOf (ps.zip us) fun _=>none) s1) :
  Inv (cF CX P w K mg base N qual scope f cd A outer s H E) [] (start N vs) H s1:=by
 have hpl:ps.length<=N.length:=by have:=congrArg List.length S.pre;rw[List.length_take] at this;omega
 obtain⟨h1,tk,rfl,hk⟩:=x.done;have noA:∀b:Addr,b∉(cF CX P w K mg base N qual scope f cd A outer s H E).ex:=fun b z=>absurd (show b∈([]:List Addr) from z) (by simp)
 refine⟨⟨e0.mod,S.kind,rfl,rfl,Nat.le_refl _,fun y z c h1 h2=>?_,fun y hy=>?_,fun y c _ h=>?_,fun _=>hd,Around.frames_deeper e0.frames,.inr ⟨rfl,rfl⟩,fun b z=>absurd z (noA b),e0.bs,e0.bsz,fun b _ _=>noA b,fun b z=>absurd z (noA b),e0.funs,e0.frf⟩,
  rfl,e0.bare,Un.kept hk,⟨_,x.toInCall.ns,fun i y v h1 h2 h3=>?_⟩,fun y c h=>⟨_,x.cell y c h⟩,e0.hok.fresh (Nat.le_refl _),fun y c h=>?_,fun p hp=>absurd (show p∈([]:List (Addr×Obj)) from hp) (by simp),e0.hok.kept hk,?_⟩
 .exact name_of_addr x.apart (PySem.mem_of_lookup h1) (PySem.mem_of_lookup h2)
 .have hy:scope.names.lookup y=some .cell\/scope.names.lookup y=some .free:=hy
  rcases hy with hy|hy
  .exact vB hy
  .exact absurd rfl (S.nofree _ (PySem.mem_of_lookup hy))
 .exact Nat.le_of_lt (x.above y c (PySem.mem_of_lookup h))
 .have hi:i<vs.length:=by
   unfold start at h2
   by_cases hi:i<vs.length
   .exact hi
   .rw[List.getElem?_append_right (by simpa using hi)] at h2
    rw[List.getElem?_replicate] at h2
    split at h2 <;> cases h2
  have ha:vs[i]? = some v:=by
   unfold start at h2;rw[List.getElem?_append_left (by simpa using hi),List.getElem?_map] at h2
   cases e:vs[i]? with
   |none=>rw[e] at h2;cases h2
   |some a=>rw[e] at h2;cases h2;rfl
  obtain⟨u,hu,rv⟩:=r.get ha
  have hp:ps[i]? = some y:=by
   rw[←S.pre,List.getElem?_take_of_lt (by omega)];exact h1
  have ndP:ps.Nodup:=by rw[←S.pre];exact S.nd.sublist (List.take_sublist _ _)
  refine⟨u,rv,?_⟩
  rcases S.par y (List.mem_of_getElem? hp) with k|k
  .exact .inl ⟨k,uI ndP hp hu k⟩
  .obtain⟨c,e⟩:=vB (n:=s.heap.objs.size+1) k
   refine .inr ⟨.inl k,c,e,?_⟩;have q:=x.cell y c e;rw[uK ndP hp hu (by show scope.names.lookup y≠_;rw[k];decide)] at q;exact q
 .exact e0.hok.fresh (Nat.le_of_lt (x.above y c (PySem.mem_of_lookup h)))
 .unfold start
  show _=N.length;rw[List.length_append,List.length_map,List.length_replicate];omega
theorem yV{CX:CXT}{P:Program}{w:World}{K:Frag}{mg:Str->Option Value}{base:Heap}{k:Nat}{f:Addr}{name qual:Str}{params:Arguments}{body:List Stmt}{scope:Scope}{dV kV doc pm cdv ct oc:Value}{an od:Option Addr}
  {osl:Array (Option Value)}{N ps:List Str}{sp:Sp} (lk:K.lookup f=some ⟨oc,od,.func (PySem.W.fnOf name qual params body scope dV kV doc pm an cdv ct),osl⟩) (hcd:PySem.W.codeIn K cdv qual=true) (S:FnScope N ps scope)
  (len:∀vs H Q E,sp vs H Q E->vs.length=ps.length)
  (hbody:∀(A:Around) (outer:List Env) (s:Shared) (H:Hp) (vs:List V) (Q:VK) (E:XK),Room k (A.deeper (envOfC qual scope s.heap.objs.size f cdv))->sp vs H Q E ->
   ∃t,PSs (cF CX P w K mg base N qual scope f cdv A outer s H E) body t/\t { nx:=fun _ H'=>Q .non H',rt:=Q } (start N vs) H) :
  FnOk P w K mg base CX (k+1) f (PySem.W.fnOf name qual params body scope dV kV doc pm an cdv ct) ps sp:=by
 refine⟨len,fun A outer s H args us vs Q E hr e0 hb r hsp=>?_⟩;have hl:=len _ _ _ _ hsp;have KX:K.In s.heap:=e0.mod.kin.keeps fun b o e=>(e0.bs b o e).1;have lim:s.heap.NoLimit:=e0.mod.nolimit.keeps fun b o e=>(e0.bs b o e).1
 have hkind:∀y∈ps.zip us,scope.names.lookup y.1=some .local\/(scope.names.lookup y.1=some .cell/\((cellsFrom (s.heap.objs.size+1) scope.names []).lookup y.1).isSome=true):=fun⟨n,v⟩ hy=>by
  rcases S.par n (List.of_mem_zip hy).1 with q|q
  .exact .inl q
  .exact .inr ⟨q,PySem.W.cellsFrom_some _ _ _ (.inl q)⟩
 refine codeAny_call_function hr.depth (KX _ _ lk) rfl S.co S.gen rfl (PySem.W.codeRec_of KX hcd) (hb _ _ _ _ ?_);refine wpAny_newFunctionEnv_cells S.kind hkind fun env he s1 x=>?_;subst he;refine⟨lim.keeps x.toInCall.keep,codeAny_func ?_⟩;obtain⟨t,ht,hq⟩:=hbody A outer s H vs Q E (hr.deeper _) hsp;have I:Inv (cF CX P w K mg base N qual scope f cdv A outer s H E) [] (start N vs) H s1:=BW S hr.hd e0 hl r x;refine wpAny_mono (ht [] s1 (start N vs) H _ I hq) (fun fl s' hs=>?_) fun e s' hs=>hs
 have fin:∀{σ':St}{H':Hp}{v:V}{u:Value},Inv (cF CX P w K mg base N qual scope f cdv A outer s H E) [] σ' H' s'->RelV v u->Q v H'->CE outer P w H s Q u s':=
  fun {σ' H' v u} J rv q=>⟨v,H',J.os,J.bare,J.base,J.hok,rv,q⟩
 cases fl with
 |ret u=>
  obtain⟨v,σ',H',J,rv,q⟩:=hs;exact fin J rv q
 |next=>
  obtain⟨σ',H',J,q⟩:=hs;exact fin (v:=V.non) (u:=Value.none) J rfl q
 |brk=>
  obtain⟨_,_,_,q⟩:=hs;exact False.elim q
 |cont=>
  obtain⟨_,_,_,q⟩:=hs;exact False.elim q
section
variable {X:Cx}{x:Str}{p pos:Pos}{e:Expr}{es:List Expr}{t:TA}{id T:String}{r:List V->Hp->VK->Prop}
def tCB(r:List V->Hp->VK->Prop)(t:TA):TE:=fun σ H Q=>t σ H fun vs H1=>r vs H1 Q
theorem uX(hc:CallR X (.builtin id) r)(hg:Gl X x)(hm:X.mg x=none)(hv:bootBuiltins x=some (.builtin id))(ha:PA X (e::es) t)(hn:x≠"__name__":=by decide)(hdb:(x == ("__debug__" : Str))=false:=by decide)
  (he:starEach (e::es) X.env=(false,eval e X.env)::starEach es X.env:=by rfl) (hpl:(backTo pos (starEach es X.env)).any (·.1)=false:=by rfl):PE X (.Call (.Name x p) (e::es) [] pos) (tCB r t):=by
 intro pins s σ H Q I h;refine wpAny_Call_Name_kw (jC I hg hm hv ?_ hn hdb);exact PyProof.Rows.callWith_builtin1 (thn (ha pos pins s σ H _ I h) fun us s1 ⟨vs,H1,I1,r1,q1⟩=>hc pins s1 σ H1 vs us Q I1 r1 q1) he hpl
theorem me(hc:CallR X (.type T) r)(hg:Gl X x)(hm:X.mg x=none)(hv:bootBuiltins x=some (.type T))(ha:PA X (e::es) t)(hn:x≠"__name__":=by decide)(hdb:(x == ("__debug__" : Str))=false:=by decide)
  (he:starEach (e::es) X.env=(false,eval e X.env)::starEach es X.env:=by rfl) (hpl:(backTo pos (starEach es X.env)).any (·.1)=false:=by rfl):PE X (.Call (.Name x p) (e::es) [] pos) (tCB r t):=by
 intro pins s σ H Q I h;refine wpAny_Call_Name_kw (jC I hg hm hv ?_ hn hdb);exact PyProof.Rows.callWith_type1 (thn (ha pos pins s σ H _ I h) fun us s1 ⟨vs,H1,I1,r1,q1⟩=>hc pins s1 σ H1 vs us Q I1 r1 q1) he hpl
end
end L2
namespace HT
open PySem PyProof.Rows
section
open PySem.SeqAt
open PySem.AutoSeq1 (wpAny_loadPart')
open PySem.MeetsSeq PySem.MeetsSeq2 PySem.MeetsSeq3
end
section
variable {prog:Program}{w:World}{A:Around}{E:Value->Shared->Prop}{s:Shared}
theorem Fm(ht:IsTup s.heap t vs.toArray)(hb:IsTup s.heap b ws.toArray)(hv:vs≠[])
  (h1:ws=[]->Q (.ref t) s) (h2:ws≠[]->Q (.ref s.heap.objs.size) { s with heap:=s.heap.push { cls:=.type "tuple",data:=.seq (vs++ws).toArray } })
  (hsz:vs.length+ws.length<=sizeLine):wpAny (model prog w) A (binaryOp .Add (.ref t) (.ref b)) Q E s:=by
 obtain⟨⟨cls,dd,data,sl⟩,ho,hc,n,hd⟩:=id ht;obtain⟨⟨cls2,dd2,data2,sl2⟩,ho2,hc2,n2,hd2⟩:=id hb;simp only at hc hd hc2 hd2;subst hc hd hc2 hd2
 have e:vs.toArray++ws.toArray=(vs++ws).toArray:=by simp
 by_cases hw:ws=[]
 .exact concat_meets ⟨_,ho,rfl⟩ ⟨_,ho2,rfl⟩ noFill_tuple_add seq_tuple_add PySem.F.slot_tuple_add PySem.F.entry_tuple_add (PySem.F.args_tuple_add_2 _ _)
   (tuple_addW1 t b vs.toArray ws.toArray n n2 dd dd2 sl sl2 (by simpa using hv) (by simp[hw])) ⟨ho,ho2,h1 hw⟩
 .refine concat_meets ⟨_,ho,rfl⟩ ⟨_,ho2,rfl⟩ noFill_tuple_add seq_tuple_add PySem.F.slot_tuple_add PySem.F.entry_tuple_add (PySem.F.args_tuple_add_2 _ _)
   (tuple_addW2 t b vs.toArray ws.toArray n n2 dd dd2 sl sl2 (by simpa using hv) (by simpa using hw) (by rw[List.size_toArray,List.size_toArray];exact hsz)) ⟨ho,ho2,?_⟩
  rw[e];exact h2 hw
def sIx(n d:Nat):Option Int->Nat
 |none=>d
 |some v=>if v<0 then (v+(n:Int)).toNat else min v.toNat n
theorem vP(n d k:Nat):sIx n d (some (k:Int))=min k n:=by
 show (if (k:Int)<0 then ((k:Int)+(n:Int)).toNat else min (k:Int).toNat n)=min k n;rw[if_neg (by omega),Int.toNat_natCast]
theorem Gb(n d:Nat)(hd:d<=n)(o:Option Int):sIx n d o<=n:=by
 cases o with
 |none=>exact hd
 |some v=>
  show (if v<0 then (v+(n:Int)).toNat else min v.toNat n)<=n
  by_cases hv:v<0
  .rw[if_pos hv];omega
  .rw[if_neg hv];exact Nat.min_le_right _ _
theorem xg(v:Int)(n d:Nat):(if v<0 then max (v+(n:Int)) 0 else min v (n:Int))=((sIx n d (some v):Nat):Int):=by
 show (if v<0 then max (v+(n:Int)) 0 else min v (n:Int))=(((if v<0 then (v+(n:Int)).toNat else min v.toNat n):Nat):Int)
 by_cases hv:v<0
 .simp only[if_pos hv];omega
 .simp only[if_neg hv];omega
theorem Bn(lo hi:Option Int)(n:Nat):Builtin.Slice.sliceAdjust lo hi 1 (n:Int)=(((sIx n 0 lo:Nat):Int),((sIx n n hi:Nat):Int)):=by
 have h1:¬((1:Int)<0):=by omega
 unfold Builtin.Slice.sliceAdjust;simp only[h1,if_false];refine Prod.ext ?_ ?_
 .cases lo with
  |none=>rfl
  |some v=>exact xg v n 0
 .cases hi with
  |none=>rfl
  |some v=>exact xg v n n
theorem A2(i j:Nat):Builtin.Slice.slicePlaces (i:Int) (j:Int) 1=j-i:=by
 unfold Builtin.Slice.slicePlaces
 have h1:(1:Int)>0:=by omega
 simp only[h1,if_true,Int.ediv_one]
 split <;> omega
theorem tB(p:IsPart v o)(h:Q o s):wpAny (model prog w) A (Builtin.Slice.slicePartIndex v) Q E s:=by
 cases p with
 |none=>exact slicePart_none h
 |int i t=>exact slicePart_int h
theorem sO{sl:Addr}{vl vu:Value}{lo hi:Option Int}{n:Nat}{Q:Int×Int×Nat->Shared->Prop}(hs:s.heap.IsSliceOf sl vl vu .none)(pl:IsPart vl lo)(pu:IsPart vu hi)
  (h:Q (((sIx n 0 lo:Nat):Int),1,sIx n n hi-sIx n 0 lo) s):wpAny (model prog w) A (Builtin.Slice.sliceApplied (.ref sl) (pure (n:Int))) Q E s:=by
 obtain⟨os,hos,hcs,hds⟩:=id hs;unfold Builtin.Slice.sliceApplied Builtin.Slice.sliceFields;refine wpAny_bind (wpAny_bind (wpAny_field hos hds (x:=vl) rfl (wpAny_bind (wpAny_field hos hds (x:=vu) rfl (wpAny_bind (wpAny_field hos hds (x:=.none) rfl (wpAny_pure ?_)))))));refine wpAny_bind (slicePart_none ?_);show wpAny _ _ (if ((1:Int) == 0)=true then _ else _) _ _ s;rw[if_neg (by decide)];refine wpAny_bind (tB pl (wpAny_bind (tB pu (wpAny_bind (wpAny_pure ?_)))));show wpAny _ _ (match Builtin.Slice.sliceAdjust lo hi 1 (n:Int) with|(lo,hi)=>pure (lo,(1:Int),Builtin.Slice.slicePlaces lo hi 1)) _ _ s;rw[Bn lo hi n];show wpAny _ _ (pure (((sIx n 0 lo:Nat):Int),(1:Int),Builtin.Slice.slicePlaces ((sIx n 0 lo:Nat):Int) ((sIx n n hi:Nat):Int) 1)) _ _ s;rw[A2];exact wpAny_pure h
theorem CC(xs:Array Value)(i k:Nat):((List.range k).filterMap fun(m:Nat)=>xs[((i:Int)+(m:Int)*1).toNat]?).toArray=((xs.toList.drop i).take k).toArray:=by
 have e:(fun(m:Nat)=>xs[((i:Int)+(m:Int)*1).toNat]?)=fun m=>xs[i+m]?:=by
  funext m
  have:((i:Int)+(m:Int)*1).toNat=i+m:=by omega
  rw[this]
 rw[e];have:=pick_run xs i k;rw[List.filterMap_map] at this;have e2:((fun x=>xs[x]?) ∘ fun x=>i+x)=fun m=>xs[i+m]?:=rfl;rw[e2] at this;rw[this]
theorem zX{t sl:Addr}{items:Array Value}{vl vu:Value}{lo hi:Option Int}{Q:Value->Shared->Prop}(ht:IsTup s.heap t items)(hs:s.heap.IsSliceOf sl vl vu .none)(pl:IsPart vl lo)(pu:IsPart vu hi)
  (hw:¬(sIx items.size 0 lo=0/\sIx items.size items.size hi=items.size))
  (h:Q (.ref s.heap.objs.size) { s with heap:=s.heap.push { cls:=.type "tuple",data:=.seq ((items.toList.drop (sIx items.size 0 lo)).take (sIx items.size items.size hi-sIx items.size 0 lo)).toArray } })
  (hsz:items.size<=sizeLine):wpAny (model prog w) A (getItem (.ref t) (.ref sl)) Q E s:=by
 have htake:sizeOk (.seq ((items.toList.drop (sIx items.size 0 lo)).take (sIx items.size items.size hi-sIx items.size 0 lo)).toArray):=by
  show ((items.toList.drop (sIx items.size 0 lo)).take (sIx items.size items.size hi-sIx items.size 0 lo)).toArray.size<=sizeLine;rw[List.size_toArray,List.length_take,List.length_drop,Array.length_toList];omega
 have hj:sIx items.size items.size hi<=items.size:=Gb _ _ (Nat.le_refl _) hi;obtain⟨os,hos,hcs,hds⟩:=id hs;have hTs:s.TypeIs (.ref sl) "slice":=⟨os,hos,hcs⟩;unfold getItem
 try with_reducible refine wpAny_holding ?_
 first|refine wpAny_bind (wpAny_pure ?_)|skip
 refine wpAny_bind (wpAny_sequenceKey ht.typeIs (by decide) ?_)
 refine wpAny_bind (wpAny_callSpecial?_slot (name:=Str.ofString "__getitem__") ht.typeIs PyProof.Rows.slot_tuple_getitem
  (wpAny_call_entry PyProof.Rows.slot_tuple_getitem ht.typeIs entry_tuple_getitem ?_ (args_tuple_getitem _ _)))
 show wpAny _ _ (Builtin.Tuple.tupleItemsOf (.ref t) >>= _) _ _ s;refine wpAny_bind (tupleItemsOf_ ht ?_);refine wpAny_bind (wpAny_typeOf hTs ?_);rw[if_pos (by decide)];refine wpAny_bind (sO hs pl pu ?_)
 have hno:¬((((sIx items.size 0 lo:Nat):Int) == 0&&(1:Int) == 1&&(sIx items.size items.size hi-sIx items.size 0 lo) == items.size)=true):=by
  intro q;rw[Bool.and_eq_true,Bool.and_eq_true] at q;have q1:((sIx items.size 0 lo:Nat):Int)=0:=eq_of_beq q.1.1;have q2:sIx items.size items.size hi-sIx items.size 0 lo=items.size:=eq_of_beq q.2;exact hw ⟨by omega,by omega⟩
 show wpAny _ _ (if (((sIx items.size 0 lo:Nat):Int) == 0&&(1:Int) == 1&&(sIx items.size items.size hi-sIx items.size 0 lo) == items.size)=true then _ else _) _ _ s;rw[if_neg hno,CC]
 first
  |exact wpAny_bind (m:=Builtin.Tuple.tupleExact _) (wpAny_newObj_type (wpAny_pure ⟨_,rfl,wpAny_pure h⟩) htake)
  |exact wpAny_bind (m:=Builtin.Tuple.tupleExact _) (wpAny_newObj_type (wpAny_bind (wpAny_pure (wpAny_pure ⟨_,rfl,wpAny_pure h⟩))) htake)
  |exact wpAny_bind (wpAny_bind (m:=Builtin.Tuple.tupleExact _) (wpAny_newObj_type (wpAny_pure (wpAny_pure ⟨_,rfl,wpAny_pure h⟩)) htake))
  |exact wpAny_bind (wpAny_bind (m:=Builtin.Tuple.tupleExact _) (wpAny_newObj_type (wpAny_pure ⟨_,rfl,wpAny_pure h⟩) htake))
end
end HT
namespace L2
open PySem PySem.Spec PyProof.Rows
abbrev TO:=St->Hp->(Option Int->Hp->Prop)->Prop
def PO(X:Cx)(e:Option Expr)(t:TO):Prop:=
 ∀(pins:List (Addr×Obj)) (s:Shared) (σ:St) (H:Hp) (Q:Option Int->Hp->Prop),Inv X pins σ H s->t σ H Q ->
  wpAny (model X.prog X.w) X.A (evalPart e X.env) (fun u s'=>∃o H',Inv X pins σ H' s'/\IsPart u o/\Q o H') X.xe s
def DV:TO:=fun _ H Q=>Q none H
def HI(t:TE):TO:=fun σ H Q=>t σ H fun x H1=>∃i,x=.int i/\Q (some i) H1
section
variable {X:Cx}{e:Expr}{te:TE}{lo hi:Option Expr}{tl th:TO}{pos p2:Pos}
theorem Ei:PO X none DV:=by
 intro pins s σ H Q I h;rw[evalPart_none];exact wpAny_pure ⟨none,H,I,.none,h⟩
theorem Eg(h:PE X e te):PO X (some e) (HI te):=by
 intro pins s σ H Q I hw;rw[evalPart_some];refine thn (h pins s σ H _ I hw) fun u s1 ⟨x,H1,I1,r1,q1⟩=>?_;obtain⟨i,rfl,q⟩:=q1;obtain⟨t,rfl⟩:=r1;exact⟨some i,H1,I1,.int i t,q⟩
def SlR(X:Cx)(r:V->Option Int->Option Int->Hp->VK->Prop):Prop:=
 ∀(pins:List (Addr×Obj)) (s:Shared) (σ:St) (H:Hp) (x:V) (v vl vu:Value) (lo hi:Option Int) (sl:Addr) (Q:VK),Inv X pins σ H s->RelV x v->s.heap.IsSliceOf sl vl vu .none->IsPart vl lo->IsPart vu hi->r x lo hi H Q ->
  ∃T id,typeLookup (.type T) "__getitem__"=pure (some (.builtin id))/\s.TypeIs v T/\wpAny (model X.prog X.w) X.A (getItem v (.ref sl)) (EP X pins σ Q) X.xe s
theorem SlR.or(h:SlR X r)(h':SlR X r'):SlR X (fun x lo hi H Q=>r x lo hi H Q\/r' x lo hi H Q):=by
 intro pins s σ H x v vl vu lo hi sl Q I rx hs pl pu q
 rcases q with q|q
 .exact h pins s σ H x v vl vu lo hi sl Q I rx hs pl pu q
 .exact h' pins s σ H x v vl vu lo hi sl Q I rx hs pl pu q
def tSl(r:V->Option Int->Option Int->Hp->VK->Prop)(te:TE)(tl th:TO):TE:=fun σ H Q=>te σ H fun x H1=>tl σ H1 fun l H2=>th σ H2 fun u H3=>r x l u H3 Q
theorem CG(hr:SlR X r)(he:PE X e te)(hl:PO X lo tl)(hu:PO X hi th):PE X (.Subscript e (.Slice lo hi none p2) pos) (tSl r te tl th):=by
 intro pins s σ H Q I h;refine Subscript_ (thn (he pins s σ H _ I h) fun v s1 ⟨x,H1,I1,r1,q1⟩=>?_);refine wpAny_Slice (thn (hl pins s1 σ H1 _ I1 q1) fun vl s2 ⟨l,H2,I2,pl,q2⟩=>thn (hu pins s2 σ H2 _ I2 q2) fun vu s3 ⟨u,H3,I3,pu,q3⟩=>?_);rw[evalPart_none];refine wpAny_pure ?_;have I4:Inv X pins σ H3 { s3 with heap:=s3.heap.push { cls:=.type "slice",data:=.fields #[vl,vu,.none] } }:=I3.kept (t':=s3.toks) fun b ob q=>Heap.get?_push_of_some _ q;obtain⟨T,id,hT,ht,hg⟩:=hr pins { s3 with heap:=s3.heap.push { cls:=.type "slice",data:=.fields #[vl,vu,.none] } } σ H3 x v vl vu l u s3.heap.objs.size Q I4 r1 (Heap.IsSliceOf.new ..) pl pu q3;show wpAny (model X.prog X.w) X.A (subscriptTail e (.Slice lo hi none p2) v (.ref s3.heap.objs.size)) (EP X pins σ Q) X.xe { s3 with heap:=s3.heap.push { cls:=.type "slice",data:=.fields #[vl,vu,.none] } };exact tail_any (ops:=[.ref s3.heap.objs.size,v]) ht hT hg (by with_unfolding_all rfl)
def gJ(xs:List V)(lo hi:Option Int):List V:=(xs.drop (HT.sIx xs.length 0 lo)).take (HT.sIx xs.length xs.length hi-HT.sIx xs.length 0 lo)
theorem tm(xs:List V)(lo hi:Option Int):(gJ xs lo hi).length<=xs.length:=by
 unfold gJ;rw[List.length_take,List.length_drop];omega
def Jt(K:Frag):V->Option Int->Option Int->Hp->VK->Prop:=fun x lo hi H Q=>∃a xs,x=.ref a/\SqT K H a xs /\
 ¬(HT.sIx xs.length 0 lo=0/\HT.sIx xs.length xs.length hi=xs.length)/\∀p,H p=none->Q (.ref p) (upd H p (.tup (gJ xs lo hi)))
theorem F8:SlR X (Jt X.K):=by
 intro pins s σ H x v vl vu lo hi sl Q I rx hs pl pu h;obtain⟨a,xs,rfl,hx,hw,q⟩:=h;cases rx;obtain⟨its,r,ht,hz⟩:=I.tuple hx
 have hlen:its.toArray.size=xs.length:=by rw[List.size_toArray];exact r.length.symm
 refine⟨"tuple",_,PyProof.Rows.slot_tuple_getitem.lookup,ht.typeIs,?_⟩;refine HT.zX ht hs pl pu (by rw[hlen];exact hw) ?_ (by rw[hlen];exact hz);rw[hlen];refine⟨.ref s.heap.objs.size,_,I.laid (t':=s.toks) (o:=.tup (gJ xs lo hi)) (fun b ob q=>Heap.get?_push_of_some _ q) (Nat.le_refl _) ?_,rfl,q _ (I.hok.fresh (Nat.le_refl _))⟩;exact⟨Nat.le_trans (tm xs lo hi) hz,_,(r.drop (HT.sIx xs.length 0 lo)).take (HT.sIx xs.length xs.length hi-HT.sIx xs.length 0 lo),IsTup.new _ _⟩
def HU(K:Frag):R2:=fun x y H Q=>∃a b xs ys,x=.ref a/\y=.ref b/\SqT K H a xs/\SqT K H b ys/\xs≠[]/\xs.length+ys.length<=sizeLine /\
 (ys=[]->Q (.ref a) H)/\(ys≠[]->∀p,H p=none->Q (.ref p) (upd H p (.tup (xs++ys))))
theorem Vals.nil_iff(r:Vals xs us):us=[]↔xs=[]:=by
 cases r with
 |nil=>simp
 |cons _ _=>simp
theorem Es:OpR X (binaryOp .Add) (HU X.K):=by
 intro pins s σ H x y v u Q I rx ry h;obtain⟨a,b,xs,ys,rfl,rfl,ha,hb,hx,hz,q1,q2⟩:=h;cases rx;cases ry;obtain⟨its,r1,p1,_⟩:=I.tuple ha;obtain⟨its2,r2,p2,_⟩:=I.tuple hb;refine HT.Fm p1 p2 (fun z=>hx (r1.nil_iff.mp z)) (fun z=>⟨.ref a,H,I,rfl,q1 (r2.nil_iff.mp z)⟩) (fun z=>?_) (by rw[←r1.length,←r2.length];exact hz);refine⟨.ref s.heap.objs.size,_,I.laid (t':=s.toks) (o:=.tup (xs++ys)) (fun b ob q=>Heap.get?_push_of_some _ q) (Nat.le_refl _) ?_,rfl,q2 (fun w=>z (r2.nil_iff.mpr w)) _ (I.hok.fresh (Nat.le_refl _))⟩;exact⟨by rw[List.length_append];exact hz,_,r1.append r2,IsTup.new _ _⟩
end
def ixN(n:Nat)(i:Int):Option Nat:=if 0<=i then (if i<n then some i.toNat else none) else if -(n:Int)<=i then some (i+n).toNat else none
def atI{α:Type}(xs:List α)(i:Int):Option α:=(ixN xs.length i).bind fun j=>xs[j]?
theorem wA(h:ixN n i=some j):seqIndex? i n=some j/\j<n/\-(n:Int)<=i/\i<n:=by
 unfold ixN at h
 by_cases h0:0<=i
 .rw[if_pos h0] at h
  by_cases h1:i<n
  .rw[if_pos h1] at h
   have e:i.toNat=j:=Option.some.inj h;exact⟨by rw[seqIndex_of h0 h1,e],by omega,by omega,h1⟩
  .rw[if_neg h1] at h;cases h
 .rw[if_neg h0] at h
  by_cases h1 : -(n:Int)<=i
  .rw[if_pos h1] at h
   have e:(i+n).toNat=j:=Option.some.inj h;exact⟨by rw[seqIndex_neg (by omega) h1,e],by omega,h1,by omega⟩
  .rw[if_neg h1] at h;cases h
theorem qU{α:Type}{xs:List α}{i:Int}{v:α}(h:atI xs i=some v):∃j,seqIndex? i xs.length=some j/\xs[j]? = some v/\j<xs.length/\-(xs.length:Int)<=i/\i<xs.length:=by
 unfold atI at h
 cases e:ixN xs.length i with
 |none=>rw[e] at h;cases h
 |some j=>
  rw[e] at h;obtain⟨h1,h2,h3,h4⟩:=wA e;exact⟨j,h1,h,h2,h3,h4⟩
theorem xh{α:Type}{xs:List α}{j:Nat}{v:α}(h:xs[j]? = some v):atI xs (j:Int)=some v:=by
 have hj:j<xs.length:=(List.getElem?_eq_some_iff.mp h).1
 have e:ixN xs.length (j:Int)=some j:=by
  unfold ixN;rw[if_pos (by omega),if_pos (by omega)];simp
 unfold atI;rw[e];exact h
def xi(b:Expr):Prop:=∀o i,subscripted b false o i=operate [o,i] (getItem o i)
def IxR(X:Cx)(r:R2):Prop:=
 ∀(value slice:Expr) (pins:List (Addr×Obj)) (s:Shared) (σ:St) (H:Hp) (x y:V) (v u:Value) (Q:VK),Inv X pins σ H s->RelV x v->RelV y u->r x y H Q ->
  subscripted slice false v u=operate [v,u] (getItem v u)->wpAny (model X.prog X.w) X.A (subscriptTail value slice v u) (EP X pins σ Q) X.xe s
def MtR(X:Cx)(id:String)(r:V->List V->Hp->VK->Prop):Prop:=
 ∀(pins:List (Addr×Obj)) (s:Shared) (σ:St) (H:Hp) (x:V) (xs:List V) (v:Value) (us:List Value) (Q:VK),Inv X pins σ H s->RelV x v->Vals xs us->r x xs H Q ->
  wpAny (model X.prog X.w) X.A (call (.builtin id) (v::us)) (EP X pins σ Q) X.xe s
section
variable {X:Cx}{a b:Expr}{ta tb:TE}{pos:Pos}
theorem IxR.or(h:IxR X r)(h':IxR X r'):IxR X (fun x y H Q=>r x y H Q\/r' x y H Q):=by
 intro value slice pins s σ H x y v u Q I rx ry q hs
 rcases q with q|q
 .exact h value slice pins s σ H x y v u Q I rx ry q hs
 .exact h' value slice pins s σ H x y v u Q I rx ry q hs
theorem MtR.or{id:String}{r r':V->List V->Hp->VK->Prop}(h:MtR X id r)(h':MtR X id r'):MtR X id (fun x xs H Q=>r x xs H Q\/r' x xs H Q):=by
 intro pins s σ H x xs v us Q I rx rs q
 rcases q with q|q
 .exact h pins s σ H x xs v us Q I rx rs q
 .exact h' pins s σ H x xs v us Q I rx rs q
theorem H8(hr:IxR X r)(ha:PE X a ta)(hb:PE X b tb)(hs:xi b):PE X (.Subscript a b pos) (tOp r ta tb):=by
 intro pins s σ H Q I h;exact Subscript_ (sE ha hb I h fun v u s2 x y H2 I2 rx ry q=>hr a b pins s2 σ H2 x y v u Q I2 rx ry q (hs _ _))
def zy(K:Frag):R2:=fun x y H Q=>∃p xs i v,x=.ref p/\y=.int i/\SqL K H p xs/\atI xs i=some v/\Q v H
def zv(K:Frag):R2:=fun x y H Q=>∃p xs i v,x=.ref p/\y=.int i/\SqT K H p xs/\atI xs i=some v/\Q v H
def zw:R2:=fun x y H Q=>∃z i c,x=.str z/\y=.int i/\z.length<=sizeLine/\atI z.cps.toList i=some c/\Q (.str ⟨#[c]⟩) H
theorem ix_list:IxR X (zy X.K):=by
 intro value slice pins s σ H x y v u Q I rx ry h hs;obtain⟨p,xs,i,z,rfl,rfl,hq,he,q⟩:=h;cases rx;obtain⟨t,rfl⟩:=ry;obtain⟨its,r,pl,hz⟩:=I.list hq;obtain⟨j,h1,h2,h3,h4,h5⟩:=qU he;obtain⟨w,ew,rw'⟩:=r.get h2;have hl:=r.length;have hn:=iK;have fin:EP X pins σ Q w s:=⟨z,H,I,rw',q⟩
 by_cases h0:0<=i
 .have hj:i.toNat=j:=by
   rw[seqIndex_of h0 h5] at h1;exact Option.some.inj h1
  exact item_listR pl.isList h0 (by omega) (by rw[hj];simpa using ew) fin hs
 .have hj:(i+(its.toArray.size:Int)).toNat=j:=by
   rw[seqIndex_neg (by omega) h4] at h1;rw[List.size_toArray,←hl];exact Option.some.inj h1
  exact subscriptTail_builtinR (x:=w) pl.isList.typeIs slot_list_getitem.lookup
   (wpAny_getItem_list_neg (Q:=fun r s'=>r=w/\EP X pins σ Q r s') pl.isList (by omega) (by rw[List.size_toArray] <;> omega) (by omega) (by rw[hj];simpa using ew) ⟨rfl,fin⟩) hs
theorem ix_tup:IxR X (zv X.K):=by
 intro value slice pins s σ H x y v u Q I rx ry h hs;obtain⟨p,xs,i,z,rfl,rfl,hq,he,q⟩:=h;cases rx;obtain⟨t,rfl⟩:=ry;obtain⟨its,r,pl,hz⟩:=I.tuple hq;obtain⟨j,h1,h2,h3,h4,h5⟩:=qU he;obtain⟨w,ew,rw'⟩:=r.get h2;have hl:=r.length;have hn:=iK;have fin:EP X pins σ Q w s:=⟨z,H,I,rw',q⟩
 exact subscriptTail_builtinR (x:=w) pl.typeIs slot_tuple_getitem.lookup
  (getItem_tuple (j:=j) (Q:=fun r s'=>r=w/\EP X pins σ Q r s') pl (by omega) (by omega) (by rw[List.size_toArray,←hl];exact h1) (by simpa using ew) ⟨rfl,fin⟩) hs
theorem GQ:IxR X zw:=by
 intro value slice pins s σ H x y v u Q I rx ry h hs;obtain⟨z,i,c,rfl,rfl,hz,he,q⟩:=h;obtain⟨t,rfl⟩:=rx;obtain⟨t',rfl⟩:=ry;obtain⟨j,h1,h2,h3,h4,h5⟩:=qU he
 have hl:z.cps.toList.length=z.length:=by simp[Str.length]
 rw[hl] at h1 h4 h5;have hn:=iK
 exact tail_any (typeIs_str s z t) slot_str_getitem.lookup (getItem_str (c:=c) (by
  have e1:decide (i < -(2^63:Int))=false:=decide_eq_false (by omega);have e2:decide (i>=2^63)=false:=decide_eq_false (by omega)
  rw[e1,e2,Bool.or_false]) (by rw[h1];simpa using h2) ⟨.str ⟨#[c]⟩,H,I.tok _,⟨_,rfl⟩,q⟩) hs
def rIx(K:Frag):R2:=fun x y H Q=>zy K x y H Q\/zv K x y H Q\/zw x y H Q
theorem GS:IxR X (rIx X.K):=ix_list.or (ix_tup.or GQ)
theorem A8(its:List Value)(n j:Nat)(u:Value):Obj.mapSeq (·.setIfInBounds j u) { cls:=.type "list",data:=.seq its.toArray n } = { cls:=.type "list",data:=.seq (its.set j u).toArray n }:=by simp[Obj.mapSeq]
theorem Inv.lst(I:Inv X pins σ H s)(h:H p=some (.lst xs)) :
  ∃(its:List Value) (n:Nat),Vals xs its/\s.heap.get? p=some { cls:=.type "list",data:=.seq its.toArray n }/\xs.length<=sizeLine:=by
 obtain⟨z,its,n,r,e⟩:=I.hok p _ h;exact⟨its,n,r,e,z⟩
theorem Inv.lstUpd{s:Shared}{xs ys:List V}{its its':List Value}{f:Obj->Obj}(I:Inv X pins σ H s)(h:H p=some (.lst xs))
  (ho:s.heap.get? p=some { cls:=.type "list",data:=.seq its.toArray n }) (hf:f { cls:=.type "list",data:=.seq its.toArray n } = { cls:=.type "list",data:=.seq its'.toArray n' }) (r:Vals ys its') (hz:ys.length<=sizeLine) (t:Nat) :
  Inv X pins σ (upd H p (.lst ys)) { s with heap:=s.heap.update p f,toks:=t }:=by
 have e:(s.heap.update p f).get? p=some { cls:=.type "list",data:=.seq its'.toArray n' }:=by
  rw[Heap.get?_update_self f ho (by rw[hf] <;> rfl),hf]
 refine I.write (x:=p) (e:=p) (by rw[h];trivial) (.inl rfl) (fun b u hb q=>(Heap.get?_update_other _ _ (Ne.symm hb)).trans q) ⟨_,e⟩ ?_;exact⟨hz,its',n',r,e⟩
def HS:V->V->V->Hp->(Hp->Prop)->Prop:=fun o i v H Q=>∃p xs k j,o=.ref p/\i=.int k/\H p=some (.lst xs)/\ixN xs.length k=some j/\Q (upd H p (.lst (xs.set j v)))
theorem set_list:zQ X HS:=by
 intro pins s σ H o i v ov iv u Q I ro ri rv h;obtain⟨p,xs,k,j,rfl,rfl,hp,hj,q⟩:=h;cases ro;obtain⟨t,rfl⟩:=ri;obtain⟨its,n,r,ho,hz⟩:=I.lst hp;obtain⟨h1,h2,h3,h4⟩:=wA hj;have hl:=r.length;have hn:=iK
 have I':Inv X pins σ (upd H p (.lst (xs.set j v))) { s with heap:=s.heap.update p (Obj.mapSeq (·.setIfInBounds j u)) }:=
  I.lstUpd hp ho (A8 its n j u) (r.set rv j) (by rw[List.length_set];exact hz) s.toks
 by_cases h0:0<=k
 .have hk:k.toNat=j:=by
   rw[seqIndex_of h0 h4] at h1;exact Option.some.inj h1
  exact PySem.W.ki_setAt ho h0 (by omega) (by rw[List.size_toArray,←hl];exact h4) (by rw[hk];exact⟨_,I',q⟩)
 .have hk:(k+(its.toArray.size:Int)).toNat=j:=by
   rw[seqIndex_neg (by omega) h3] at h1;rw[List.size_toArray,←hl];exact Option.some.inj h1
  exact PySem.W.ki_setBack ho (by omega) (by rw[List.size_toArray,←hl];exact h3) (by omega) (by rw[hk];exact⟨_,I',q⟩)
theorem As(lo hi:Option Int)(n:Nat):(sliceBounds lo hi none n).1=((HT.sIx n 0 lo:Nat):Int)/\(sliceBounds lo hi none n).2.1=((HT.sIx n n hi:Nat):Int)/\(sliceBounds lo hi none n).2.2=1:=by
 refine⟨?_,?_,rfl⟩
 .cases lo with
  |none=>simp[sliceBounds,HT.sIx]
  |some i=>
   simp only[sliceBounds,HT.sIx,Option.getD_none,show (1:Int)>0 by decide,if_true]
   by_cases h:i<0
   .simp only[h,if_true] <;> omega
   .simp only[h,if_false] <;> omega
 .cases hi with
  |none=>simp[sliceBounds,HT.sIx]
  |some i=>
   simp only[sliceBounds,HT.sIx,Option.getD_none,show (1:Int)>0 by decide,if_true]
   by_cases h:i<0
   .simp only[h,if_true] <;> omega
   .simp only[h,if_false] <;> omega
theorem Ag(its:List Value)(lo hi:Option Int):slicePick its.toArray lo hi none=((its.drop (HT.sIx its.length 0 lo)).take (HT.sIx its.length its.length hi-HT.sIx its.length 0 lo)).toArray:=by
 obtain⟨h1,h2,h3⟩:=As lo hi its.toArray.size;unfold slicePick;rw[h1,h2,h3]
 simp only[sliceRange_one,pick_run,List.size_toArray] <;> rfl
def Ju(K:Frag):V->Option Int->Option Int->Hp->VK->Prop:=fun x lo hi H Q=>∃a xs,x=.ref a/\SqL K H a xs/\∀p,H p=none->Q (.ref p) (upd H p (.lst (gJ xs lo hi)))
theorem sl_list:SlR X (Ju X.K):=by
 intro pins s σ H x v vl vu lo hi sl Q I rx hs pl pu h;obtain⟨a,xs,rfl,hx,q⟩:=h;cases rx;obtain⟨its,r,ht,hz⟩:=I.list hx;have hlen:=r.length;refine⟨"list",_,slot_list_getitem.lookup,ht.isList.typeIs,?_⟩;refine wpAny_getItem_list_slice ht.isList hs pl pu .none (by simp) ?_ (by rw[List.size_toArray] <;> omega);rw[Ag,←hlen];refine⟨.ref s.heap.objs.size,_,I.laid (t':=s.toks) (o:=.lst (gJ xs lo hi)) (fun b ob q=>Heap.get?_push_of_some _ q) (Nat.le_refl _) ?_,rfl,q _ (I.hok.fresh (Nat.le_refl _))⟩;exact⟨Nat.le_trans (tm xs lo hi) hz,_,0,(r.drop (HT.sIx xs.length 0 lo)).take (HT.sIx xs.length xs.length hi-HT.sIx xs.length 0 lo),Heap.get?_push_size _ rfl⟩
def fO:V->Bool
 |.non=>true
 |.bl _=>true
 |.int _=>true
 |.str _=>true
 |_=>false
def eqV:V->V->Bool
 |.non,.non=>true
 |.bl a,.bl b=>a == b
 |.bl a,.int b=>(if a then 1 else 0) == b
 |.int a,.bl b=>a == (if b then 1 else 0)
 |.int a,.int b=>a == b
 |.str a,.str b=>a == b
 |_,_=>false
theorem Hh(ry:RelV y u)(rx:RelV x v)(fy:fO y=true)(fx:fO x=true):SeqAt.EqAt A s u v (eqV y x):=by
 cases y with
 |non=>
  cases ry
  cases x with
  |non=>cases rx;exact SeqAt.EqAt.same _
  |bl b=>cases rx;exact SeqAt.EqAt.none_bool b
  |int b=>obtain⟨t,rfl⟩:=rx;exact SeqAt.EqAt.none_int b t
  |str b=>obtain⟨t,rfl⟩:=rx;exact SeqAt.EqAt.none_str b t
  |_=>exact absurd (show false=true from fx) Bool.false_ne_true
 |bl a=>
  cases ry
  cases x with
  |non=>cases rx;exact SeqAt.EqAt.bool_none a
  |bl b=>cases rx;exact SeqAt.EqAt.bool_bool a b
  |int b=>obtain⟨t,rfl⟩:=rx;exact SeqAt.EqAt.bool_int a b t
  |str b=>obtain⟨t,rfl⟩:=rx;exact SeqAt.EqAt.bool_str a b t
  |_=>exact absurd (show false=true from fx) Bool.false_ne_true
 |int a=>
  obtain⟨t',rfl⟩:=ry
  cases x with
  |non=>cases rx;exact SeqAt.EqAt.int_none a t'
  |bl b=>cases rx;exact SeqAt.EqAt.int_bool a t' b
  |int b=>obtain⟨t,rfl⟩:=rx;exact SeqAt.EqAt.int_int a t' b t
  |str b=>obtain⟨t,rfl⟩:=rx;exact SeqAt.EqAt.int_str a t' b t
  |_=>exact absurd (show false=true from fx) Bool.false_ne_true
 |str a=>
  obtain⟨t',rfl⟩:=ry
  cases x with
  |non=>cases rx;exact SeqAt.EqAt.str_none a t'
  |bl b=>cases rx;exact SeqAt.EqAt.str_bool a t' b
  |int b=>obtain⟨t,rfl⟩:=rx;exact SeqAt.EqAt.str_int a t' b t
  |str b=>obtain⟨t,rfl⟩:=rx;exact SeqAt.EqAt.str_str a t' b t
  |_=>exact absurd (show false=true from fx) Bool.false_ne_true
 |_=>exact absurd (show false=true from fy) Bool.false_ne_true
def eqU(x:V)(u:Value):Bool:=match u with
 |.none=>eqV .non x
 |.bool b=>eqV (.bl b) x
 |.int i _=>eqV (.int i) x
 |.str z _=>eqV (.str z) x
 |_=>false
theorem yg(r:RelV y u)(f:fO y=true):eqU x u=eqV y x:=by
 cases y with
 |non=>cases r;rfl
 |bl b=>cases r;rfl
 |int i=>obtain⟨t,rfl⟩:=r;rfl
 |str z=>obtain⟨t,rfl⟩:=r;rfl
 |_=>exact absurd (show false=true from f) Bool.false_ne_true
theorem kW:∀{xs:List V}{us:List Value},Vals xs us->xs.all fO=true->us.any (eqU x)=xs.any fun y=>eqV y x
 |_,_,.nil,_=>rfl
 |y::xs,u::us,.cons r t,f=>by
  rw[List.all_cons,Bool.and_eq_true] at f;rw[List.any_cons,List.any_cons,yg r f.1,kW t f.2]
theorem kI(rx:RelV x v)(fx:fO x=true):∀{xs:List V}{us:List Value},Vals xs us->xs.all fO=true->∀u∈us,SeqAt.EqAt A s u v (eqU x u)
 |_,_,.nil,_=>fun u hu=>by cases hu
 |y::xs,u::us,.cons r t,f=>fun u' hu=>by
  rw[List.all_cons,Bool.and_eq_true] at f
  rcases List.mem_cons.mp hu with rfl|hu
  .rw[yg r f.1];exact Hh r rx f.1 fx
  .exact kI rx fx t f.2 u' hu
def inV(x:V)(xs:List V):Bool:=xs.any fun y=>eqV y x
def rIn(K:Frag)(neg:Bool):R2:=fun x y H Q=>∃p xs,y=.ref p/\(SqL K H p xs\/SqT K H p xs)/\fO x=true/\xs.all fO=true/\Q (.bl (if neg then !inV x xs else inV x xs)) H
theorem ur:OpR X (compareOp .In) (rIn X.K false):=by
 intro pins s σ H x y v u Q I rx ry h;obtain⟨p,xs,rfl,hq,fx,fs,q⟩:=h;cases ry
 rcases hq with hq|hq
 .obtain⟨its,r,pl,hz⟩:=I.list hq
  refine SeqAt.in_listAt (eqU x) pl.isList (fun w hw=>kI rx fx r fs w (by simpa using hw)) ⟨.bl _,H,I,rfl,?_⟩;rw[show its.toArray.any (eqU x)=its.any (eqU x) by simp,kW r fs];exact q
 .obtain⟨its,r,pl,hz⟩:=I.tuple hq
  refine SeqAt.in_tupleAt (eqU x) pl (fun w hw=>kI rx fx r fs w (by simpa using hw)) ⟨.bl _,H,I,rfl,?_⟩;rw[show its.toArray.any (eqU x)=its.any (eqU x) by simp,kW r fs];exact q
theorem sU:OpR X (compareOp .NotIn) (rIn X.K true):=by
 intro pins s σ H x y v u Q I rx ry h;obtain⟨p,xs,rfl,hq,fx,fs,q⟩:=h;cases ry
 rcases hq with hq|hq
 .obtain⟨its,r,pl,hz⟩:=I.list hq
  refine SeqAt.notIn_listAt (eqU x) pl.isList (fun w hw=>kI rx fx r fs w (by simpa using hw)) ⟨.bl _,H,I,rfl,?_⟩;rw[show its.toArray.any (eqU x)=its.any (eqU x) by simp,kW r fs];exact q
 .obtain⟨its,r,pl,hz⟩:=I.tuple hq
  refine SeqAt.notIn_tupleAt (eqU x) pl (fun w hw=>kI rx fx r fs w (by simpa using hw)) ⟨.bl _,H,I,rfl,?_⟩;rw[show its.toArray.any (eqU x)=its.any (eqU x) by simp,kW r fs];exact q
theorem call_len_seq:CallR X (.builtin "len") (fun xs H Q=>∃p ys,xs=[.ref p]/\(SqL X.K H p ys\/SqT X.K H p ys)/\Q (.int ys.length) H):=by
 intro pins s σ H xs us Q I r h;obtain⟨p,ys,rfl,hq,q⟩:=h;obtain⟨u,rfl,rx⟩:=vals1 r;cases rx;have hn:=iK
 rcases hq with hq|hq
 .obtain⟨its,r',pl,hz⟩:=I.list hq
  have hlen:=r'.length;exact Calls.call_len_list pl.isList (by simp only[List.size_toArray] <;> omega) ⟨.int ys.length,H,I.tok _,⟨s.toks+1,by rw[List.size_toArray,hlen]⟩,q⟩
 .obtain⟨its,r',pl,hz⟩:=I.tuple hq
  have hlen:=r'.length;exact len_tuple pl (by simp only[List.size_toArray] <;> omega) ⟨.int ys.length,H,I.tok _,⟨s.toks+1,by rw[List.size_toArray,hlen]⟩,q⟩
theorem call_len_str:CallR X (.builtin "len") (fun xs H Q=>∃z,xs=[.str z]/\z.length<=sizeLine/\Q (.int z.length) H):=by
 intro pins s σ H xs us Q I r h;obtain⟨z,rfl,hz,q⟩:=h;obtain⟨u,rfl,t,rfl⟩:=vals1 r;have hn:=iK;exact len_str (by omega) ⟨.int z.length,H,I.tok _,⟨_,rfl⟩,q⟩
theorem CallR.or(h:CallR X f r)(h':CallR X f r'):CallR X f (fun xs H Q=>r xs H Q\/r' xs H Q):=by
 intro pins s σ H xs us Q I rs q
 rcases q with q|q
 .exact h pins s σ H xs us Q I rs q
 .exact h' pins s σ H xs us Q I rs q
theorem AE:CallR X (.type "list") (fun xs H Q=>∃p ys,xs=[.ref p]/\(SqL X.K H p ys\/SqT X.K H p ys)/\∀l,H l=none->Q (.ref l) (upd H l (.lst ys))):=by
 intro pins s σ H xs us Q I r h;obtain⟨p,ys,rfl,hq,q⟩:=h;obtain⟨u,rfl,rx⟩:=vals1 r;cases rx
 have fin:∀(its:List Value),Vals ys its->ys.length<=sizeLine->∀(h':Heap) (c':Nat),(∀b o',s.heap.get? b=some o'->h'.get? b=some o') ->
   h'.get? s.heap.objs.size=some { cls:=.type "list",dict:=none,data:=.seq its.toArray c',slots:=#[] }->EP X pins σ Q (.ref s.heap.objs.size) { s with heap:=h' }:=fun its r' hz h' c' kp e=>
  ⟨.ref s.heap.objs.size,_,I.laid (t':=s.toks) kp (Nat.le_refl _) (show ObjOk X.prog X.w _ h' _ (.lst ys) from⟨hz,its,c',r',e⟩),rfl,q _ (I.hok.fresh (Nat.le_refl _))⟩
 rcases hq with hq|hq
 .obtain⟨its,r',pl,hz⟩:=I.list hq
  have hlen:=r'.length;obtain⟨o,ho,hc,n,hd⟩:=pl.isList;exact call_list_seq p (.inl rfl) ho hc hd (fun h' c' kp e=>fin its r' hz h' c' kp e) (by simp only[List.size_toArray] <;> omega)
 .obtain⟨its,r',pl,hz⟩:=I.tuple hq
  have hlen:=r'.length;obtain⟨o,ho,hc,n,hd⟩:=pl;exact call_list_seq p (.inr rfl) ho hc hd (fun h' c' kp e=>fin its r' hz h' c' kp e) (by simp only[List.size_toArray] <;> omega)
theorem Aq:CallR X (.type "tuple") (fun xs H Q=>∃p ys,xs=[.ref p]/\((SqL X.K H p ys/\∀l,H l=none->Q (.ref l) (upd H l (.tup ys)))\/(SqT X.K H p ys/\Q (.ref p) H))):=by
 intro pins s σ H xs us Q I r h;obtain⟨p,ys,rfl,h⟩:=h;obtain⟨u,rfl,rx⟩:=vals1 r;cases rx
 rcases h with⟨hq,q⟩|⟨hq,q⟩
 .obtain⟨its,r',pl,hz⟩:=I.list hq
  have hlen:=r'.length;refine call_tuple_list pl.isList (fun h' kp=>?_) (by simp only[List.size_toArray] <;> omega);have I1:Inv X pins σ H { s with heap:=h' }:=I.kept (t':=s.toks) kp
  have I2:Inv X pins σ (upd H h'.objs.size (.tup ys)) { s with heap:=h'.push { cls:=.type "tuple",data:=.seq its.toArray } }:=
   I1.laid (t':=s.toks) (fun b o e=>Heap.get?_push_of_some _ e) (Nat.le_refl _) (show ObjOk X.prog X.w _ _ _ (.tup ys) from⟨hz,its,r',IsTup.new _ _⟩)
  exact⟨.ref h'.objs.size,_,I2,rfl,q _ (I1.hok.fresh (Nat.le_refl _))⟩
 .obtain⟨its,r',pl,hz⟩:=I.tuple hq
  exact call_tuple_same pl ⟨.ref p,H,I,rfl,q⟩
def tyV(K:Frag)(T:String)(x:V)(H:Hp):Prop:=match x with
 |.str _=>T="str"
 |.int _=>T="int"
 |.ref p=>(T="list"/\∃xs,SqL K H p xs)\/(T="tuple"/\∃o,K.lookup p=some o/\o.cls=.type "tuple"/\o.dict=none) \/
   (T="dict"/\((∃kvs,H p=some (.dK kvs))\/∃kvs,H p=some (.dT kvs)))\/(T="set"/\∃S n,H p=some (.set S n))
 |_=>False
theorem FU(I:Inv X pins σ H s)(r:RelV x v)(ty:tyV X.K T x H) :
  s.TypeIs v T/\∀a,v=.ref a->∃ob,s.heap.get? a=some ob/\ob.dict=none:=by
 cases x with
 |str z=>
  obtain⟨t,rfl⟩:=r;cases (show T="str" from ty);exact⟨typeIs_str s z t,fun _ e=>nomatch e⟩
 |int i=>
  obtain⟨t,rfl⟩:=r;cases (show T="int" from ty);exact⟨typeIs_int s i t,fun _ e=>nomatch e⟩
 |ref p=>
  cases r
  rcases ty with⟨rfl,xs,hq⟩|⟨rfl,o,hk,hc,hd⟩|⟨rfl,hk⟩|⟨rfl,S,n,hk⟩
  .obtain⟨its,_,pl,_⟩:=I.list hq
   refine⟨pl.isList.typeIs,fun a e=>?_⟩;cases e;obtain⟨o,n,e,c,hd,_⟩:=pl;exact⟨o,e,hd⟩
  .refine⟨⟨o,I.kIn p o hk,hc⟩,fun a e=>?_⟩
   cases e;exact⟨o,I.kIn _ o hk,hd⟩
  .have z:∃o,s.heap.get? p=some o/\o.ExactDict:=by
    rcases hk with⟨kvs,hk⟩|⟨kvs,hk⟩
    .obtain⟨_,_,_,_,o,_,_,e,ex,_⟩:=I.hok p _ hk
     exact⟨o,e,ex⟩
    .obtain⟨_,_,_,_,o,_,_,e,ex,_⟩:=I.hok p _ hk
     exact⟨o,e,ex⟩
   obtain⟨o,e,ex⟩:=z;refine⟨⟨o,e,ex.1⟩,fun a e2=>?_⟩;cases e2;exact⟨o,e,ex.2.1⟩
  .obtain⟨o,_,_,_,e,ex,_⟩:=I.hok p _ hk
   refine⟨⟨o,e,ex.1⟩,fun a e2=>?_⟩;cases e2;exact⟨o,e,ex.2.1⟩
 |_=>exact False.elim ty
def tBM(K:Frag)(T:String)(r:V->List V->Hp->VK->Prop)(to:TE)(t:TA):TE:=fun σ H Q=>to σ H fun x H1=>tyV K T x H1/\t σ H1 fun xs H2=>r x xs H2 Q
variable {o e:Expr}{es:List Expr}{to:TE}{t:TA}{name:Str}{apos cpos:Pos}{T id:String}{r:V->List V->Hp->VK->Prop}
theorem lh(pa:PlainAttrs T)(slot:Slot T name id)(hty:typeOf (.builtin id)=pure (.type "method_descriptor"))(hm:MtR X id r)(ho:PE X o to)(ha:PA X (e::es) t)
  (hbase:attributeBase o name X.env (eval o X.env)=eval o X.env:=by rfl)
  (hfew:((backTo cpos (starEach (e::es) X.env)).all (fun x=>!x.1)&&(backToKw cpos (keywordEach [] X.env)).all (fun x=>x.1.isSome)
   && decide ((e::es).length+([]:List Keyword).length+(if ([]:List Keyword).isEmpty then 0 else 1)<30))=true:=by rfl)
  (hline:(apos.endLine == cpos.line)=true:=by rfl) (hs:starEach (e::es) X.env=(false,eval e X.env)::starEach es X.env:=by rfl) (hplain:(backTo cpos (starEach es X.env)).any (·.1)=false:=by rfl) :
  PE X (.Call (.Attribute o name apos) (e::es) [] cpos) (tBM X.K T r to t):=by
 intro pins s σ H Q I h;refine wpAny_Call_method_late hbase hfew hline rfl (thn (ho pins s σ H _ I h) fun v s1 ⟨x,H1,I1,r1,ty,q1⟩=>?_);obtain⟨h1,h2⟩:=FU I1 r1 ty;refine⟨T,id,pa,slot,hty,h1,h2,?_⟩;have hA:=ha cpos pins s1 σ H1 _ I1 q1;rw[hs] at hA ⊢;refine Calls.callWith_builtin (by show (false||(backTo cpos (starEach es X.env)).any (·.1))=false;rw[hplain] <;> rfl) (Calls.evalArgs_plain ?_);exact thn hA fun us s2 ⟨vs,H2,I2,r2,q2⟩=>hm pins s2 σ H2 x vs v us Q I2 r1 r2 q2
end
def MtM(X:Cx)(id:String)(r:V->List V->Hp->VK->Prop):Prop:=
 ∀(pins:List (Addr×Obj)) (s:Shared) (σ:St) (H:Hp) (x:V) (xs:List V) (v:Value) (us:List Value) (Q:VK),Inv X pins σ H s->RelV x v->Vals xs us->r x xs H Q ->
  wpAny (model X.prog X.w) X.A (call (.builtin id) (v::us)) (EP X pins σ Q) X.xe s
theorem Vals.one:∀{x:V}{us:List Value},Vals [x] us->∃u,us=[u]/\RelV x u
 |_,_,.cons r .nil=>⟨_,rfl,r⟩
theorem Vals.rep(h:Vals xs us):∀k:Nat,Vals (List.replicate k xs).flatten (List.replicate k us).flatten
 |0=>.nil
 |k+1=>by
  rw[List.replicate_succ,List.replicate_succ,List.flatten_cons,List.flatten_cons];exact Vals.append h (Vals.rep h k)
theorem foldl_rep(its:List Value):∀(k:Nat) (acc:List Value),
  List.foldl (fun x1 x2=>x1++x2) acc.toArray (List.replicate k its.toArray)=(acc++(List.replicate k its).flatten).toArray
 |0,acc=>by simp
 |k+1,acc=>by
  have e:acc.toArray++its.toArray=(acc++its).toArray:=by simp
  have e2:(acc++its)++(List.replicate k its).flatten=acc++(List.replicate (k+1) its).flatten:=by
   rw[List.replicate_succ,List.flatten_cons,List.append_assoc]
  rw[←e2,←foldl_rep its k (acc++its),←e,List.replicate_succ,List.foldl_cons]
section
variable {X:Cx}{pins:List (Addr×Obj)}{σ:St}{H:Hp}{s:Shared}{l b:Addr}{xs ys zs:List V}
theorem Inv.lset{its its':List Value}{f:Array Value->Array Value}(I:Inv X pins σ H s)(hH:H l=some (.lst xs))
  (e:s.heap.get? l=some { cls:=.type "list",data:=.seq its.toArray n }) (hf:f its.toArray=its'.toArray) (hv:Vals ys its') (hz:ys.length<=sizeLine) :
  Inv X pins σ (upd H l (.lst ys)) { s with heap:=s.heap.update l (Obj.mapSeq f),toks:=t' }:=by
 have q:=PySem.IsL.update e f;rw[hf] at q;refine I.write (x:=l) (e:=l) (by rw[hH];exact trivial) (.inl rfl) (fun b' u hb hu=>(Heap.get?_update_other s.heap (Obj.mapSeq f) (Ne.symm hb)).trans hu) ⟨_,q⟩ ?_;exact⟨hz,its',_,hv,q⟩
theorem Inv.lnew(I:Inv X pins σ H s)(hv:Vals ys its)(hz:ys.length<=sizeLine) :
  Inv X pins σ (upd H s.heap.objs.size (.lst ys)) { s with heap:=s.heap.push { cls:=.type "list",data:=.seq its.toArray },toks:=t' }:=I.laid (fun _ _ q=>Heap.get?_push_of_some _ q) (Nat.le_refl _) ⟨hz,its,0,hv,Heap.get?_push_size _ rfl⟩
theorem Inv.fresh(I:Inv X pins σ H s):H s.heap.objs.size=none:=I.hok.fresh (Nat.le_refl _)
theorem Inv.lstM(I:Inv X pins σ H s)(hH:H l=some (.lst xs)):xs.length<=sizeLine/\∃(its:List Value) (n:Nat),Vals xs its/\xs.length=its.length/\s.heap.get? l=some { cls:=.type "list",data:=.seq its.toArray n }:=by
 obtain⟨z,its,n,r,e⟩:=I.hok l _ hH;exact⟨z,its,n,r,r.length,e⟩
theorem CP(h:n<=sizeLine):Builtin.List.listTooLong n=false:=by
 unfold Builtin.List.listTooLong;exact decide_eq_false (by omega)
end
section
variable {X:Cx}
def D6:V->List V->Hp->VK->Prop:=fun x vs H Q=>∃l xs y,x=.ref l/\vs=[y]/\H l=some (.lst xs)/\xs.length<sizeLine/\Q .non (upd H l (.lst (xs++[y])))
theorem BE:MtM X "list.append" D6:=by
 intro pins s σ H x vs v us Q I rx rv h;obtain⟨l,xs,y,rfl,rfl,hH,hz,q⟩:=h;cases rx;obtain⟨u,rfl,ru⟩:=rv.one;obtain⟨z,its,n,r,hl,e⟩:=I.lstM hH;refine call_meets F.slot_list_append ⟨_,e,rfl⟩ F.entry_list_append (F.args_list_append_2 _ _) (PySem.list_append l its.toArray n u (by rw[List.size_toArray];omega)) ⟨e,?_⟩;refine⟨.non,_,I.lset (its':=its++[u]) hH e (by simp) (r.append (.cons ru .nil)) ?_,rfl,q⟩;rw[List.length_append,List.length_singleton];omega
theorem len_rep{α:Type}(xs:List α)(k:Nat):(List.replicate k xs).flatten.length=k*xs.length:=by
 induction k with
 |zero=>simp
 |succ k ih=>rw[List.replicate_succ,List.flatten_cons,List.length_append,ih,Nat.succ_mul,Nat.add_comm]
end
section
variable {prog:Program}{w:World}{A:Around}{E:Value->Shared->Prop}{s:Shared}
end
section
variable {X:Cx}
end
section
variable {κ:Type}[DecidableEq κ]
def bJ(kvs:List (κ×V))(k:κ):Option V:=(kvs.find? fun kv=>decide (kv.1=k)).map (·.2)
def putK(kvs:List (κ×V))(k:κ)(v:V):List (κ×V):=if (kvs.any fun kv=>decide (kv.1=k))=true then kvs.map (fun kv=>if kv.1=k then (kv.1,v) else kv) else kvs++[(k,v)]
theorem pX{p:κ×V}(e:p.1=k):bJ (p::r) k=some p.2:=by simp[bJ,List.find?_cons,e]
theorem pY{p:κ×V}(e:¬p.1=k):bJ (p::r) k=bJ r k:=by simp[bJ,List.find?_cons,e]
theorem pZ(k:κ):∀kvs:List (κ×V),(kvs.any fun kv=>decide (kv.1=k))=(bJ kvs k).isSome
 |[]=>rfl
 |p::r=>by
  rw[List.any_cons]
  by_cases e:p.1=k
  .simp only[pX e,decide_eq_true e,Bool.true_or,Option.isSome_some]
  .rw[pY e,decide_eq_false e,Bool.false_or];exact pZ k r
theorem pF(kvs:List (κ×V))(k:κ)(v:V):(putK kvs k v).length<=kvs.length+1:=by
 unfold putK;split
 .rw[List.length_map];omega
 .rw[List.length_append,List.length_cons,List.length_nil];omega
theorem Cv{kvs:List (κ×V)}{k:κ}(v:V)(h:bJ kvs k=none):putK kvs k v=kvs++[(k,v)]:=by
 unfold putK;rw[pZ,h];exact if_neg (by decide)
theorem RelO.isSome_eq(r:RelO o u):o.isSome=u.isSome:=by
 cases o with
 |none=>cases u with
  |none=>rfl
  |some _=>exact(show False from r).elim
 |some _=>cases u with
  |none=>exact(show False from r).elim
  |some _=>rfl
theorem RelO.getD(r:RelO o u)(rd:RelV d d'):RelV (o.getD d) (u.getD d'):=by
 cases o with
 |none=>cases u with
  |none=>exact rd
  |some _=>exact(show False from r).elim
 |some _=>cases u with
  |none=>exact(show False from r).elim
  |some _=>exact r
theorem KV.val(r:KV kvs vs)(k:κ):RelO (bJ kvs k) (valueAt vs k):=by
 unfold KV at r
 induction r with
 |nil=>exact True.intro
 |@cons p q ps qs h t ih=>
  obtain⟨h1,h2⟩:=h
  by_cases e:p.1=k
  .have e':q.1=k:=h1.symm.trans e
   have b:valueAt (q::qs) k=some q.2:=by simp[valueAt,List.find?_cons,e']
   rw[pX e,b];exact h2
  .have e':¬q.1=k:=fun z=>e (h1.trans z)
   have b:valueAt (q::qs) k=valueAt qs k:=by simp[valueAt,List.find?_cons,e']
   rw[pY e,b];exact ih
theorem KV.any(r:KV kvs vs)(k:κ):(kvs.any fun kv=>decide (kv.1=k))=vs.any fun kv=>decide (kv.1=k):=by
 unfold KV at r
 induction r with
 |nil=>rfl
 |cons h t ih=>rw[List.any_cons,List.any_cons,ih,h.1]
theorem KV.repl(r:KV kvs vs)(k:κ)(ry:RelV y u) :
  KV (kvs.map fun kv=>if kv.1=k then (kv.1,y) else kv) (vs.map fun kv=>if kv.1=k then (kv.1,u) else kv):=by
 unfold KV at r ⊢
 induction r with
 |nil=>exact .nil
 |@cons p q ps qs h t ih=>
  rw[List.map_cons,List.map_cons];refine .cons ?_ ih;obtain⟨h1,h2⟩:=h
  by_cases e:p.1=k
  .rw[if_pos e,if_pos (h1.symm.trans e)];exact⟨h1,ry⟩
  .rw[if_neg e,if_neg (fun z=>e (h1.trans z))];exact⟨h1,h2⟩
theorem KV.put(r:KV kvs vs)(k:κ)(ry:RelV y u):KV (putK kvs k y) (stored vs k u):=by
 unfold putK stored;rw[r.any k]
 by_cases e:(vs.any fun kv=>decide (kv.1=k))=true
 .rw[if_pos e,if_pos e];exact r.repl k ry
 .rw[if_neg e,if_neg e];exact Paired.snoc r ⟨rfl,ry⟩
theorem KV.keys{kvs:List (κ×V)}{vs:List (κ×Value)}(r:KV kvs vs):kvs.map (·.1)=vs.map (·.1):=by
 unfold KV at r
 induction r with
 |nil=>rfl
 |cons h t ih=>rw[List.map_cons,List.map_cons,ih,h.1]
theorem KV.length(r:KV kvs vs):kvs.length=vs.length:=Paired.length r
end
theorem i4(r:RelV (kV k) u):(bx P w).is k u=true:=by
 cases k with
 |inl i=>obtain⟨t,e⟩:=(show ∃t,u=Value.int i t from r);subst e;exact AG P w i t
 |inr x=>obtain⟨t,e⟩:=(show ∃t,u=Value.str x t from r);subst e;exact AF P w x t
theorem uu:∀{ks:List Key}{us:List Value},Vals (ks.map kV) us->ItemsAre (bx P w) ks us
 |[],_,r=>by rw[List.map_nil] at r;cases r;exact .nil
 |k::ks,_,r=>by
  rw[List.map_cons] at r
  cases r with
  |cons h t=>exact .cons (i4 h) (uu t)
abbrev KT(H:Hp):List (List Key×V)->List (List Key×Addr×Value)->Prop:=Paired fun p q=>p.1=q.1/\H q.2.1=some (.tup (p.1.map kV))/\RelV p.2 q.2.2
theorem KT.val(r:KT H kvs xs)(k:List Key):RelO (bJ kvs k) ((atKey xs k).map (·.2)):=by
 induction r with
 |nil=>exact True.intro
 |@cons p q ps qs h t ih=>
  obtain⟨h1,_,h2⟩:=h
  by_cases e:p.1=k
  .have e':q.1=k:=h1.symm.trans e
   have b:atKey (q::qs) k=some q.2:=by simp[atKey,List.find?_cons,e']
   rw[pX e,b];exact h2
  .have e':¬q.1=k:=fun z=>e (h1.trans z)
   have b:atKey (q::qs) k=atKey qs k:=by simp[atKey,List.find?_cons,e']
   rw[pY e,b];exact ih
theorem KT.repl(r:KT H kvs xs)(k:List Key)(ry:RelV y u) :
  KT H (kvs.map fun kv=>if kv.1=k then (kv.1,y) else kv) (xs.map (putAt k u)):=by
 induction r with
 |nil=>exact .nil
 |@cons p q ps qs h t ih=>
  rw[List.map_cons,List.map_cons];refine .cons ?_ ih;obtain⟨h1,h2,h3⟩:=h;unfold putAt
  by_cases e:p.1=k
  .rw[if_pos e,if_pos (h1.symm.trans e)];exact⟨h1,h2,ry⟩
  .rw[if_neg e,if_neg (fun z=>e (h1.trans z))];exact⟨h1,h2,h3⟩
theorem KT.put(r:KT H kvs xs)(k:List Key)(hb:H b=some (.tup (k.map kV)))(ry:RelV y u) :
  KT H (putK kvs k y) (storedH xs k b u):=by
 have e:(kvs.any fun kv=>decide (kv.1=k))=(atKey xs k).isSome:=by
  rw[pZ,(r.val k).isSome_eq,Option.isSome_map]
 unfold putK storedH;rw[e]
 by_cases q:(atKey xs k).isSome=true
 .rw[if_pos q,if_pos q];exact r.repl k ry
 .rw[if_neg q,if_neg q];exact Paired.snoc r ⟨rfl,hb,ry⟩
theorem KT.keeps(r:KT H kvs xs)(ht:∀b ys,H b=some (.tup ys)->H' b=some (.tup ys)):KT H' kvs xs:=Paired.mapP r fun _ _ z=>⟨z.1,ht _ _ z.2.1,z.2.2⟩
section
variable {P:Program}{w:World}{H:Hp}{h:Heap}{a:Addr}
theorem yF(ok:HOk P w H h)(e:Rd H a u):ObjOk P w H h a u:=e.ok ok
theorem dP(ok:HOk P w H h)(e:Rd H a (.dK kvs)):kvs.length<=sizeLine/\(a == sysModules)=false/\∃vs,KV kvs vs/\h.DictOf (bx P w) a vs:=show ObjOk P w H h a (.dK kvs) from yF ok e
theorem IY(ok:HOk P w H h)(e:H a=some (.dK kvs)):kvs.length<=sizeLine/\(a == sysModules)=false/\∃vs,KV kvs vs/\h.DictOf (bx P w) a vs:=dP ok (.inl e)
theorem jD(ok:HOk P w H h)(e:H a=some (.tup (ks.map kV))):(tupleKind (bx P w)).is h ks a:=by
 obtain⟨_,its,r,o,h1,h2,n,h3⟩:=(show ObjOk P w H h a (.tup (ks.map kV)) from ok a _ e);exact⟨o,its.toArray,n,h1,h2,h3,by simpa using uu r⟩
theorem i5(ok:HOk P w H h)(e:Rd H a (.dT kvs)):kvs.length<=sizeLine/\(a == sysModules)=false /\
  ∃xs,KT H kvs xs/\h.DictOfH (tupleKind (bx P w)) a xs:=by
 obtain⟨z,y,xs,r,o,es,ep,h1,h2,h3,h4,h5⟩:=(show ObjOk P w H h a (.dT kvs) from yF ok e);refine⟨z,y,xs,r,o,es,ep,h1,h2,h3,h4,fun x hx=>?_,h5⟩
 have all:∀{l:List (List Key×V)}{m:List (List Key×Addr×Value)},KT H l m->∀x∈m,(tupleKind (bx P w)).is h x.1 x.2.1:=by
  intro l m q
  induction q with
  |nil=>intro x hx;exact nomatch hx
  |@cons p q ps qs hq t ih=>
   intro x hx
   rcases List.mem_cons.mp hx with e|hx
   .subst e
    exact jD ok (by rw[←hq.1];exact hq.2.1)
   .exact ih x hx
 exact all r x hx
theorem IX(ok:HOk P w H h)(e:H a=some (.dT kvs)):kvs.length<=sizeLine/\(a == sysModules)=false /\
  ∃xs,KT H kvs xs/\h.DictOfH (tupleKind (bx P w)) a xs:=i5 ok (.inl e)
end
def DGet(H:Hp)(a:Addr)(y:V)(r:Option V):Prop:=(∃kvs k,Rd H a (.dK kvs)/\y=kV k/\r=bJ kvs k)\/∃kvs k b,Rd H a (.dT kvs)/\y=.ref b/\H b=some (.tup (k.map kV))/\r=bJ kvs k
def DPut(H:Hp)(a:Addr)(y v:V)(H':Hp):Prop:=
 (∃kvs k,H a=some (.dK kvs)/\y=kV k/\kvs.length<sizeLine/\H'=upd H a (.dK (putK kvs k v))) \/
 ∃kvs k b,H a=some (.dT kvs)/\y=.ref b/\H b=some (.tup (k.map kV))/\kvs.length<sizeLine/\H'=upd H a (.dT (putK kvs k v))
theorem DPut.k{H:Hp}{a:Addr}{kvs:List (Key×V)}{k:Key}{v:V}(e:H a=some (.dK kvs))(hl:kvs.length<sizeLine):DPut H a (kV k) v (upd H a (.dK (putK kvs k v))):=.inl ⟨kvs,k,e,rfl,hl,rfl⟩
section
variable {X:Cx}{pins:List (Addr×Obj)}{σ:St}{H:Hp}{s:Shared}{a:Addr}{y v:V}{u r:Value}{o:Option V}{A:Around}{E:Value->Shared->Prop}
theorem Inv.big(I:Inv X pins σ H s):sysModules<s.heap.objs.size:=by
 have h:mainGlobals<s.heap.objs.size:=(I.mod.glob.keeps I.bk).lt;exact Nat.lt_trans (by decide) h
theorem Cb(hu:A.units+1<cLine)(I:Inv X pins σ H s)(g:DGet H a y (some v))(ry:RelV y u)(h:∀w' s',Inv X pins σ H s'->RelV v w'->Q w' s') :
  wpAny (model X.prog X.w) A (getItem (.ref a) u) Q E s:=by
 rcases g with⟨kvs,k,e,ey,l⟩|⟨kvs,k,b,e,ey,eb,l⟩
 .subst ey
  obtain⟨z,hd,vs,rel,dd⟩:=dP I.hok e;obtain⟨w',hw,rw'⟩:=RelO.some_of (v:=v) (o:=valueAt vs k) (by rw[l];exact rel.val k);exact wpAny_getItem_of (i4 ry) dd.mapOf hw (h w' _ (I.tok _) rw')
 .subst ey
  cases (show u=Value.ref b from ry);obtain⟨z,hd,xs,rel,dd⟩:=i5 I.hok e;obtain⟨w',hw,rw'⟩:=RelO.some_of (v:=v) (o:=(atKey xs k).map (·.2)) (by rw[l];exact rel.val k);obtain⟨p,hp,hp2⟩:=Option.map_eq_some_iff.mp hw;refine wpAny_getItem_heap (tupleKind_room_in1 hu) (jD I.hok eb) dd hp ?_;rw[hp2];exact h w' _ (I.tok _) rw'
theorem JH(hu:A.units+1<cLine)(I:Inv X pins σ H s)(g:DGet H a y o)(ry:RelV y u)(h:∀s',Inv X pins σ H s'->Q (.bool o.isSome) s') :
  wpAny (model X.prog X.w) A (compareOp .In u (.ref a)) Q E s:=by
 rcases g with⟨kvs,k,e,ey,l⟩|⟨kvs,k,b,e,ey,eb,l⟩
 .subst ey
  obtain⟨z,hd,vs,rel,dd⟩:=dP I.hok e;refine wpAny_in_of (i4 ry) hd dd.mapOf ?_;rw[←(rel.val k).isSome_eq,←l];exact h _ (I.tok _)
 .subst ey
  cases (show u=Value.ref b from ry);obtain⟨z,hd,xs,rel,dd⟩:=i5 I.hok e;refine wpAny_in_heap (tupleKind_room_in1 hu) (jD I.hok eb) hd dd ?_;have q:=(rel.val k).isSome_eq;rw[Option.isSome_map] at q;rw[←q,←l];exact h _ (I.tok _)
theorem Fi(hu:A.units+1<cLine)(I:Inv X pins σ H s)(g:DGet H a y o)(ry:RelV y u)(h:∀s',Inv X pins σ H s'->Q (.bool (!o.isSome)) s') :
  wpAny (model X.prog X.w) A (compareOp .NotIn u (.ref a)) Q E s:=by
 rcases g with⟨kvs,k,e,ey,l⟩|⟨kvs,k,b,e,ey,eb,l⟩
 .subst ey
  obtain⟨z,hd,vs,rel,dd⟩:=dP I.hok e;refine wpAny_notIn_of (i4 ry) hd dd.mapOf ?_;rw[←(rel.val k).isSome_eq,←l];exact h _ (I.tok _)
 .subst ey
  cases (show u=Value.ref b from ry);obtain⟨z,hd,xs,rel,dd⟩:=i5 I.hok e;refine wpAny_notIn_heap (tupleKind_room_in1 hu) (jD I.hok eb) hd dd ?_;have q:=(rel.val k).isSome_eq;rw[Option.isSome_map] at q;rw[←q,←l];exact h _ (I.tok _)
theorem xc(I:Inv X pins σ H s)(mu:Mut (H a))(hs:Heap.SameBut a s.heap h')(he:∃q,h'.get? a=some q)(new:ObjOk X.prog X.w (upd H a ob) h' a ob) :
  Inv X pins σ (upd H a ob) { s with heap:=h',toks:=t' }:=I.write (x:=a) (e:=a) mu (.inl rfl) (fun b q hb z=>(hs.2 b hb).trans z) he new
theorem rH(z:kvs.length<=sizeLine)(hd:(a == sysModules)=false)(rel:KV kvs vs)(dd:h'.DictOf (bx P w) a vs) :
  ObjOk P w H' h' a (.dK kvs):=⟨z,hd,vs,rel,dd⟩
theorem Ca(hu:A.units+1<cLine)(I:Inv X pins σ H s)(g:DPut H a y v H')(ry:RelV y u)(rv:RelV v r)(h:∀s',Inv X pins σ H' s'->Q () s') :
  wpAny (model X.prog X.w) A (setItem (.ref a) u r) Q E s:=by
 rcases g with⟨kvs,k,e,ey,l,eH⟩|⟨kvs,k,b,e,ey,eb,l,eH⟩
 .subst ey eH
  obtain⟨z,hd,vs,rel,dd⟩:=IY I.hok e
  have hz:vs.length<=sizeLine:=by rw[←rel.length];exact z
  have hl:(putK kvs k v).length<=sizeLine:=by have:=pF kvs k v;omega
  refine wpAny_setItem_pairs (hsz:=hz) (i4 ry) dd fun h' dd' hs=>h _ ?_
  have he:∃q,h'.get? a=some q:=let ⟨q,_,_,hq,_⟩:=dd';⟨q,hq⟩
  exact xc I (by rw[e];exact True.intro) hs he (rH hl hd (rel.put k rv) dd')
 .subst ey eH
  cases (show u=Value.ref b from ry);obtain⟨z,hd,xs,rel,dd⟩:=IX I.hok e
  have hz:xs.length<=sizeLine:=by rw[←Paired.length rel];exact z
  have hl:(putK kvs k v).length<=sizeLine:=by have:=pF kvs k v;omega
  refine wpAny_setItem_heap (hsz:=hz) (tupleKind_room_in1 hu) (jD I.hok eb) dd fun h' dd' hs=>h _ ?_;obtain⟨q,es,ep,hq,h2,h3,h4,_,h5⟩:=dd';refine xc I (by rw[e];exact True.intro) hs ⟨q,hq⟩ ⟨hl,hd,_,(rel.put k eb rv).keeps fun c ys ec=>?_,q,es,ep,hq,h2,h3,h4,h5⟩;rw[aT (Ir ec e (fun z=>nomatch z))];exact ec
end
section
variable {X:Cx}{pins:List (Addr×Obj)}{σ:St}{H:Hp}{s:Shared}{a:Addr}{kvs:List (Key×V)}{k:Key}{u:Value}{A:Around}{E:Value->Shared->Prop}
theorem Jd(I:Inv X pins σ H s)(e:Rd H a (.dK kvs))(h:∀t s',Inv X pins σ H s'->Q (.int kvs.length t) s'):wpAny (model X.prog X.w) A (call (.builtin "len") [.ref a]) Q E s:=by
 obtain⟨z,hd,vs,rel,dd⟩:=dP I.hok e;refine call_len_dict hd dd (by rw[←rel.length];rw[sizeLine_eq] at z;omega) ?_;rw[←rel.length];exact h _ _ (I.tok _)
end
theorem tj(I:Inv X pins σ H s)(g:DGet H a y o):s.TypeIs (.ref a) "dict":=by
 rcases g with⟨kvs,k,e,_,_⟩|⟨kvs,k,b,e,_,_,_⟩
 .obtain⟨_,_,vs,_,dd⟩:=dP I.hok e
  exact dd.typeIs
 .obtain⟨_,_,xs,_,dd⟩:=i5 I.hok e
  exact dd.typeIs
def HQ(td ty tv:TE):TS:=fun D σ H=>tv σ H fun v H1=>td σ H1 fun x H2=>ty σ H2 fun y H3=>∃a H4,x=.ref a/\DPut H3 a y v H4/\D.nx σ H4
section
variable {X:Cx}{o i e value:Expr}{pos pos' tpos:Pos}{td ty tv:TE}
theorem Ef(hu:X.A.units+1<cLine)(ho:PE X o td)(hi:PE X i ty)(hv:PE X value tv)(hs:swapsWith value (some (.Subscript o i pos')) pos.line X.env=pure false) :
  PS X (.Assign [.Subscript o i pos'] value pos) (HQ td ty tv):=by
 intro pins s σ H D I h;refine wpAny_Assign_Subscript (thn (hv pins s σ H _ I h) fun r s1 ⟨v,H1,I1,rv,q1⟩=>thn (ho pins s1 σ H1 _ I1 q1) fun u s2 ⟨x,H2,I2,rx,q2⟩=>thn (hi pins s2 σ H2 _ I2 q2) fun iv s3 ⟨y,H3,I3,ry,a,H4,ex,g,q3⟩=>?_) hs;subst ex;obtain rfl:u=Value.ref a:=rx;exact Ca hu I3 g ry rv fun s4 I4=>⟨σ,H4,I4,q3⟩
end
theorem Dm(h:Heap)(hb:sysModules<h.objs.size):ObjOk P w H (h.push { cls:=.type "dict",data:=.dict #[] }) h.objs.size (.dK []):=⟨Nat.zero_le _,beq_eq_false_iff_ne.mpr (Ne.symm (Nat.ne_of_lt hb)),[],.nil,Heap.DictOf.new h⟩
def F3:TE:=fun _ H Q=>∀p,H p=none->Q (.ref p) (upd H p (.dK []))
section
variable {X:Cx}{pos:Pos}
theorem CI:PE X (.Dict [] [] pos) F3:=fun pins s σ H Q I h=>
 wpAny_Dict_empty ⟨.ref s.heap.objs.size,_,I.laid (a:=s.heap.objs.size) (o:=.dK []) (t':=s.toks) (fun _ _ q=>Heap.get?_push_of_some _ q) (Nat.le_refl _) (Dm s.heap I.big),rfl,h _ (I.hok.fresh (Nat.le_refl _))⟩
end
def qY:List (TE×TE)->St->Hp->(List (V×V)->Hp->Prop)->Prop
 |[],_,H,Q=>Q [] H
 |(tk,tv)::r,σ,H,Q=>tk σ H fun x H1=>tv σ H1 fun y H2=>qY r σ H2 fun ps H3=>Q ((x,y)::ps) H3
abbrev VV:List (V×V)->List (Value×Value)->Prop:=Paired fun p q=>RelV p.1 q.1/\RelV p.2 q.2
def PPs(X:Cx)(pos:Pos)(keys:List (Option Expr))(values:List Expr)(trs:List (TE×TE)):Prop:=
 ∀(pins:List (Addr×Obj)) (s:Shared) (σ:St) (H:Hp) (Q:List (V×V)->Hp->Prop),Inv X pins σ H s->qY trs σ H Q ->
  wpAny (model X.prog X.w) X.A (evalPairs (pairTrees keys values X.env pos)) (fun vs s'=>∃ps H',Inv X pins σ H' s'/\VV ps vs/\Q ps H') X.xe s
def fK(kvs more:List (Key×V)):List (Key×V):=more.foldl (fun acc kv=>putK acc kv.1 kv.2) kvs
theorem KV.merge:∀{more:List (Key×V)}{rs:List (Key×Value)}{kvs:List (Key×V)}{vs:List (Key×Value)},KV more rs->KV kvs vs->KV (fK kvs more) (merged vs rs):=by
 intro more rs kvs vs r;unfold KV at r
 induction r generalizing kvs vs with
 |nil=>intro q;exact q
 |@cons p q ps qs h t ih=>
  intro r0
  have e:KV (putK kvs p.1 p.2) (stored vs q.1 q.2):=by
   have:=r0.put p.1 h.2;rw[←h.1];exact this
  exact ih e
theorem sT:∀(more kvs:List (Key×V)),(fK kvs more).length<=kvs.length+more.length
 |[],kvs=>by show kvs.length<=kvs.length+0;omega
 |p::r,kvs=>by
  have h1:=sT r (putK kvs p.1 p.2);have h2:=pF kvs p.1 p.2;show (fK (putK kvs p.1 p.2) r).length<=_;rw[List.length_cons];omega
structure M1(X:Cx)(o:Expr)(m:Str)(apos:Pos)(e:Expr)(cpos:Pos):Prop where
 base:attributeBase o m X.env (eval o X.env)=eval o X.env
 few:((backTo cpos (starEach [e] X.env)).all (fun x=>!x.1)&&(backToKw cpos (keywordEach [] X.env)).all (fun x=>x.1.isSome)
  && decide (([e]:List Expr).length+([]:List Keyword).length+(if ([]:List Keyword).isEmpty then 0 else 1)<30))=true
 line:(apos.endLine == cpos.line)=true
 trees:backTo cpos (starEach [e] X.env)=[(false,eval e X.env)]
structure M2(X:Cx)(o:Expr)(m:Str)(apos:Pos)(e f:Expr)(cpos:Pos):Prop where
 base:attributeBase o m X.env (eval o X.env)=eval o X.env
 few:((backTo cpos (starEach [e,f] X.env)).all (fun x=>!x.1)&&(backToKw cpos (keywordEach [] X.env)).all (fun x=>x.1.isSome)
  && decide (([e,f]:List Expr).length+([]:List Keyword).length+(if ([]:List Keyword).isEmpty then 0 else 1)<30))=true
 line:(apos.endLine == cpos.line)=true
 trees:backTo cpos (starEach [e,f] X.env)=[(false,eval e X.env),(false,eval f X.env)]
def IsD(H:Hp)(a:Addr):Prop:=(∃kvs,Rd H a (.dK kvs))\/∃kvs,Rd H a (.dT kvs)
theorem GY(I:Inv X pins σ H s)(d:IsD H a) :
  s.TypeIs (.ref a) "dict"/\(∀b,Value.ref a=.ref b->∃ob,s.heap.get? b=some ob/\ob.dict=none)/\(a == sysModules)=false:=by
 rcases d with⟨kvs,e⟩|⟨kvs,e⟩
 .obtain⟨_,hd,vs,_,dd⟩:=dP I.hok e
  refine⟨dd.typeIs,fun b q=>?_,hd⟩;cases q;obtain⟨ob,_,_,h1,h2,_⟩:=dd;exact⟨ob,h1,h2.2.1⟩
 .obtain⟨_,hd,xs,_,dd⟩:=i5 I.hok e
  refine⟨dd.typeIs,fun b q=>?_,hd⟩;cases q;obtain⟨ob,_,_,h1,h2,_⟩:=dd;exact⟨ob,h1,h2.2.1⟩
section
variable {X:Cx}{pins:List (Addr×Obj)}{σ:St}{H:Hp}{s:Shared}{a:Addr}{y d:V}{u r:Value}{o:Option V}{A:Around}{E:Value->Shared->Prop}
theorem Hm(hu:A.units+1<cLine)(I:Inv X pins σ H s)(g:DGet H a y o)(ry:RelV y u)(rd:RelV d r)(h:∀w' s',Inv X pins σ H s'->RelV (o.getD d) w'->Q w' s') :
  wpAny (model X.prog X.w) A (call (.builtin "dict.get") [.ref a,u,r]) Q E s:=by
 rcases g with⟨kvs,k,e,ey,l⟩|⟨kvs,k,b,e,ey,eb,l⟩
 .subst ey
  obtain⟨z,hd,vs,rel,dd⟩:=dP I.hok e;refine call_meetsIn PySem.F.slot_dict_get dd.typeIs PySem.F.entry_dict_get (PySem.F.args_dict_get_3 _ _ _) (meets_dict_get_default (bx X.prog X.w) a (i4 ry) hd r) ⟨_,dd.mapOf,h _ _ (I.tok _) ?_⟩;rw[l];exact(rel.val k).getD rd
 .subst ey
  cases (show u=Value.ref b from ry);obtain⟨z,hd,xs,rel,dd⟩:=i5 I.hok e;refine call_meetsIn PySem.F.slot_dict_get dd.typeIs PySem.F.entry_dict_get (PySem.F.args_dict_get_3 _ _ _) (meetsH_dict_get_default (tupleKind (bx X.prog X.w)) a b hd r) ⟨tupleKind_room_in1 hu,k,xs,jD I.hok eb,dd,h _ _ (I.tok _) ?_⟩;rw[l];exact(rel.val k).getD rd
end
def F4(td ty tx:TE):TE:=fun σ H Q=>td σ H fun x H1=>∃a,x=.ref a/\IsD H1 a/\ty σ H1 fun y H2=>tx σ H2 fun z H3=>∃o,DGet H3 a y o/\Q (o.getD z) H3
section
variable {X:Cx}{o e f:Expr}{apos cpos:Pos}{td ty tx:TE}
theorem CJ(hu:X.A.units+1<cLine)(ho:PE X o td)(he:PE X e ty)(hf:PE X f tx)(m:M2 X o "get" apos e f cpos):PE X (.Call (.Attribute o "get" apos) [e,f] [] cpos) (F4 td ty tx):=by
 intro pins s σ H Q I h;refine wpAny_Call_method m.base m.few m.line PySem.F.plainAttrs_dict PySem.F.slot_dict_get PySem.F.type_dict_get (thn (ho pins s σ H _ I h) fun u s1 ⟨x,H1,I1,rx,a,ex,d,q1⟩=>?_);subst ex;obtain rfl:u=Value.ref a:=rx;obtain⟨t1,t2,_⟩:=GY I1 d;refine⟨t1,t2,?_⟩;rw[m.trees]
 refine Calls.callWith_builtin rfl (Calls.evalArgs_plain (Calls.spliced_cons (thn (he pins s1 σ H1 _ I1 q1) fun iv s2 ⟨y,H2,I2,ry,q2⟩=>
  Calls.spliced_cons (thn (hf pins s2 σ H2 _ I2 q2) fun fv s3 ⟨z,H3,I3,rz,ov,g,q3⟩=>Calls.spliced_nil ?_))))
 exact Hm hu I3 g ry rz fun w' s4 I4 rw'=>⟨_,H3,I4,rw',q3⟩
end
section
variable {X:Cx}{pins:List (Addr×Obj)}{σ:St}{H:Hp}{s:Shared}{a:Addr}{kvs:List (Key×V)}{A:Around}{E:Value->Shared->Prop}
theorem Du(I:Inv X pins σ H s)(e:Rd H a (.dK kvs))(h:∀p s',H p=none->Inv X pins σ (upd H p (.dK kvs)) s'->Q (.ref p) s'):wpAny (model X.prog X.w) A (call (.type "dict") [.ref a]) Q E s:=by
 obtain⟨z,hd,vs,rel,dd⟩:=dP I.hok e;refine kt_call_dict hd dd (by rw[←rel.length];exact z) fun h' dd' hs=>?_;refine h _ _ (I.hok.fresh (Nat.le_refl _)) (I.laid (a:=s.heap.objs.size) (o:=.dK kvs) (t':=s.toks) (fun b q hq=>?_) (Nat.le_refl _) (rH z (beq_eq_false_iff_ne.mpr (Ne.symm (Nat.ne_of_lt I.big))) rel dd'));exact(hs.2 b (Nat.ne_of_lt (Heap.lt_size hq))).trans (Heap.get?_push_of_some _ hq)
end
section
variable {X:Cx}{pins:List (Addr×Obj)}{σ:St}{H:Hp}{s:Shared}{a:Addr}{y:V}{u:Value}{A:Around}{E:Value->Shared->Prop}
end
end L2
namespace Att
open PySem PySem.W PySem.Calls PyProof.Rows
theorem z7:∀(ns:List Int) (vs:List Value),WellAll P h vs (ns.map WData.int)->IntsAre vs ns:=by
 intro ns
 induction ns with
 |nil=>
  intro vs w;rw[List.map_nil] at w;cases w;exact .nil
 |cons n ns ih=>
  intro vs w;rw[List.map_cons] at w
  cases w with
  |cons a b=>
   cases a;exact .cons _ _ (ih _ b)
theorem Bs{l:OpenLaw}(hn:l.most=some n){h:Heap}
  (hpre:l.row.toRowW.claim.pre args=true) (hwl:WellAll P h vals args) :
  ∃a vs ns,vals=[Value.ref a]/\args=[WData.list (ns.map WData.int)]/\h.get? a=some { cls:=.type "list",data:=.seq vs.toArray }/\IntsAre vs ns/\ns.length<=n:=by
 have hsh:WShape.hasAll [] args [.list .int]=true:=(pre_splitW hpre).1;have hc:l.pre.holds [] { args:=args } = true:=(pre_splitW hpre).2;obtain⟨d,r,rfl,h1,h2⟩:=hasAllW_cons hsh;obtain rfl:=hasAllW_nil h2;obtain⟨xs,rfl,h3⟩:=hasW_list h1;obtain⟨ns,rfl⟩:=items_int h3
 have hlen:ns.length<=n:=by
  unfold OpenLaw.pre at hc
  have h4:(WTm.not (.lt (.lit (.int (n:Int))) (.len (.arg 0)))).holds [] { args:=[.list (ns.map .int)] } = true:=by
   have h4:=(holds_andW hc).1;rw[hn] at h4;exact h4
  have h5:=condW_of h4 (w_not (w_lt w_lit (w_len_list (w_arg rfl))));rw[List.length_map] at h5;refine Nat.le_of_not_lt fun q=>?_
  have q':(n:Int)<((ns.length:Nat):Int):=by omega
  first
   |(rw[decide_eq_true q'] at h5;exact absurd h5 (by decide))
   |(simp at h5;omega)
 cases hwl with
 |cons w1 w2=>
  cases w2
  cases w1 with
  |list ho hall=>exact⟨_,_,ns,rfl,rfl,ho,z7 ns _ hall,hlen⟩
theorem Bu(l:OpenLaw)(args:List WData):l.row.toRowW.claim.post args (.bool true) args=true:=
 postW_of (r:=l.row.toRowW) (X:=(true == true))
  (show WShape.has [] (.bool true) .bool=true by first|rfl|decide|simp[WShape.has,WShape.arms,WShape.armsAll])
  (show (WTm.eq .res (.lit (.bool true))).value [] { args:=args,res:=some (.bool true),after:=args } = some (.bool (true == true)) from w_eq_bool (w_res rfl) w_lit) rfl
theorem AV{l:OpenLaw}{XP:(Str->Option Value)->Heap->Prop}{YP:World->Heap->Prop}{d:DefRec}
  (hn:l.most=some n) (hdf:d.params.defaults=[])
  (call:∀(w:World) (s₀ s₁:Shared) (mg mb:Str->Option Value) (fa:Addr) (o:Obj) (pm cd doc:Value) (a:Addr) (vs:List Value) (ns:List Int),
   Ground q loose [] XP w s₀ mg mb s₁.heap->YP w s₁.heap ->
   s₁.heap.get? fa=some o->o.data=.func (docDef d.name d.params d.body d.scope pm cd doc)->s₁.heap.CodeRec cd d.name->mg d.name=some (.ref fa) ->
   s₁.heap.get? a=some { cls:=.type "list",data:=.seq vs.toArray }->IntsAre vs ns->ns.length<=n->s₁.gens = #[] ->
   codeAny (model l.prog w) callerA (.call (.ref fa) ⟨[.ref a],[]⟩) (fun r s'=>r=.ok (.ret (.bool true))/\OldK s₁.heap s'.heap/\s'.os=s₁.os/\AllBare s'.gens) s₁) :
  WalkO q loose XP YP l.row.toRowW d [] (fun f vs=>PySem.call f vs):=by
 intro w s₀ s₁ mg mb G Y fa o pm cd doc dV kV ho hd hcd hD hmg hg args vals as hpre hlay hrd hwl hlo;obtain rfl:dV=.none:=Dflts.none hD hdf;obtain rfl:kV=.none:=Dflts.noKw hD;obtain⟨a,vs,ns,rfl,rfl,hobj,hints,hlen⟩:=Bs hn hpre hwl;refine enter_call (codeAny_mono (call w s₀ s₁ mg mb fa o pm cd doc a vs ns G Y ho (fd_plain hd) hcd hmg hobj hints hlen hg) fun r s' hq=>?_);obtain⟨rfl,h2,h3,h4⟩:=hq;exact⟨.inl ⟨.bool true,.bool true,[],rfl,fun _=>rfl,.bool true,Bu l _,fun _=>⟨List.Pairwise.nil,fun _ hm=>(nomatch hm)⟩⟩,h2,h3,h4⟩
section
variable {prog:Program}{w:World}{A:Around}{E:Value->Shared->Prop}{s:Shared}{K:Frag}
end
end Att
namespace L2
open PySem PySem.Spec PyProof.Rows
theorem t7:∀{vs:List Value}{ns:List Int},IntsAre vs ns->Vals (ns.map V.int) vs
 |_,_,.nil=>.nil
 |_,_,.cons n t h=>.cons ⟨t,rfl⟩ (t7 h)
def sL(H:Hp):Prop:=∀b,H b=none\/∃o xs,H b=some (.frz o (.lst xs))
theorem C0{K:Frag}{mg mb:Str->Option Value}{s₁:Shared}{vs:List Value}{ns:List Int}
  (KX:K.In s₁.heap) (hns:s₁.heap.Ns mainGlobals mg) (hb:s₁.heap.Ns builtinsNs mb) (hbb:∀x:Str,x≠"__name__"->mb x=bootBuiltins x) (hlim:s₁.heap.NoLimit) (hg:s₁.gens = #[])
  (ha:s₁.heap.get? a=some { cls:=.type "list",data:=.seq vs.toArray }) (hi:IntsAre vs ns) (hl:ns.length<=sizeLine) (hr:Room k callerA)
  (F:∀base:Heap,K.In base->base.Ns mainGlobals mg->FnOk P w K mg base CX k fa fd [x] sp) (hbind:∀(s:Shared) (u:Value),BindsTo s fd ⟨[u],[]⟩ [(x,u)])
  (hsp:∀H:Hp,sL H->SqL K H a (ns.map V.int)->sp [.ref a] H (fun v _=>v=.bl true) fun _ _ _=>False)
  (hCX:∀H e s',CX [] H s₁ (fun _ _ _=>False) e s'->False) :
  codeAny (model P w) callerA (.call (.ref fa) ⟨[.ref a],[]⟩) (fun r s'=>r=.ok (.ret (.bool true))/\OldK s₁.heap s'.heap/\s'.os=s₁.os/\AllBare s'.gens) s₁:=by
 have rv:=t7 hi;have lenV:=hi.length
 have core:∀H:Hp,sL H->SqL K H a (ns.map V.int)->HOk P w H s₁.heap->(∀b,H b≠none->b=a)->(H a≠none->K.lookup a=none) ->
   codeAny (model P w) callerA (.call (.ref fa) ⟨[.ref a],[]⟩) (fun r s'=>r=.ok (.ret (.bool true))/\OldK s₁.heap s'.heap/\s'.os=s₁.os/\AllBare s'.gens) s₁:=by
  intro H hO hS hok hA hK;have base_of:∀{b:Addr}{o:Obj},s₁.heap.get? b=some o->H b=none->(gH s₁.heap H).get? b=some o:=fun e n=>C3 e n
  have noA:∀{b:Addr}{o:Obj}{es:Array DictEntry}{ep:Nat},s₁.heap.get? b=some o->o.data=.dict es ep->H b=none:=fun {b o es ep} e d=>by
   cases q:H b with
   |none=>rfl
   |some u=>
    have e':b=a:=hA b (by rw[q];simp);subst e';rw[ha] at e;cases e;have d':Data.seq vs.toArray _=Data.dict es ep:=d;cases d'
  have nsK:∀{b:Addr}{m:Str->Option Value},s₁.heap.Ns b m->(gH s₁.heap H).Ns b m:=fun {b m} ⟨o,es,ep,e,d,r⟩=>⟨o,es,ep,base_of e (noA e d),d,r⟩
  have hKb:K.In (gH s₁.heap H):=fun b o e=>base_of (KX b o e) (by
   cases q:H b with
   |none=>rfl
   |some u=>
    have e':b=a:=hA b (by rw[q];simp);subst e'
    rw[hK (by rw[q];simp)] at e;cases e)
  have hM:Mod K mg (gH s₁.heap H):=⟨hKb,nsK hns,⟨mb,nsK hb,hbb⟩,let ⟨mc,h1,h2⟩:=hlim;⟨mc,nsK h1,h2⟩⟩;have e0:Env0 P w K mg (gH s₁.heap H) callerA [] s₁ H:=⟨rfl,hM,fun b o e=>Et e,Nat.le_of_eq (BY _ _),trivial,fun b hb=>absurd (show b∈([]:List Addr) from hb) (by simp),hok,.of_eq hg⟩;refine codeAny_mono ((F _ hKb (nsK hns)).run callerA [] s₁ H ⟨[.ref a],[]⟩ [.ref a] [.ref a] _ _ hr e0 (hbind s₁ (.ref a)) (.cons rfl .nil) (hsp H hO hS)) fun r s' h=>?_
  cases r with
  |error e=>exact(hCX H e s' h).elim
  |ok fl=>
   cases fl with
   |next=>exact False.elim h
   |brk=>exact False.elim h
   |cont=>exact False.elim h
   |ret u=>
    obtain⟨v,H',os,bare,un,hok',r',q⟩:=h;have q':v=.bl true:=q;subst q';obtain rfl:u=Value.bool true:=r';refine⟨rfl,OldK.of_keep fun b o e=>?_,os,bare⟩
    cases q:H b with
    |none=>exact un.keep b o e q (by intro z;exact absurd (show b∈([]:List Addr) from z) (by simp)) (by simp)
    |some u=>
     rcases hO b with z|⟨ob,xs,z⟩
     .rw[q] at z;cases z
     .have z2:=un.frzs b ob _ z
      obtain⟨e1,_⟩:=hok b _ z;obtain⟨e2,_⟩:=hok' b _ z2;rw[e] at e1;cases e1;exact e2
 cases hk:K.lookup a with
 |some o=>
  have e:=KX a o hk;rw[ha] at e;cases e;refine core (fun _=>none) (fun _=>.inl rfl) (.inr ⟨_,vs.toArray,_,hk,rfl,rfl,rfl,by rw[List.size_toArray,lenV];exact hl,by simpa using rv⟩) (fun b u z=>by have z':(none:Option HO)=some u:=z;cases z') (fun b z=>absurd rfl z) fun z=>absurd rfl z
 |none=>
  refine core (fun b=>if b=a then some (.frz { cls:=.type "list",data:=.seq vs.toArray } (.lst (ns.map V.int))) else none) (fun b=>?_) (.inl (.inr ⟨{ cls:=.type "list",data:=.seq vs.toArray },if_pos rfl⟩)) (fun b u z=>?_) (fun b z=>?_) fun _=>hk
  .by_cases hb:b=a
   .exact .inr ⟨_,_,if_pos hb⟩
   .exact .inl (if_neg hb)
  .by_cases hb:b=a
   .have z':=(if_pos hb).symm.trans z
    cases z';subst hb;exact⟨ha,by rw[List.length_map];exact hl,vs,_,rv,ha⟩
   .have z':=(if_neg hb).symm.trans z
    cases z'
  .by_cases hb:b=a
   .exact hb
   .exact absurd (if_neg hb) z
theorem DN{l:PySem.W.OpenLaw}{XP:(Str->Option Value)->Heap->Prop}{YP:World->Heap->Prop}{d:DefRec}{K:Params->Frag}{CX:World->CXT}{sp:World->Sp}
  (hn:l.most=some n) (hn2:n<=sizeLine) (hdf:d.params.defaults=[]) (hr:Room k callerA)
  (hY:∀(w:World) (h:Heap),YP w h->(K w.params).In h)
  (F:∀(w:World) (mg:Str->Option Value) (fa:Addr) (h:Heap),(K w.params).In h->h.Ns mainGlobals mg->mg d.name=some (.ref fa) ->
   ∃fd:FuncData,(∀(s:Shared) (u:Value),BindsTo s fd ⟨[u],[]⟩ [(x,u)]) /\
    ∀base:Heap,(K w.params).In base->base.Ns mainGlobals mg->FnOk l.prog w (K w.params) mg base (CX w) k fa fd [x] (sp w))
  (hsp:∀(w:World) (H:Hp) (a:Addr) (ns:List Int),ns.length<=n->sL H->SqL (K w.params) H a (ns.map V.int)->sp w [.ref a] H (fun v _=>v=.bl true) fun _ _ _=>False)
  (hCX:∀(w:World) (H:Hp) (s:Shared) (e:Value) (s':Shared),CX w [] H s (fun _ _ _=>False) e s'->False) :
  PySem.W.WalkO q loose XP YP l.row.toRowW d [] (fun f vs=>PySem.call f vs):=by
 refine Att.AV hn hdf fun w s₀ s₁ mg mb fa o pm cd doc a vs ns G Y ho hd hcd hmg hobj hints hlen hg=>?_;have KX:=hY w _ Y;obtain⟨fd,hb,hF⟩:=F w mg fa _ KX G.T.g hmg;exact C0 KX G.T.g G.T.b G.T.builtins G.T.nolimit hg hobj hints (Nat.le_trans hlen hn2) hr hF hb (fun H hO hS=>hsp w H a ns hlen hO hS) fun H e s'=>hCX w H s₁ e s'
def dz(s:Stmt):Arguments:=match s with
 |.FunctionDef _ a _ _ _ _ _ _ _ _=>a
 |_=>{ posonlyargs:=[],args:=[],vararg:=none,kwonlyargs:=[],kw_defaults:=[],kwarg:=none,defaults:=[] }
def bY(s:Stmt):List Stmt:=match s with
 |.FunctionDef _ _ b _ _ _ _ _ _ _=>b
 |_=>[]
def a9(s:Stmt):Scope:=match s with
 |.FunctionDef _ _ _ _ _ _ sc _ _ _=>sc
 |_=>{ kind:=.function,names:=[],isGenerator:=false,isCoroutine:=false }
abbrev CX0:CXT:=fun _ _ _ _ _ _=>False
abbrev E0:XK:=fun _ _ _=>False
theorem Ic:rM CX0 X E0:=fun _ _ _ _ _ _ _ h=>h.elim
structure Fun(K:Frag)(x qual:Str)(st:Stmt)(f:Addr)(fd:FuncData):Prop where
 ex:∃(oc:Value) (od:Option Addr) (kV doc pm:Value) (an:Option Addr) (cdv ct:Value) (osl:Array (Option Value)),
  fd=PySem.W.fnOf x qual (dz st) (bY st) (a9 st) .none kV doc pm an cdv ct/\K.lookup f=some ⟨oc,od,.func fd,osl⟩/\PySem.W.codeIn K cdv qual=true
 kp:PySem.W.keepIn K (.ref f)=true
section
variable {P:Program}{w:World}{K:Frag}{mg:Str->Option Value}{base:Heap}
theorem Fun.ok{x qual:Str}{st:Stmt}{f:Addr}{fd:FuncData}{N ps:List Str}{k:Nat}{sp:Sp}(F:Fun K x qual st f fd)(S:FnScope N ps (a9 st))(len:∀vs H Q E,sp vs H Q E->vs.length=ps.length)
  (hbody:∀(cdv:Value) (A:Around) (outer:List Env) (s:Shared) (H:Hp) (vs:List V) (Q:VK) (E:XK),Room k (A.deeper (envOfC qual (a9 st) s.heap.objs.size f cdv))->sp vs H Q E ->
   ∃t,PSs (cF CX0 P w K mg base N qual (a9 st) f cdv A outer s H E).nox (bY st) t/\t { nx:=fun _ H'=>Q .non H',rt:=Q } (start N vs) H):FnOk P w K mg base CX0 (k+1) f fd ps sp:=by
 obtain⟨oc,od,kV,doc,pm,an,cdv,ct,osl,rfl,lk,hcd⟩:=F.ex;refine yV lk hcd S len fun A outer s H vs Q E hr hsp=>?_;obtain⟨t,h,q⟩:=hbody cdv A outer s H vs Q E hr hsp;exact⟨t,h.nox,q⟩
theorem Fun.binds{x qual:Str}{st:Stmt}{f:Addr}{fd:FuncData}{ps:List Str}(F:Fun K x qual st f fd)
  (h:∀(kV doc pm:Value) (an:Option Addr) (cdv ct:Value) (us:List Value),us.length=ps.length->bindArgs (PySem.W.fnOf x qual (dz st) (bY st) (a9 st) .none kV doc pm an cdv ct) ⟨us,[]⟩=pure (ps.zip us)):Binds K fd ps []:=by
 obtain⟨oc,od,kV,doc,pm,an,cdv,ct,osl,rfl,lk,hcd⟩:=F.ex;exact .all (h kV doc pm an cdv ct)
theorem rC{x qual:Str}{st:Stmt}{f:Addr}{oc:Value}{od an:Option Addr}{osl:Array (Option Value)}{kV doc pm cdv ct:Value}(l:K.lookup f=some ⟨oc,od,.func (PySem.W.fnOf x qual (dz st) (bY st) (a9 st) .none kV doc pm an cdv ct),osl⟩)
  (c:PySem.W.codeIn K cdv qual=true) (k:PySem.W.keepIn K (.ref f)=true):Fun K x qual st f (PySem.W.fnOf x qual (dz st) (bY st) (a9 st) .none kV doc pm an cdv ct):=⟨⟨oc,od,kV,doc,pm,an,cdv,ct,osl,rfl,l,c⟩,k⟩
end
section
variable {X:Cx}
theorem pv(i:Nat)(hN:X.N[i]? = some x:=by rfl)(hv:Vis X.env.scope x:=by first|exact Or.inl rfl|exact Or.inr (Or.inl rfl)|exact Or.inr (Or.inr rfl))(hd:(x == ("__debug__" : Str))=false:=by decide)
  (hcd:(x == ("__classdict__" : Str))=false:=by decide):PE X (.Name x pos) (zo i):=Gj hN hv hd hcd
end
theorem ie{A B:Prop}(h:B):if false=true then A else B:=by
 rw[if_neg Bool.false_ne_true];exact h
theorem gF{A B:Prop}(h:A):if true=true then A else B:=by
 rw[if_pos rfl];exact h
end L2
set_option maxHeartbeats 4000000
namespace K1
open PySem
def has(signs x:Str):Bool:=x.cps.toList.all fun c=>decide (c∈signs.cps.toList)
def LET:Str:="abcdefghijklmnopqrstuvwxyz"
def TXT:Str:="abcdefghijklmnopqrstuvwxyz0123456789-"
def single:PyData->Bool
 |.int i=>decide ((if i<0 then -i else i)<=10^18)
 |.str x=>decide (x.length<=20)&&has TXT x
 |_=>false
def aO:Nat->PyData->Bool
 |0,.tuple _=>false
 |n+1,.tuple ds=>decide (ds.length<=8)&&ds.all (aO n)
 |_,d=>single d
def aL:Nat->PyData->Int
 |n+1,.tuple ds=>1+(ds.map (aL n)).sum
 |_,_=>1
def lsz:Nat->PyData->Int
 |n+1,.tuple ds=>if ds.length>8 then 100 else 1+(ds.map (lsz n)).sum
 |_,d=>if single d=true then 1 else 100
def isName:PyData->Bool
 |.str x=>decide (1<=x.length)&&decide (x.length<=8)&&has LET x
 |_=>false
def aF(d:PyData):Bool:=aO 4 d&&decide (aL 4 d<=40)
theorem xt{α:Type}(f:α->Int)(h:∀a,1<=f a):∀l:List α,(l.length:Int)<=(l.map f).sum
 |[]=>by simp
 |a::r=>by
  have:=xt f h r;have:=h a;simp only[List.map_cons,List.sum_cons,List.length_cons];omega
def tdp:Nat->PyData->Bool
 |0,.tuple _=>false
 |n+1,.tuple ds=>ds.all (tdp n)
 |_,_=>true
theorem uG:∀(n:Nat) (d:PyData),aO n d=true->tdp n d=true
 |0,d,h=>by cases d <;> first|rfl|cases h
 |n+1,d,h=>by
  cases d with
  |tuple ds=>
   have e:aO (n+1) (.tuple ds)=(decide (ds.length<=8)&&ds.all (aO n)):=rfl;rw[e,Bool.and_eq_true] at h;show ds.all (tdp n)=true;exact List.all_eq_true.mpr fun x hx=>uG n x (List.all_eq_true.mp h.2 x hx)
  |_=>rfl
def dy(best:Int):List Int->Int
 |[]=>best
 |n::r=>dy (if n>best then n else best) r
def cE(d:Int):List Int->Int
 |[]=>d
 |n::r=>dy n r
def aY:Nat->PyData->Int
 |n+1,.tuple ds=>1+cE 0 (ds.map (aY n))
 |_,_=>0
def yQ(acc:Int):List Int->Int
 |[]=>acc
 |n::r=>yQ (if 1+n>acc then 1+n else acc) r
def ldp:Nat->PyData->Int
 |n+1,.tuple ds=>yQ 1 (ds.map (ldp n))
 |_,_=>0
theorem tK:∀(l:List Int) (b:Int),b<=dy b l
 |[],b=>Int.le_refl b
 |n::r,b=>by
  show b<=dy (if n>b then n else b) r;have:=tK r (if n>b then n else b)
  split at this <;> (rename_i h;simp only[h,if_true,if_false] <;> omega)
theorem wg(l:List Int)(h:∀n∈l,0<=n):0<=cE 0 l:=by
 cases l with
 |nil=>exact Int.le_refl 0
 |cons n r=>exact Int.le_trans (h n List.mem_cons_self) (tK r n)
theorem vp:∀(n:Nat) (d:PyData),0<=aY n d
 |0,d=>by cases d <;> exact Int.le_refl 0
 |n+1,d=>by
  cases d with
  |tuple ds=>
   show 0<=1+cE 0 (ds.map (aY n))
   have:=wg (ds.map (aY n)) fun x hx=>by
    obtain⟨y,_,rfl⟩:=List.mem_map.mp hx;exact vp n y
   omega
  |_=>exact Int.le_refl 0
end K1
namespace L2
open PySem
def cx(env:Env):List (Str×NameKind)->List (Str×Addr)->List (Str×Addr)
 |[],acc=>acc
 |(n,k)::r,acc=>cx env r (if (k == .free)=true then (n,(env.cells.lookup n).getD 0)::acc else acc)
theorem pU:∀(l:List (Str×NameKind)) (acc:List (Str×Addr)),(∀x∈l,x.2=.free->∃c,env.cells.lookup x.1=some c) ->
  (forIn l acc (fun x r=>match x with
   | (name,kind)=>if (kind == NameKind.free)=true then (do
     let c ←cellOf env name
     pure (ForInStep.yield ((name,c)::r))) else pure (ForInStep.yield r)):Sem (List (Str×Addr)))=pure (cx env l acc)
 |[],acc,_=>rfl
 |(n,k)::r,acc,h=>by
  rw[List.forIn_cons];have hr:∀x∈r,x.2=.free->∃c,env.cells.lookup x.1=some c:=fun x hx=>h x (List.mem_cons_of_mem _ hx)
  cases hk:(k == NameKind.free) with
  |false=>
   have ih:=pU r acc hr
   have e:cx env ((n,k)::r) acc=cx env r acc:=by simp[cx,hk]
   rw[e];dsimp only;rw[if_neg (by rw[hk];exact Bool.false_ne_true)];exact ih
  |true=>
   obtain⟨c,hc⟩:=h (n,k) List.mem_cons_self (by simpa using hk);have ih:=pU r ((n,c)::acc) hr;have hc':env.cells.lookup n=some c:=hc
   have e:cx env ((n,k)::r) acc=cx env r ((n,c)::acc):=by simp[cx,hk,hc']
   have e2:cellOf env n=pure c:=by unfold cellOf;rw[hc']
   rw[e];dsimp only;rw[if_pos hk,e2];exact ih
theorem tW(h:∀x∈scope.names,x.2=.free->∃c,env.cells.lookup x.1=some c):closureFor scope env=pure (cx env scope.names []):=by
 have q:=pU (env:=env) scope.names [] h;unfold closureFor;exact congrArg (fun t=>t >>= fun z=>pure z) q
theorem tq:∀(l:List (Str×NameKind)) (acc:List (Str×Addr)) (x:Str) (c:Addr),(∀y d,acc.lookup y=some d->env.cells.lookup y=some d) ->
  (∀y∈l,y.2=.free->∃c,env.cells.lookup y.1=some c)->(cx env l acc).lookup x=some c->env.cells.lookup x=some c
 |[],acc,x,c,ha,_,e=>ha x c e
 |(n,k)::r,acc,x,c,ha,h,e=>by
  have hr:∀x∈r,x.2=.free->∃c,env.cells.lookup x.1=some c:=fun x hx=>h x (List.mem_cons_of_mem _ hx);refine tq r _ x c ?_ hr e;intro y d q
  cases hk:(k == NameKind.free) with
  |false=>rw[hk,if_neg Bool.false_ne_true] at q;exact ha y d q
  |true=>
   rw[hk,if_pos rfl] at q;obtain⟨c',hc⟩:=h (n,k) List.mem_cons_self (by simpa using hk);have hc':env.cells.lookup n=some c':=hc;rw[List.lookup_cons] at q
   by_cases z:y=n
   .subst z
    simp[hc'] at q;rw[hc',q]
   .have z':(y == n)=false:=beq_eq_false_iff_ne.mpr z
    rw[z'] at q;exact ha y d q
theorem tY:∀(l:List (Str×NameKind)) (acc:List (Str×Addr)) (x:Str),(acc.lookup x).isSome=true->((cx env l acc).lookup x).isSome=true
 |[],_,_,h=>h
 |(n,k)::r,acc,x,h=>by
  refine tY r _ x ?_
  cases hk:(k == NameKind.free) with
  |false=>rw[if_neg Bool.false_ne_true];exact h
  |true=>
   rw[if_pos rfl,List.lookup_cons]
   cases z:(x == n) with
   |true=>rfl
   |false=>exact h
theorem tX:∀(l:List (Str×NameKind)) (acc:List (Str×Addr)) (x:Str),(x,NameKind.free)∈l->((cx env l acc).lookup x).isSome=true
 |[],_,_,h=>absurd h (by simp)
 |(n,k)::r,acc,x,h=>by
  rcases List.mem_cons.mp h with e|e
  .cases e
   refine tY r _ _ ?_;rw[if_pos (by decide),List.lookup_cons];simp
  .exact tX r _ x e
open PySem PySem.Spec PyProof.Rows
structure CS(osc:Scope)(N:List Str)(x:Str)(scope:Scope)(N':List Str):Prop where
 kind:scope.kind=.function
 nocell:∀y∈scope.names,y.2≠.cell
 names:∀y∈scope.names,y.2=.local->scope.names.lookup y.1=some .local
 hx:scope.names.lookup x=some .local
 only:∀y∈scope.names,y.2=.local->y.1=x\/y.1=".0"
 free:∀y∈scope.names,y.2=.free->osc.names.lookup y.1=some .cell\/osc.names.lookup y.1=some .free
 nd:(x::N').Nodup
 n0:(".0" : Str)∉N'
 len:N'.length=N.length
 rel:∀p∈N'.zip N,p.1=p.2\/∀q∈scope.names,q.1≠p.1
theorem CS.at{osc:Scope}{N N':List Str}{x:Str}{scope:Scope}(S:CS osc N x scope N'){j:Nat}{y:Str}(h:N'[j]? = some y):N[j]? = some y\/∀q∈scope.names,q.1≠y:=by
 have hl:j<N'.length:=(List.getElem?_eq_some_iff.mp h).1
 have hl2:j<N.length:=by rw[←S.len];exact hl
 have m:(N'.zip N)[j]? = some (y,N[j]):=by
  rw[List.getElem?_zip_eq_some];exact⟨h,List.getElem?_eq_getElem hl2⟩
 rcases S.rel _ (List.mem_of_getElem? m) with z|z
 .left
  rw[List.getElem?_eq_getElem hl2];exact congrArg some z.symm
 .exact .inr z
theorem u9{c:Str×NameKind->Bool}:∀{names:List (Str×NameKind)}{y:Str}{k':NameKind},
  (names.map fun p=>if (p.2 == NameKind.free&&c p)=true then (p.1,NameKind.cell) else (p.1,p.2)).lookup y=some k'->∃k,(y,k)∈names/\(k'=k\/(k=.free/\k'=.cell))
 |[],_,_,h=>by simp at h
 |(n,k)::r,y,k',h=>by
  rw[List.map_cons] at h
  by_cases hy:y=n
  .subst hy
   cases hc:(k == NameKind.free&&c (y,k)) with
   |false=>
    simp only[hc,Bool.false_eq_true,if_false,List.lookup_cons,beq_self_eq_true] at h;cases h;exact⟨k,List.mem_cons_self,.inl rfl⟩
   |true=>
    simp only[hc,if_true,List.lookup_cons,beq_self_eq_true] at h;cases h
    have e:k=.free:=by
     have:=(Bool.and_eq_true _ _).mp hc;simpa using this.1
    exact⟨k,List.mem_cons_self,.inr ⟨e,rfl⟩⟩
  .have hb:(y == n)=false:=beq_eq_false_iff_ne.mpr hy
   have h':(r.map fun p=>if (p.2 == NameKind.free&&c p)=true then (p.1,NameKind.cell) else (p.1,p.2)).lookup y=some k':=by
    cases hc:(k == NameKind.free&&c (n,k)) with
    |false=>simp only[hc,Bool.false_eq_true,if_false,List.lookup_cons,hb] at h;exact h
    |true=>simp only[hc,if_true,List.lookup_cons,hb] at h;exact h
   obtain⟨k2,m,e⟩:=u9 h';exact⟨k2,List.mem_cons_of_mem _ m,e⟩
theorem pC(h:(relabel scope env).names.lookup y=some k'):∃k,(y,k)∈scope.names/\(k'=k\/(k=.free/\k'=.cell)):=by
 refine u9 (c:=fun p=>env.scope.kind == .function&&env.kindOf p.1 == some .cell) ?_;rw[←h];unfold relabel
 congr 1
 refine List.map_congr_left fun p _=>?_;obtain⟨n,k⟩:=p;simp only[Bool.and_assoc]
abbrev bQ(X:Cx)(x:Str)(scope:Scope)(C:Addr)(s0:Shared)(H0:Hp)(ex:List Addr)(N':List Str):Cx where
 prog:=X.prog
 w:=X.w
 K:=X.K
 mg:=X.mg
 base:=X.base
 A:=X.A
 N:=x::N'
 s₀:=s0
 H₀:=H0
 env:=compEnvC scope (cx X.env scope.names []) C X.env
 outer:=X.stack
 stack:=X.stack
 ex:=ex
 fn:=fun _=>false
 calm:=X.calm
 pn:=[]
 xe:=fun _ _=>False
section
variable {X:Cx}{pins:List (Addr×Obj)}{σ:St}{H:Hp}{s:Shared}{x:Str}{scope:Scope}{N':List Str}
theorem qk(I:Inv X pins σ H s)(S:CS X.env.scope X.N x scope N'):∀y∈scope.names,y.2=.free->∃c,X.env.cells.lookup y.1=some c:=fun y hy e=>
 I.ok.has y.1 (S.free y hy e)
theorem uE(I:Inv X pins σ H s)(S:CS X.env.scope X.N x scope N')(e:(cx X.env scope.names []).lookup y=some c):X.env.cells.lookup y=some c:=tq scope.names [] y c (fun _ _ z=>by simp at z) (qk I S) e
theorem vA(I:Inv X pins σ H s)(S:CS X.env.scope X.N x scope N')(e:(y,NameKind.free)∈scope.names):∃c,(cx X.env scope.names []).lookup y=some c/\X.env.cells.lookup y=some c:=by
 obtain⟨c,hc⟩:=Option.isSome_iff_exists.mp (tX (env:=X.env) scope.names [] y e);exact⟨c,hc,uE I S hc⟩
theorem tV(I:Inv X pins σ H s)(S:CS X.env.scope X.N x scope N')(hf:∀b∈fp,dr X pins H b)(ho:∀b∈fp,∃o,s.heap.get? b=some o)
  (hns:h'.Ns (s.heap.push oD).objs.size m) (hsb:Heap.SameBut (s.heap.push oD).objs.size ((s.heap.push oD).push oC) h') :
  Inv (bQ X x scope (s.heap.push oD).objs.size { s with heap:=s.heap.push oD } H (s.heap.objs.size::fp) N') [] (none::σ) H { s with heap:=h',toks:=tk }:=by
 have I3:Inv X pins σ H { s with heap:=s.heap.push oD,toks:=s.toks }:=I.kept fun b o e=>Heap.get?_push_of_some _ e;have hC:(s.heap.push oD).objs.size=s.heap.objs.size+1:=Heap.size_push ..
 have up3:∀b o,(s.heap.push oD).get? b=some o->h'.get? b=some o:=fun b o e=>
  (hsb.2 b (Nat.ne_of_lt (Heap.lt_size e))).trans (Heap.get?_push_of_some _ e)
 have up:∀b o,s.heap.get? b=some o->h'.get? b=some o:=fun b o e=>up3 b o (Heap.get?_push_of_some _ e);have cl:=fun {y c} e=>uE (y:=y) (c:=c) I S e
 have clt:∀y c,X.env.cells.lookup y=some c->c<s.heap.objs.size:=fun y c e=>let ⟨v,q⟩:=I.cell y c e;q.lt
 have inner:∀{y:Str}{k':NameKind},(relabel scope X.env).names.lookup y=some k'->(k'=.cell\/k'=.free)->(y,NameKind.free)∈scope.names:=fun {y k'} e hk=>by
  obtain⟨k,mem,r⟩:=pC e
  rcases r with r|⟨r,_⟩
  .rcases hk with z|z
   .exact absurd (r.symm.trans z) (S.nocell _ mem)
   .rw[←r.symm.trans z];exact mem
  .rw[←r];exact mem
 have ok:(bQ X x scope (s.heap.push oD).objs.size { s with heap:=s.heap.push oD } H (s.heap.objs.size::fp) N').Ok:=by
  refine⟨I.ok.mod,S.kind,I.ok.glob,I.ok.blt,Nat.le_refl _,fun y z c e1 e2=>I.ok.inj y z c (cl e1) (cl e2),fun y hk=>?_,fun y c e=>(nomatch e),I.ok.hd,I.ok.frames,.inl rfl,fun b hb=>?_,fun b o e=>?_,
   Nat.le_trans (Nat.le_trans I.ok.bsz I.sz) (by show s.heap.objs.size<=(s.heap.push oD).objs.size;omega),fun b o e hb=>?_,fun b hb z=>?_,I3.stack,I.stkFree⟩
  .have mem:(y,NameKind.free)∈scope.names:=by
    rcases hk with z|z
    .exact inner z (.inl rfl)
    .exact inner z (.inr rfl)
   obtain⟨c,hc,_⟩:=vA I S mem;exact⟨c,hc⟩
  .rcases List.mem_cons.mp hb with e|e
   .subst e
    exact⟨by show s.heap.objs.size≠(s.heap.push oD).objs.size;omega,fun y c e=>Nat.ne_of_lt (clt y c (cl e))⟩
   .obtain⟨o,q⟩:=ho b e
    have q2:=Heap.lt_size q;exact⟨by show b≠(s.heap.push oD).objs.size;rw[hC];exact Nat.ne_of_lt (Nat.lt_succ_of_lt q2),fun y c e'=>(hf b e).2.2.2.2.1 y c (cl e')⟩
  .exact⟨Heap.get?_push_of_some _ (I.bs b o e).1,(I.bs b o e).2⟩
  .rcases List.mem_cons.mp hb with z|z
   .have q2:=Heap.lt_size (I.bs b o e).1
    rw[z] at q2;exact Nat.lt_irrefl _ q2
   .rcases(hf b z).2.2.2.1 with q|q
    .exact I.ok.noex b o e q
    .have q2:=Heap.lt_size (I.ok.bs b o e).1
     exact Nat.lt_irrefl _ (Nat.lt_of_lt_of_le q2 q)
  .have z':=I.stkSub b z
   rcases List.mem_cons.mp hb with e|e
   .subst e
    rcases List.mem_cons.mp z' with q|q
    .have q2:=I.lt
     rw[←q] at q2;exact Nat.lt_irrefl _ q2
    .exact I.nofs (Nat.le_refl _) q
   .rcases List.mem_cons.mp z' with q|q
    .exact(hf b e).2.1 q
    .exact(hf b e).2.2.1 q
 obtain⟨mo,hno,hlo⟩:=I.loc;refine⟨ok,rfl,I.bare,Un.kept up3,⟨m,hns,fun i y v e1 e2 e3=>?_⟩,fun y c e=>?_,I.hok.fresh (by show s.heap.objs.size<=(s.heap.push oD).objs.size;omega),fun y c e=>I.freeC y c (cl e),fun p hp=>absurd hp (by simp),I.hok.kept up,?_⟩
 .cases i with
  |zero=>simp at e2
  |succ j=>
   have e1n:N'[j]? = some y:=by simpa using e1
   have vis:∃k,(y,k)∈scope.names:=by
    rcases(show Vis (relabel scope X.env) y from e3) with z|z|z <;> exact let ⟨k,mem,_⟩:=pC z;⟨k,mem⟩
   have e1':X.N[j]? = some y:=by
    rcases S.at e1n with z|z
    .exact z
    .obtain⟨k,mem⟩:=vis
     exact absurd rfl (z _ mem)
   have e2':σ[j]? = some (some v):=by simpa using e2
   have yx:y≠x:=fun z=>by
    have nd:=S.nd;rw[List.nodup_cons] at nd;refine nd.1 ?_;rw[←z];exact List.mem_of_getElem? e1n
   have kin:((relabel scope X.env).names.lookup y=some .cell\/(relabel scope X.env).names.lookup y=some .free):=by
    rcases(show Vis (relabel scope X.env) y from e3) with z|z|z
    .obtain⟨k,mem,r⟩:=pC z
     rcases r with r|⟨_,r⟩
     .rcases S.only _ mem r.symm with z2|z2
      .exact absurd z2 yx
      .exact absurd (List.mem_of_getElem? e1n) (by rw[show y=(".0" : Str) from z2];exact S.n0)
     .cases r
    .exact .inl z
    .exact .inr z
   have mem:(y,NameKind.free)∈scope.names:=by
    rcases kin with z|z
    .exact inner z (.inl rfl)
    .exact inner z (.inr rfl)
   have vo:Vis X.env.scope y:=by
    rcases S.free _ mem rfl with z|z
    .exact .inr (.inl z)
    .exact .inr (.inr z)
   obtain⟨u,ru,lk⟩:=hlo j y v e1' e2' vo;refine⟨u,ru,.inr ⟨kin,?_⟩⟩;obtain⟨c,hc,hc'⟩:=vA I S mem;refine⟨c,hc,?_⟩
   rcases lk with⟨z,_⟩|⟨_,c2,z2,q⟩
   .exfalso
    have z':X.env.scope.names.lookup y=some .local:=z
    rcases S.free _ mem rfl with r|r <;> (rw[z'] at r;cases r)
   .rw[hc'] at z2
    cases z2;obtain⟨o,q1,q2⟩:=q;exact⟨o,up _ _ q1,q2⟩
 .obtain⟨v,o,q1,q2⟩:=I.cell y c (cl e)
  exact⟨v,o,up _ _ q1,q2⟩
 .have:=I.len
  simp[this,S.len]
theorem tU(I:Inv X pins σ H s)(hf:∀b∈fp,dr X pins H b)
  (hCd:C=(s.heap.push oD).objs.size) (J:Inv (bQ X x scope C { s with heap:=s.heap.push oD } H (s.heap.objs.size::fp) N') pins' σ' H1 s1) (hsb:Heap.SameBut C s1.heap h') (hD0:H1 s.heap.objs.size=none)
  (new:∃its n,Vals ys its/\s1.heap.get? s.heap.objs.size=some { cls:=.type "list",data:=.seq its.toArray n }) (hz:ys.length<=sizeLine) :
  Inv X pins σ (upd H1 s.heap.objs.size (.lst ys)) { s1 with heap:=h' }:=by
 have hC:C=s.heap.objs.size+1:=by rw[hCd];exact Heap.size_push ..
 have nD:∀b o,s.heap.get? b=some o->b≠s.heap.objs.size:=fun b o e=>Nat.ne_of_lt (Heap.lt_size e)
 have nC:∀b o,s.heap.get? b=some o->b≠C:=fun b o e=>by rw[hC];exact Nat.ne_of_lt (Nat.lt_succ_of_lt (Heap.lt_size e))
 have up:∀b o,s.heap.get? b=some o->(s.heap.push oD).get? b=some o:=fun b o e=>Heap.get?_push_of_some _ e;have nx:∀b,b∉fp->b≠s.heap.objs.size->b∉s.heap.objs.size::fp:=fun b h1 h2 z=>(List.mem_cons.mp z).elim h2 h1
 have hDC:s.heap.objs.size≠C:=by rw[hC];exact Nat.ne_of_lt (Nat.lt_succ_self _)
 have tr:∀b u,H1 b=some u->b≠s.heap.objs.size:=fun b u e z=>by rw[z,hD0] at e;cases e
 have trC:∀b u,H1 b=some u->b≠C:=fun b u e z=>by
  have:=J.free;rw[z] at e;have q:H1 C=none:=J.free;rw[q] at e;cases e
 obtain⟨its,n,rv,eD⟩:=new;have B:Un (frs X.stack) (s.heap.objs.size::fp) H H1 (s.heap.push oD) s1.heap:=J.base;refine I.call' (s':={ s1 with heap:=h' }) (ch:=fp) J.os ⟨fun b o e q h1 h2=>?_,fun b o e q h1 h2=>?_,fun b o e q h2=>?_,fun b o e h2=>?_,fun b xs e=>?_,fun b o u e=>?_,fun b ps e=>?_⟩ (fun b u e=>?_) J.bare fun b hb=>?_
 .exact(hsb.2 b (nC b o e)).trans (B.keep b o (up b o e) q h1 (nx b h2 (nD b o e)))
 .obtain⟨sl,z⟩:=B.slot b o (up b o e) q h1 (nx b h2 (nD b o e))
  exact⟨sl,(hsb.2 b (nC b o e)).trans z⟩
 .rw[aT (nD b o e)]
  exact B.free b o (up b o e) q (nx b h2 (nD b o e))
 .obtain⟨o',z⟩:=B.there b o (up b o e) (nx b h2 (nD b o e))
  exact⟨o',(hsb.2 b (nC b o e)).trans z⟩
 .have z:=B.tups b xs e
  rw[aT (tr b _ z)];exact z
 .have z:=B.frzs b o u e
  rw[aT (tr b _ z)];exact z
 .obtain⟨more,z⟩:=B.tbls b ps e
  exact⟨more,by rw[aT (tr b _ z)];exact z⟩
 .by_cases hb:b=s.heap.objs.size
  .subst hb
   rw[bt] at e;cases e;exact⟨hz,its,n,rv,(hsb.2 _ hDC).trans eD⟩
  .rw[aT hb] at e
   refine(J.hok b u e).stay (fun c v hc q=>(hsb.2 c ?_).trans q) (fun c q=>by rw[aT (tr c _ q)];exact q) fun c xs q=>by rw[aT (tr c _ q)];exact q
   rcases hc with z|z
   .rw[z];exact trC b u e
   .exact trC c _ z
 .obtain⟨_,f1,_,f3,f4,f5⟩:=hf b hb
  exact⟨f3,f1,f4,f5⟩
end
def PTs(X:Cx)(ifs:List Expr)(t:TT):Prop:=
 ∀(pins:List (Addr×Obj)) (s:Shared) (σ:St) (H:Hp) (Q:Bool->Hp->Prop) (E:Value->Shared->Prop),Inv X pins σ H s->t σ H Q ->
  wpAny (model X.prog X.w) X.A (forIn ifs true fun c r=>if r=true then do
   let ok ←isTrue c X.env (eval c X.env)
   pure (ForInStep.yield ok) else pure (ForInStep.yield r)) (TP X pins σ Q) E s
theorem Eb:PTs X [] (fun _ H Q=>Q true H):=fun _ _ _ H _ _ I h=>wpAny_tests_nil ⟨H,I,h⟩
theorem Ea(hx:X.xe=fun _ _=>False)(h:PT X c t):PTs X [c] t:=fun pins s σ H Q _ I q=>
 wpAny_tests_one (wpAny_mono (h pins s σ H Q I q) (fun _ _ z=>z) fun e s' z=>by rw[hx] at z;exact z.elim)
def oK(σ:St)(J:It)(tt:TT)(te:TE)(W:Nat->Nat->List V->Hp->Prop)(D:List V->Hp->Prop):Prop:=∀i m ys H,W i m ys H ->
 (J.stop i H/\ys.length<=sizeLine/\D ys H)\/(J.go i H/\ys.length<sizeLine/\∃N:List V->Hp->Prop,(∀ys' H',N ys' H'->∃m',m' < m/\W (i+1) m' ys' H')/\∀v H',J.yld i H v H'->tt (some v::σ) H' fun b H2=>
  if b=true then te (some v::σ) H2 fun y H3=>N (ys++[y]) H3 else N ys H2)
section
variable {X:Cx}{pins:List (Addr×Obj)}{σ:St}{H:Hp}{s:Shared}{x:Str}{scope:Scope}{N':List Str}
theorem uD{fp:List Addr}{it C:Addr}{tn:Nat->Heap->Prop}{J:It}{oD:Obj}{elt iter:Expr}{ifs:List Expr}{px pos:Pos}{te:TE}{tt:TT}{W:Nat->Nat->List V->Hp->Prop}{Dn:List V->Hp->Prop}
  {R:Result->Shared->Prop}{σ':St}{s4:Shared}{m0:Nat} (hcalm:X.calm=true) (S:CS X.env.scope X.N x scope N') (hf:∀b∈fp,dr X pins H b) (ho:∀b∈fp,∃o,s.heap.get? b=some o) (hCd:C=(s.heap.push oD).objs.size)
  (T:Turn X.prog X.w X.K (.Name x px) J fp it tn) (I4:Inv (bQ X x scope C { s with heap:=s.heap.push oD } H (s.heap.objs.size::fp) N') [] (none::σ) H s4) (st4:tn 0 s4.heap) (hD4:s4.heap.get? s.heap.objs.size=some { cls:=.type "list",data:=.seq #[] 0 })
  (hDn:H s.heap.objs.size=none) (hte:PE (bQ X x scope C { s with heap:=s.heap.push oD } H (s.heap.objs.size::fp) N') elt te) (htt:PTs (bQ X x scope C { s with heap:=s.heap.push oD } H (s.heap.objs.size::fp) N') ifs tt)
  (w0:W 0 m0 [] H) (turn:oK σ J tt te W Dn)
  (hR:∀s1 H1 σ1 ys its n,Inv (bQ X x scope C { s with heap:=s.heap.push oD } H (s.heap.objs.size::fp) N') [] σ1 H1 s1->H1 s.heap.objs.size=none->Vals ys its->s1.heap.get? s.heap.objs.size=some { cls:=.type "list",data:=.seq its.toArray n }->ys.length<=sizeLine->Dn ys H1->R (.ok .next) s1) :
  codeAny (model X.prog X.w) X.A (.compLoop (.ListComp elt [⟨.Name x px,iter,ifs,0⟩] scope pos) 0 (.ref it) (.ref s.heap.objs.size) (compEnvC scope (cx X.env scope.names []) C X.env)) R s4:=by
 have hC:C=s.heap.objs.size+1:=by rw[hCd];exact Heap.size_push ..
 generalize hX:bQ X x scope C { s with heap:=s.heap.push oD } H (s.heap.objs.size::fp) N'=X' at *
 have xP:X'.prog=X.prog:=by rw[←hX]
 have xW:X'.w=X.w:=by rw[←hX]
 have xK:X'.K=X.K:=by rw[←hX]
 have xA:X'.A=X.A:=by rw[←hX]
 have xE:X'.env=compEnvC scope (cx X.env scope.names []) C X.env:=by rw[←hX]
 have xC:X'.calm=true:=by rw[←hX];exact hcalm
 have xex:X'.ex=s.heap.objs.size::fp:=by rw[←hX]
 have xpn:X'.pn=[]:=by rw[←hX]
 have xxe:X'.xe=fun _ _=>False:=by rw[←hX]
 have xN:X'.N=x::N':=by rw[←hX]
 have xL:X'.env.locals=C:=by rw[xE];rfl
 have xloc:X'.env.scope.names.lookup x=some .local:=by rw[xE];exact lookup_relabel_local S.hx
 have lt:∀b∈fp,b<s.heap.objs.size:=fun b hb=>let ⟨_,e⟩:=ho b hb;Heap.lt_size e
 have fpk:∀{pl:List (Addr×Obj)}{H':Hp},(∀p∈pl,p.1=s.heap.objs.size)->(∀b∈fp,H' b=none)->∀b∈fp,dr X' pl H' b:=fun {pl H'} hp hn b hb=>by
  have okk:=I4.ok
  have hm:b∈X'.ex:=by rw[xex];exact List.mem_cons_of_mem _ hb
  refine⟨hn b hb,(okk.exf b hm).1,okk.exfs b hm,.inl hm,(okk.exf b hm).2,fun p hpl z=>?_⟩;rw[xpn] at hpl;have q1:=hp p (by simpa using hpl);have q2:=lt b hb;rw[←z,q1] at q2;exact Nat.lt_irrefl _ q2
 have dok:∀{pl:List (Addr×Obj)}{H':Hp},(∀p∈pl,p.1∈fp)->H' s.heap.objs.size=none->dr X' pl H' s.heap.objs.size:=fun {pl H'} hp hn=>by
  have okk:=I4.ok
  have hm:s.heap.objs.size∈X'.ex:=by rw[xex];exact List.mem_cons_self
  refine⟨hn,(okk.exf _ hm).1,okk.exfs _ hm,.inl hm,(okk.exf _ hm).2,fun p hpl z=>?_⟩;rw[xpn] at hpl;have q2:=lt p.1 (hp p (by simpa using hpl));rw[z] at q2;exact Nat.lt_irrefl _ q2
 refine codeAny_compLoop_tests (I:=fun m s'=>∃i σx H' ys its n,Inv X' [] (σx::σ) H' s'/\tn i s'.heap/\(∀b∈fp,H' b=none)/\H' s.heap.objs.size=none/\Vals ys its/\s'.heap.get? s.heap.objs.size=some { cls:=.type "list",data:=.seq its.toArray n }/\W i m ys H') ?_ m0
  ⟨0,none,H,[],[],0,I4,st4,fun b hb=>(hf b hb).1,hDn,.nil,hD4,w0⟩
 rintro m s5 ⟨i,σx,H5,ys,its,n,I5,st5,fr5,d5,rv,e5,w5⟩
 have I5d:Inv X' ([]++gX [s.heap.objs.size] s5.heap) (σx::σ) H5 s5:=I5.pinned (fun b hb=>by
   have e:b=s.heap.objs.size:=by simpa using hb
   rw[e];exact dok (fun p hp=>absurd hp (by simp)) d5) fun b hb=>by
   have e:b=s.heap.objs.size:=by simpa using hb
   rw[e];exact⟨_,e5,fun v z=>by cases z⟩
 have pD:([]++gX [s.heap.objs.size] s5.heap:List (Addr×Obj))=[(s.heap.objs.size,{ cls:=.type "list",data:=.seq its.toArray n })]:=by
  simp[gX,e5]
 rw[pD] at I5d
 have p1:∀p∈[(s.heap.objs.size,({ cls:=.type "list",data:=.seq its.toArray n }:Obj))],p.1=s.heap.objs.size:=fun p hp=>by
  have e:p=(s.heap.objs.size,{ cls:=.type "list",data:=.seq its.toArray n }):=by simpa using hp
  rw[e]
 have hsz:its.length=ys.length:=rv.length.symm
 rcases turn i m ys H5 w5 with⟨stop,hz,dn⟩|⟨go,hz,N,hN,step⟩
 .have q:=T.done X' xP xW xK xC i _ s5 (σx::σ) H5 (notedBy (model X.prog X.w) X.A (compEnvC scope (cx X.env scope.names []) C X.env) fun e s'=>R (.error e) s') I5d (fpk p1 fr5) st5 stop
  rw[xA] at q;refine wpAny_mono q (fun r s6 z=>?_) fun _ _ z=>z;obtain⟨rfl,I6⟩:=z;refine hR s6 H5 (σx::σ) ys its n ?_ d5 rv (I6.pin _ (List.mem_append_right _ (List.mem_singleton.mpr rfl))).1 hz dn;exact I6.pins_of fun p hp=>absurd hp (by simp)
 .have q:=T.item X' xP xW xK xC i _ s5 (σx::σ) H5 (notedBy (model X.prog X.w) X.A (compEnvC scope (cx X.env scope.names []) C X.env) fun e s'=>R (.error e) s') I5d (fpk p1 fr5) st5 go
  rw[xA] at q;refine wpAny_mono q (fun r s6 z=>?_) fun _ _ z=>z;obtain⟨u,rfl,z⟩:=z;dsimp only;have z':wpAny (model X.prog X.w) X.A (pure ()) _ _ s6:=z;refine wpAny_bind (m:=pure ()) (f:=fun _=>assign (.Name x px) (compEnvC scope (cx X.env scope.names []) C X.env) u) (wpAny_mono z' (fun _ s7 z=>?_) fun _ _ z=>z);obtain⟨v,H7,I7,rv7,y7,st7,fr7⟩:=z;have I7p:=I7.pinned (fpk p1 fr7) (T.obj _ _ st7);rw[←xE]
  have nd:X'.N.Nodup:=by rw[xN];exact S.nd
  have hi0:X'.N[0]? = some x:=by rw[xN];rfl
  refine wpAny_assign_Name (p0 (E:=notedBy (model X.prog X.w) X.A X'.env fun e s'=>R (.error e) s') (i:=0) I7p nd hi0 (.inl xloc) rv7 (fun s8 I8=>?_) (.inr xloc));have I8':Inv X' _ (some v::σ) H7 s8:=I8;have t8:=htt _ s8 (some v::σ) H7 _ (notedBy (model X.prog X.w) X.A X'.env fun e s'=>R (.error e) s') I8' (step v H7 y7);rw[xP,xW,xA] at t8;refine wpAny_mono t8 (fun ok s9 z=>?_) fun _ _ z=>z;obtain⟨H9,I9,q9⟩:=z
  have back:∀{s':Shared}{H':Hp}{σ2:St},Inv X' ([(s.heap.objs.size,({ cls:=.type "list",data:=.seq its.toArray n }:Obj))]++gX fp s7.heap) σ2 H' s' ->
    tn (i+1) s'.heap/\(∀b∈fp,H' b=none)/\H' s.heap.objs.size=none/\s'.heap.get? s.heap.objs.size=some { cls:=.type "list",data:=.seq its.toArray n }/\Inv X' [] σ2 H' s':=fun {s' H' σ2} I'=>by
   refine⟨T.keep _ _ _ st7 fun b hb o e=>(I'.pin (b,o) (List.mem_append_right _ (List.mem_append_right _ (lX hb e)))).1,fun b hb=>?_,?_,?_,I'.pins_of fun p hp=>absurd hp (by simp)⟩
   .obtain⟨o,e,_⟩:=T.obj _ _ st7 b hb
    exact(I'.pin (b,o) (List.mem_append_right _ (List.mem_append_right _ (lX hb e)))).2.1
   .exact(I'.pin (s.heap.objs.size,_) (List.mem_append_right _ (List.mem_append_left _ (List.mem_singleton.mpr rfl)))).2.1
   .exact(I'.pin (s.heap.objs.size,_) (List.mem_append_right _ (List.mem_append_left _ (List.mem_singleton.mpr rfl)))).1
  cases ok with
  |false=>
   simp only[Bool.false_eq_true,if_false] at q9 ⊢;obtain⟨m',hm,w9⟩:=hN _ _ q9;obtain⟨a1,a2,a3,a4,a5⟩:=back I9;exact⟨m',hm,i+1,some v,H9,ys,its,n,a5,a1,a2,a3,rv,a4,w9⟩
  |true=>
   simp only[if_true] at q9 ⊢;have t9:=hte _ s9 (some v::σ) H9 _ I9 q9;rw[xP,xW,xA,xxe] at t9;refine wpAny_mono t9 (fun u2 s10 z=>?_) fun _ _ z=>z.elim;obtain⟨y,H10,I10,r10,q10⟩:=z;obtain⟨m',hm,w10⟩:=hN _ _ q10;obtain⟨a1,a2,a3,a4,a5⟩:=back I10;refine wpAny_list_append_plain ⟨n,a4⟩ (fun h' pl sb=>?_) (by rw[List.size_toArray];omega);obtain⟨n',e'⟩:=pl;have D0:=dok (pl:=[]) (fun p hp=>absurd hp (by simp)) a3;refine⟨m',hm,i+1,some v,H10,ys++[y],its++[u2],n',a5.turned (t':=s10.toks) (fun b o hb e=>(sb.2 b hb).trans e) D0.1 D0.2.1 D0.2.2.2.1 D0.2.2.2.2.1 D0.2.2.2.2.2,?_,a2,a3,rv.append (.cons r10 .nil),by simpa using e',w10⟩;exact T.keep _ _ _ a1 fun b hb o e=>(sb.2 b (Nat.ne_of_lt (lt b hb))).trans e
end
section
variable {X:Cx}{x:Str}{scope:Scope}{N':List Str}{elt iter:Expr}{ifs:List Expr}{px pos:Pos}{wi:TI}{te:TE}{tt:TT}
def yB(wi:TI)(tt:TT)(te:TE):TE:=fun σ H Q=>wi σ H fun J H1=>∃W:Nat->Nat->List V->Hp->Prop,(∃m,W 0 m [] H1)/\oK σ J tt te W fun ys H=>∀p,H p=none->Q (.ref p) (upd H p (.lst ys))
theorem El(hc:X.calm=true)(S:CS X.env.scope X.N x scope N')(hi:PI X (.Name x px) iter wi)(he:∀C s0 H0 ex,PE (bQ X x scope C s0 H0 ex N') elt te)
  (ht:∀C s0 H0 ex,PTs (bQ X x scope C s0 H0 ex N') ifs tt) (hs:∀v,foldedSetIterable iter X.env v=pure v:=by intro _;rfl):PE X (.ListComp elt [⟨.Name x px,iter,ifs,0⟩] scope pos) (yB wi tt te):=by
 intro pins s σ H Q I h;rw[eval_ListComp];refine wpAny_comprehension_free (use:=none) rfl hs (tW (qk I S)) S.kind S.names (thn (hi pins s σ H _ I h) fun v s1 h1=>thn h1 fun itv s2 h2=>?_);obtain⟨it,fp,tn,J,H2,rfl,I2,T,st2,f2,W,⟨m0,w0⟩,turn⟩:=h2
 have ho:∀b∈fp,∃o,s2.heap.get? b=some o:=fun b hb=>let ⟨o,e,_⟩:=T.obj _ _ st2 b hb;⟨o,e⟩
 refine wpAny_newObj_type (wpAny_newFunctionEnv S.nocell (by intro y hy;simp at hy) (fun h' hns hsb=>?_) S.kind);have I4:=tV (x:=x) (scope:=scope) (tk:=s2.toks+([]:List (Str×Value)).length) I2 S f2 ho hns hsb
 have up3:∀b o,(s2.heap.push { cls:=.type "list",dict:=none,data:=.seq ([]:List Value).toArray }).get? b=some o->h'.get? b=some o:=fun b o e=>
  (hsb.2 b (Nat.ne_of_lt (Heap.lt_size e))).trans (Heap.get?_push_of_some _ e)
 have st4:tn 0 h':=T.keep _ _ _ st2 fun b _ o e=>up3 b o (Heap.get?_push_of_some _ e)
 have loop:=uD (elt:=elt) (iter:=iter) (ifs:=ifs) (pos:=pos) (R:=compPost (model X.prog X.w) X.A X.xe none (EP X pins σ Q) (.ref s2.heap.objs.size) (s2.heap.push { cls:=.type "list",dict:=none,data:=.seq ([]:List Value).toArray }).objs.size) (σ':=σ)
  hc S f2 ho rfl T I4 st4 (up3 _ _ (Heap.get?_push_size _ rfl)) (I2.hok.fresh (Nat.le_refl _)) (he _ _ _ _) (ht _ _ _ _) w0 turn fun s5 H5 σ5 ys its n J5 d5 rv e5 hz dn=>by
   obtain⟨m,hn,_⟩:=J5.loc;exact⟨m,hn,fun h'' sb=>⟨.ref s2.heap.objs.size,_,tU I2 f2 rfl J5 sb d5 ⟨its,n,rv,e5⟩ hz,rfl,dn _ d5⟩⟩
 exact codeAny_compStart_list loop (T.self X.A 0 _ _ _ st4 loop)
def HR(i:Nat)(wi:TI)(tt:TT)(te:TE):TS:=fun D σ H=>wi σ H fun J H1=>∃W:Nat->Nat->List V->Hp->Prop,(∃m,W 0 m [] H1)/\oK σ J tt te W fun ys H=>∀p,H p=none->D.nx (σ.set i (some (.ref p))) (upd H p (.lst ys))
theorem Ee(hc:X.calm=true)(S:CS X.env.scope X.N x scope N')(hN:X.N.Nodup)(hi':X.N[i]? = some y)(hy:Loc X.env.scope y)(hf':X.fn y=true\/X.env.scope.names.lookup y=some .local)
  (hi:PI X (.Name x px) iter wi) (he:∀C s0 H0 ex,PE (bQ X x scope C s0 H0 ex N') elt te)
  (ht:∀C s0 H0 ex,PTs (bQ X x scope C s0 H0 ex N') ifs tt) (hsw:swapsWith (.ListComp elt [⟨.Name x px,iter,ifs,0⟩] scope pos) (some (.Name y py)) spos.line X.env=pure true) (hs:∀v,foldedSetIterable iter X.env v=pure v:=by intro _;rfl) :
  PS X (.Assign [.Name y py] (.ListComp elt [⟨.Name x px,iter,ifs,0⟩] scope pos) spos) (HR i wi tt te):=by
 intro pins s σ H D I h;rw[exec_Assign_Name_used _ _ _ _ hsw];refine wpAny_bind (wpAny_standAt (wpAny_bind ?_));show wpAny _ _ (do let _ ←comprehension (.ListComp elt [⟨.Name x px,iter,ifs,0⟩] scope pos) scope X.env _ (newList []) false (eval iter X.env) (some (assign (.Name y py) X.env))) _ _ s;refine wpAny_bind (wpAny_mono (wpAny_comprehension_free (use:=some (assign (.Name y py) X.env)) (Q:=fun _ s'=>SP X pins D .next s') rfl hs (tW (qk I S)) S.kind S.names (thn (hi pins s σ H _ I h) fun v s1 h1=>thn h1 fun itv s2 h2=>?_)) (fun _ _ q=>wpAny_pure (wpAny_pure q)) fun _ _ q=>q);obtain⟨it,fp,tn,J,H2,rfl,I2,T,st2,f2,W,⟨m0,w0⟩,turn⟩:=h2
 have ho:∀b∈fp,∃o,s2.heap.get? b=some o:=fun b hb=>let ⟨o,e,_⟩:=T.obj _ _ st2 b hb;⟨o,e⟩
 refine wpAny_newObj_type (wpAny_newFunctionEnv S.nocell (by intro y hy;simp at hy) (fun h' hns hsb=>?_) S.kind);have I4:=tV (x:=x) (scope:=scope) (tk:=s2.toks+([]:List (Str×Value)).length) I2 S f2 ho hns hsb
 have up3:∀b o,(s2.heap.push { cls:=.type "list",dict:=none,data:=.seq ([]:List Value).toArray }).get? b=some o->h'.get? b=some o:=fun b o e=>
  (hsb.2 b (Nat.ne_of_lt (Heap.lt_size e))).trans (Heap.get?_push_of_some _ e)
 have st4:tn 0 h':=T.keep _ _ _ st2 fun b _ o e=>up3 b o (Heap.get?_push_of_some _ e)
 have hCs:s2.heap.objs.size<=(s2.heap.push { cls:=.type "list",dict:=none,data:=.seq ([]:List Value).toArray }).objs.size:=by rw[Heap.size_push];omega
 have hDC:(s2.heap.push { cls:=.type "list",dict:=none,data:=.seq ([]:List Value).toArray }).objs.size≠s2.heap.objs.size:=by rw[Heap.size_push];omega
 have loop:=uD (elt:=elt) (iter:=iter) (ifs:=ifs) (pos:=pos) (R:=compPost (model X.prog X.w) X.A X.xe (some (assign (.Name y py) X.env)) (fun _ s'=>SP X pins D .next s') (.ref s2.heap.objs.size) (s2.heap.push { cls:=.type "list",dict:=none,data:=.seq ([]:List Value).toArray }).objs.size) (σ':=σ)
  hc S f2 ho rfl T I4 st4 (up3 _ _ (Heap.get?_push_size _ rfl)) (I2.hok.fresh (Nat.le_refl _)) (he _ _ _ _) (ht _ _ _ _) w0 turn fun s5 H5 σ5 ys its n J5 d5 rv e5 hz dn=>by
   have J6:=tU I2 f2 rfl J5 (Heap.SameBut.refl _ _) d5 ⟨its,n,rv,e5⟩ hz;obtain⟨m,hn,_⟩:=J5.loc;refine wpAny_assign_Name (uh (u:=.ref s2.heap.objs.size) J6 hN hi' hy (show RelV (.ref s2.heap.objs.size) _ from rfl) (fun s7 I7 ⟨a,sb,ha⟩=>?_) hf')
   have hCa:(s2.heap.push { cls:=.type "list",dict:=none,data:=.seq ([]:List Value).toArray }).objs.size≠a:=by
    rcases ha with z|z
    .rw[z]
     exact Nat.ne_of_gt (Nat.lt_of_lt_of_le I2.lt hCs)
    .obtain⟨v,q⟩:=I2.cell _ _ z
     exact Nat.ne_of_gt (Nat.lt_of_lt_of_le q.lt hCs)
   have hn5:H5 (s2.heap.push { cls:=.type "list",dict:=none,data:=.seq ([]:List Value).toArray }).objs.size=none:=J5.free;have fk:=I2.fpOk (b:=(s2.heap.push { cls:=.type "list",dict:=none,data:=.seq ([]:List Value).toArray }).objs.size) (H':=upd H5 s2.heap.objs.size (.lst ys)) hCs (by rw[aT hDC];exact hn5);refine⟨m,hn.sameBut sb hCa,fun h'' sb2=>⟨_,_,I7.turned (t':=s7.toks) (fun b o hb e=>(sb2.2 b hb).trans e) fk.1 fk.2.1 fk.2.2.2.1 fk.2.2.2.2.1 fk.2.2.2.2.2,dn _ d5⟩⟩
 exact codeAny_compStart_list loop (T.self X.A 0 _ _ _ st4 loop)
end
section
variable {σ:St}{tt:TT}{te:TE}
end
def Its(z:Str):It:=⟨fun i _=>i<z.cps.size,fun i H v H'=>H'=H/\∃c,z.cps[i]? = some c/\v=.str ⟨#[c]⟩,fun i _=>z.cps.size<=i⟩
theorem uN{P:Program}{w:World}{K:Frag}{tg:Expr}(z:Str)(t:Tok)(ty:String)(it:Addr)(hty:ty="str_ascii_iterator"\/ty="str_iterator") :
  Turn P w K tg (Its z) [it] it (fun i h=>h.IsStrIter it ty z t i) where
 mem:=by simp
 obj:=fun i h st b hb=>by
  have e:b=it:=by simpa using hb
  subst e;obtain⟨o,e,c,d⟩:=st;exact⟨o,e,fun v q=>by rw[d] at q;cases q⟩
 keep:=fun i h h' st k=>let ⟨o,e,r⟩:=st;⟨o,k it (by simp) o e,r⟩
 item:=by
  intro X hP hw hK hc i pins s σ H E I hf st hg;subst hP hw hK;have hi:i<z.cps.size:=hg;obtain⟨f0,f1,f2,f3,f4,f5⟩:=hf it (by simp)
  have fin:∀h',h'.IsStrIter it ty z t (i+1)->Heap.SameBut it s.heap h'->∃u,(some (Value.str ⟨#[z.cps[i]]⟩ s.toks):Option Value)=some u /\
    wpAny (model X.prog X.w) X.A (letOwnedTupleGo tg (.ref it) u) (fun _ s2=>∃x H',Inv X pins σ H' s2/\RelV x u/\(Its z).yld i H x H'/\s2.heap.IsStrIter it ty z t (i+1)/\∀b∈[it],H' b=none) E { s with heap:=h',toks:=s.toks+1 }:=fun h' st' sb=>by
   have I1:Inv X pins σ H { s with heap:=h',toks:=s.toks+1 }:=I.turned (fun b o hb e=>(sb.2 b hb).trans e) f0 f1 f3 f4 f5;obtain⟨o,e,c,d⟩:=id st';refine⟨_,rfl,lD (s:={ s with heap:=h',toks:=s.toks+1 }) (n:=ty) e c d ?_ ⟨.str ⟨#[z.cps[i]]⟩,H,I1,⟨_,rfl⟩,⟨rfl,z.cps[i],by simp[hi],rfl⟩,st',fun b hb=>(hf b hb).1⟩⟩
   rcases hty with e|e <;> (rw[e];decide)
  rcases hty with e|e
  .subst e
   exact wpAny_pyNext_ascii_item st (c:=z.cps[i]) (by simp[hi]) fin
  .subst e
   exact wpAny_pyNext_wide_item st (c:=z.cps[i]) (by simp[hi]) fin
 done:=by
  intro X hP hw hK hc i pins s σ H E I hf st hg;subst hP hw hK;have hi:z.cps.size<=i:=hg;obtain⟨f0,f1,f2,f3,f4,f5⟩:=hf it (by simp);have fin:∀h',Heap.ExtBut it s.heap h'->(none:Option Value)=none/\Inv X pins σ H { s with heap:=h' }:=fun h' eb=>⟨rfl,I.turned (t':=s.toks) (fun b o hb e=>eb b o hb e) f0 f1 f3 f4 f5⟩
  rcases hty with e|e
  .subst e
   exact wpAny_pyNext_ascii_end (I.ok.hd hc) st (by simp;omega) fin
  .subst e
   exact wpAny_pyNext_wide_end (I.ok.hd hc) st (by simp;omega) fin
 self:=fun _ _ _ _ _ st h=>by
  rcases hty with e|e
  .subst e
   exact wpAny_pyIter_striter_ascii st h
  .subst e
   exact wpAny_pyIter_striter_wide st h
section
variable {X:Cx}{tg:Expr}
end
theorem all_range(bs:List Bool)(n:Nat)(hn:n=bs.length):(List.range n).all (fun i=>bs.getD i false)=bs.all id:=by
 subst hn;rw[Bool.eq_iff_iff,List.all_eq_true,List.all_eq_true];constructor
 .intro h b hb
  obtain⟨i,hi,rfl⟩:=List.getElem_of_mem hb;have:=h i (List.mem_range.mpr hi);simpa[List.getD,hi] using this
 .intro h i hi
  have hi':=List.mem_range.mp hi;have:=h bs[i] (List.getElem_mem hi');simpa[List.getD,hi'] using this
theorem tH:∀(ns:List Int) (k:Nat),k<=ns.length->preSum (fun i=>ns.getD i 0) k=(ns.take k).sum
 |ns,0,_=>by simp[preSum]
 |ns,k+1,h=>by
  have hk:k<ns.length:=h;have ih:=tH ns k (Nat.le_of_lt hk)
  have e:(ns.take (k+1)).sum=(ns.take k).sum+ns.getD k 0:=by
   rw[List.take_add_one,List.sum_append];simp[List.getD,hk]
  rw[e,←ih];rfl
section
variable {X:Cx}
theorem Dz(hc:X.calm=true):CallR X (.builtin "all") (fun xs H Q=>∃(p:Addr) (bs:List Bool),xs=[.ref p]/\SqL X.K H p (bs.map V.bl)/\Q (.bl (bs.all id)) H):=by
 intro pins s σ H xs us Q I r h;obtain⟨p,bs,rfl,hq,q⟩:=h;obtain⟨u,rfl,ru⟩:=vals1 r;cases ru;obtain⟨its,rv,pl,hz⟩:=I.list hq
 have hlen:its.length=bs.length:=by have:=rv.length;simpa using this.symm
 have hlt:p<s.heap.objs.size:=by
  obtain⟨o,n,e,_⟩:=pl;exact Heap.lt_size e
 refine call_all_walk (wpAny_pyIter_list pl.isList ?_);refine⟨s.heap.objs.size,_,_,_,_,_,fun i=>bs.getD i false,rfl,Walks.list (A:=X.A.in1) (I.ok.hd hc) _ p (Nat.ne_of_lt hlt) its.toArray,⟨⟨_,Heap.get?_push_size _ rfl,rfl,rfl⟩,?_⟩,fun i v s' Q' E' hv hQ'=>?_,fun h' tk hk=>?_⟩
 .obtain⟨o,n,e,r⟩:=pl.isList
  exact⟨o,Heap.get?_push_of_some _ n,e,r⟩
 .have hi:i<its.length:=by
   have:=(Array.getElem?_eq_some_iff.mp hv).1;simpa using this
  have hi2:i<bs.length:=by omega
  obtain⟨u,hu,ru⟩:=rv.get (i:=i) (x:=.bl bs[i]) (by simp[hi2])
  have e:v=u:=by
   have hv':its[i]? = some v:=by simpa using hv
   rw[hu] at hv';exact(Option.some.inj hv').symm
  subst e;cases (show v=Value.bool bs[i] from ru);refine wpAny_truthy_bool ?_
  have e:bs[i]=bs.getD i false:=by simp[List.getD,hi2]
  rw[e];exact hQ'
 .have e:(List.range its.toArray.size).all (fun i=>bs.getD i false)=bs.all id:=all_range bs _ (by simpa using hlen)
  rw[e];exact⟨.bl _,H,I.kept (t':=tk) fun b o q=>hk b o (by simp;exact Nat.ne_of_lt (Heap.lt_size q)) (Heap.get?_push_of_some _ q),rfl,q⟩
theorem wD{ns:List Int}{its:List Value}(rv:Vals (ns.map V.int) its){i:Nat}{v:Value}(hv:its.toArray[i]? = some v):∃t,v=.int (ns.getD i 0) t:=by
 have hlen:its.length=ns.length:=by have:=rv.length;simpa using this.symm
 have hi:i<its.length:=by
  have:=(Array.getElem?_eq_some_iff.mp hv).1;simpa using this
 have hi2:i<ns.length:=by omega
 obtain⟨u,hu,ru⟩:=rv.get (i:=i) (x:=.int ns[i]) (by simp[hi2])
 have e:v=u:=by
  have hv':its[i]? = some v:=by simpa using hv
  rw[hu] at hv';exact(Option.some.inj hv').symm
 subst e;obtain⟨t,e⟩:=(show ∃t,v=Value.int ns[i] t from ru);refine⟨t,?_⟩;rw[e];simp[List.getD,hi2]
theorem Dx(hc:X.calm=true):CallR X (.builtin "sum") (fun xs H Q=>∃(p:Addr) (ns:List Int),xs=[.ref p]/\SqL X.K H p (ns.map V.int)/\Q (.int ns.sum) H):=by
 intro pins s σ H xs us Q I r h;obtain⟨p,ns,rfl,hq,q⟩:=h;obtain⟨u,rfl,ru⟩:=vals1 r;cases ru;obtain⟨its,rv,pl,hz⟩:=I.list hq
 have hlen:its.length=ns.length:=by have:=rv.length;simpa using this.symm
 have hlt:p<s.heap.objs.size:=by
  obtain⟨o,n,e,_⟩:=pl;exact Heap.lt_size e
 refine call_sum_walkG (wpAny_pyIter_list pl.isList ?_);refine⟨s.heap.objs.size,_,_,_,_,_,fun i=>ns.getD i 0,rfl,Walks.list (A:=X.A.in1) (I.ok.hd hc) _ p (Nat.ne_of_lt hlt) its.toArray,⟨⟨_,Heap.get?_push_size _ rfl,rfl,rfl⟩,?_⟩,fun b hb=>?_,fun i v hv=>wD rv hv,fun h' tk t' hk=>?_⟩
 .obtain⟨o,n,e,r⟩:=pl.isList
  exact⟨o,Heap.get?_push_of_some _ n,e,r⟩
 .rw[Heap.size_push]
  rcases(by simpa using hb:b=s.heap.objs.size\/b=p) with e|e
  .rw[e];exact Nat.lt_succ_self _
  .rw[e];exact Nat.lt_succ_of_lt hlt
 .have e:preSum (fun i=>ns.getD i 0) its.toArray.size=ns.sum:=by
   rw[tH ns _ (by simp;omega)];rw[List.take_of_length_le (by simp;omega)]
  rw[e];exact⟨.int _,H,I.kept (t':=tk) fun b o q=>hk b o (by simp;exact Nat.ne_of_lt (Heap.lt_size q)) (Heap.get?_push_of_some _ q),⟨t',rfl⟩,q⟩
end
open K1 (dy cE)
theorem ED(h:Q (.bool (decide (a>b))) s):wpAny (model prog w) A (richCompare .Gt (.int a t) (.int b u)) Q E s:=
 CmpOf.ints_gt (P:=fun i v=>v=if i=0 then Value.int a t else Value.int b u) (fun i=>if i=0 then a else b) (fun i v hv=>by
  by_cases hi:i=0
  .exact⟨t,by rw[hv,if_pos hi,if_pos hi]⟩
  .exact⟨u,by rw[hv,if_neg hi,if_neg hi]⟩) 0 1 _ _ s Q E rfl rfl h
section
variable {prog:Program}{w:World}{A:Around}{R:Result->Shared->Prop}{it S:Addr}{fp wr:List Addr}{P:Nat->Value->Prop}{St:Nat->Heap->Prop}{ns:List Int}{kw:List (Str×Value)}
theorem BF(W:Walks prog w A.in1 it fp wr ns.length P St)(hval:∀i v,P i v->∃t,v=.int (ns.getD i 0) t)(hSf:S∉fp) :
  ∀(k j:Nat) (s:Shared) (best:Int) (tb:Tok) (c:Nat),ns.length-j=k->j<=ns.length->St j s.heap ->
   s.heap.get? S=some { cls:=.type "list",dict:=none,data:=.seq #[.int best tb,.int best tb] c,slots:=#[] } ->
   (∀h' tk t',(∀b o,b∉wr->b≠S->s.heap.get? b=some o->h'.get? b=some o)->R (.ok (.ret (.int (dy best (ns.drop j)) t'))) { s with heap:=h',toks:=tk }) ->
   codeAny (model prog w) A (.builtin "max.loop" ⟨[.ref it,.none,.ref S],kw⟩) R s:=by
 have sw:S∉wr:=fun h=>hSf (W.sub _ h)
 have nm:(toString "max"++toString ".loop" : String)="max.loop":=by decide
 intro k
 induction k with
 |zero=>
  intro j s best tb c hk hj st hS hR
  have ej:j=ns.length:=by omega
  refine codeAny_builtin F.entry_max_loop ?_;rw[Around.under_plainId F.plain_max_loop _];show wpAny (model prog w) A.in1 (seqItems? (.ref S) >>= _) _ _ s;refine wpAny_bind (wpAny_seqItems hS rfl ?_);show wpAny (model prog w) A.in1 (tryCatch (pyNext (.ref it)) _ >>= _) _ _ s;refine wpAny_bind (wpAny_tryCatch (W.done s _ _ (ej ▸ st) fun h' tk kk=>?_));have hS2:=kk S _ sw hS;show wpAny (model prog w) A.in1 (updateSeq S (fun _=>#[]) >>= _) _ _ _;refine wpAny_bind ?_;refine wpAny_updateSeq hS2 rfl (wpAny_bind (wpAny_letGo (wpAny_pure ?_)));have q:=hR (h'.update S (Obj.mapSeq fun _=>#[])) tk tb fun b o h1 h2 e=>(Heap.get?_update_other _ _ (Ne.symm h2)).trans (kk b o h1 e);rw[List.drop_eq_nil_of_le (Nat.le_of_eq ej.symm)] at q;exact q
 |succ k ih=>
  intro j s best tb c hk hj st hS hR
  have hlt:j<ns.length:=by omega
  have ed:ns.drop j=ns.getD j 0::ns.drop (j+1):=by
   rw[List.drop_eq_getElem_cons hlt];simp[List.getD,hlt]
  refine codeAny_builtin F.entry_max_loop ?_;rw[Around.under_plainId F.plain_max_loop _];show wpAny (model prog w) A.in1 (seqItems? (.ref S) >>= _) _ _ s;refine wpAny_bind (wpAny_seqItems hS rfl ?_);show wpAny (model prog w) A.in1 (tryCatch (pyNext (.ref it)) _ >>= _) _ _ s;refine wpAny_bind (wpAny_tryCatch (W.item j s _ _ hlt st fun v h' tk hP st2 kk=>?_));obtain⟨t,rfl⟩:=hval j v hP;have hS2:=kk S _ sw hS;show wpAny (model prog w) A.in1 (tryCatch (holding [Value.int (ns.getD j 0) t,Value.int (ns.getD j 0) t] (richCompare .Gt (Value.int (ns.getD j 0) t) (Value.int best tb) >>= _)) _ >>= _) _ _ _;refine wpAny_bind (wpAny_tryCatch (wpAny_holding (wpAny_bind (ED ?_))));refine wpAny_bind (wpAny_holding (wpAny_truthy_bool ?_));refine wpAny_bind (wpAny_letGo (wpAny_pure ?_))
  by_cases hb:ns.getD j 0>best
  .rw[decide_eq_true hb]
   simp only[if_true];refine wpAny_bind ?_;refine wpAny_updateSeq hS2 rfl (wpAny_bind (wpAny_letGo ?_));rw[nm];refine wpAny_pure ⟨plainId_quiet F.plain_max_loop _,ih (j+1) _ (ns.getD j 0) t _ (by omega) hlt (W.frame _ _ _ st2 fun b hbf o e=>?_) (Heap.get?_update_self _ hS2 rfl) fun h2 tk2 t2 k2=>?_⟩
   .exact(Heap.get?_update_other _ _ (fun z:S=b=>hSf (by rw[z];exact hbf))).trans e
   .have q:=hR h2 tk2 t2 fun b o h1 h3 e=>k2 b o h1 h3 ((Heap.get?_update_other _ _ (Ne.symm h3)).trans (kk b o h1 e))
    rw[ed,dy,if_pos hb] at q;exact q
  .rw[decide_eq_false hb]
   simp only[Bool.false_eq_true,if_false];refine wpAny_bind (wpAny_letGo ?_);rw[nm];refine wpAny_pure ⟨plainId_quiet F.plain_max_loop _,ih (j+1) _ best tb c (by omega) hlt st2 hS2 fun h2 tk2 t2 k2=>?_⟩;have q:=hR h2 tk2 t2 fun b o h1 h3 e=>k2 b o h1 h3 (kk b o h1 e);rw[ed,dy,if_neg hb] at q;exact q
theorem A7(W:Walks prog w A.in1 it fp wr ns.length P St)(hval:∀i v,P i v->∃t,v=.int (ns.getD i 0) t)(hSf:S∉fp)(st:St 0 s.heap)
  (hS:s.heap.get? S=some { cls:=.type "list",dict:=none,data:=.seq #[] c,slots:=#[] })
  (hR:∀h' tk t',(∀b o,b∉wr->b≠S->s.heap.get? b=some o->h'.get? b=some o)->R (.ok (.ret (.int (cE d ns) t'))) { s with heap:=h',toks:=tk }) :
  codeAny (model prog w) A (.builtin "max.loop" ⟨[.ref it,.none,.ref S],[(Str.ofString "default",.int d td)]⟩) R s:=by
 have sw:S∉wr:=fun h=>hSf (W.sub _ h)
 have nm:(toString "max"++toString ".loop" : String)="max.loop":=by decide
 refine codeAny_builtin F.entry_max_loop ?_;rw[Around.under_plainId F.plain_max_loop _];show wpAny (model prog w) A.in1 (seqItems? (.ref S) >>= _) _ _ s;refine wpAny_bind (wpAny_seqItems hS rfl ?_);show wpAny (model prog w) A.in1 (tryCatch (pyNext (.ref it)) _ >>= _) _ _ s
 cases hn:ns with
 |nil=>
  have e0:ns.length=0:=by rw[hn];rfl
  refine wpAny_bind (wpAny_tryCatch (W.done s _ _ (by rw[e0];exact st) fun h' tk kk=>?_));refine wpAny_bind (wpAny_rule (wpAny_pure ?_));have q:=hR h' tk td fun b o h1 _ e=>kk b o h1 e;rw[hn] at q;exact q
 |cons n0 r0=>
  have e0:0<ns.length:=by rw[hn];exact Nat.succ_pos _
  refine wpAny_bind (wpAny_tryCatch (W.item 0 s _ _ e0 st fun v h' tk hP st2 kk=>?_));obtain⟨t,rfl⟩:=hval 0 v hP;have hS2:=kk S _ sw hS;show wpAny (model prog w) A.in1 (updateSeq S (fun _=>#[Value.int (ns.getD 0 0) t,Value.int (ns.getD 0 0) t]) >>= _) _ _ _;refine wpAny_bind ?_;refine wpAny_updateSeq hS2 rfl ?_;rw[nm];refine wpAny_pure ⟨plainId_quiet F.plain_max_loop _,BF W hval hSf _ 1 _ (ns.getD 0 0) t _ rfl e0 (W.frame _ _ _ st2 fun b hbf o e=>?_) (Heap.get?_update_self _ hS2 rfl) fun h2 tk2 t2 k2=>?_⟩
  .exact(Heap.get?_update_other _ _ (fun z:S=b=>hSf (by rw[z];exact hbf))).trans e
  .have q:=hR h2 tk2 t2 fun b o h1 h3 e=>k2 b o h1 h3 ((Heap.get?_update_other _ _ (Ne.symm h3)).trans (kk b o h1 e))
   rw[hn] at q ⊢;exact q
end
theorem Ar(a v:Value):argsOk "max" ⟨[a],[(Str.ofString "default",v)]⟩:=by unfold argsOk;kernel_rfl
section
variable {X:Cx}
theorem Cr(hc:X.calm=true)(I:Inv X pins σ H s)(hq:SqL X.K H p (ns.map V.int))(q:Q (.int (cE d ns)) H) :
  wpAny (model X.prog X.w) X.A (call (.builtin "max") [.ref p] [(Str.ofString "default",.int d td)]) (EP X pins σ Q) X.xe s:=by
 obtain⟨its,rv,pl,hz⟩:=I.list hq
 have hlen:its.length=ns.length:=by have:=rv.length;simpa using this.symm
 have hlt:p<s.heap.objs.size:=by
  obtain⟨o,n,e,_⟩:=pl;exact Heap.lt_size e
 have nm:(toString "max"++toString ".loop" : String)="max.loop":=by decide
 refine kmk_tree PySem.F.kind_max PySem.F.plain_max PySem.F.entry_max (Ar _ _) ?_;show wpAny (model X.prog X.w) X.A.in1 (Builtin.Builtins.bindParams "max" ["key","default"] 0 ⟨[],[(Str.ofString "default",Value.int d td)]⟩ >>= _) _ _ s;refine wpAny_bind (wpAny_of_eq (show Builtin.Builtins.bindParams "max" ["key","default"] 0 ⟨[],[(Str.ofString "default",Value.int d td)]⟩=pure [none,some (.int d td)] from rfl) ?_);refine wpAny_bind (wpAny_pure ?_);refine wpAny_bind (wpAny_pyIter_list pl.isList ?_);refine wpAny_bind (wpAny_newObj_type ?_);rw[nm];have W:=Walks.list (prog:=X.prog) (w:=X.w) (A:=X.A.in1) (I.ok.hd hc) s.heap.objs.size p (Nat.ne_of_lt hlt) its.toArray
 have en:its.toArray.size=ns.length:=by simpa using hlen
 rw[en] at W;have hS:(s.heap.push { cls:=.type "list_iterator",data:=.fields #[.ref p,.int 0 0] }).objs.size=s.heap.objs.size+1:=Heap.size_push ..
 have nS:(s.heap.push { cls:=.type "list_iterator",data:=.fields #[.ref p,.int 0 0] }).objs.size∉[s.heap.objs.size,p]:=fun hm=>by
  rw[hS] at hm
  rcases List.mem_cons.mp hm with e|e
  .exact Nat.succ_ne_self _ e
  .rw[←List.mem_singleton.mp e] at hlt
   exact absurd hlt (Nat.not_lt_of_le (Nat.le_succ _))
 refine wpAny_pure ⟨plainId_quiet PySem.F.plain_max_loop _,A7 W (fun i v hv=>wD rv hv) nS ⟨⟨_,Heap.get?_push_of_some _ (Heap.get?_push_size _ rfl),rfl,rfl⟩,?_⟩ (Heap.get?_push_size _ rfl) fun h' tk t' hk=>?_⟩
 .obtain⟨o,n,e,r⟩:=pl.isList
  exact⟨o,Heap.get?_push_of_some _ (Heap.get?_push_of_some _ n),e,r⟩
 .exact⟨.int _,H,I.kept (t':=tk) fun b o z=>hk b o (by simp;exact Nat.ne_of_lt (Heap.lt_size z)) (by rw[hS];exact Nat.ne_of_lt (Nat.lt_succ_of_lt (Heap.lt_size z))) (Heap.get?_push_of_some _ (Heap.get?_push_of_some _ z)),⟨t',rfl⟩,q⟩
def HL(K:Frag)(te td:TE):TE:=fun σ H Q=>te σ H fun x H1=>∃x',[x]=[x']/\td σ H1 fun y H2=>∃p ns d,x'=.ref p/\y=.int d/\SqL K H2 p (ns.map V.int)/\Q (.int (cE d ns)) H2
end
section
variable {X:Cx}{e ed:Expr}{te td:TE}{p pos kpos:Pos}
theorem Ek(hc:X.calm=true)(hg:Gl X "max")(hm:X.mg "max"=none)(ha:PE X e te)(hd:PE X ed td)(hs:starEach [e] X.env=(false,eval e X.env)::starEach [] X.env:=by rfl)
  (h1:backTo pos (starEach [e] X.env)=(false,eval e X.env)::backTo pos (starEach [] X.env):=by rfl)
  (h2:(backTo pos (starEach [e] X.env)).any (·.1)=false:=by rfl) (h3:(backToKw pos (keywordEach [⟨some "default",ed,kpos⟩] X.env)).all (·.1.isSome)=true:=by rfl)
  (h4:(backToKw pos (keywordEach [⟨some "default",ed,kpos⟩] X.env)).any (·.1.isNone)=false:=by rfl) (h5:(backToKw pos (keywordEach [⟨some "default",ed,kpos⟩] X.env)).filterMap (·.1)=[Str.ofString "default"]:=by rfl) :
  PE X (.Call (.Name "max" p) [e] [⟨some "default",ed,kpos⟩] pos) (HL X.K te td):=by
 intro pins s σ H Q I h;refine wpAny_Call_Name_kw (jC I hg hm boot_max ?_ (by decide) (by decide));refine PyProof.Rows.callWith_kw (thn ((cX ha dA hs) pos pins s σ H (fun vs H1=>∃x,vs=[x]/\td σ H1 fun y H2=>∃p ns d,x=.ref p/\y=.int d/\SqL X.K H2 p (ns.map V.int)/\Q (.int (cE d ns)) H2) I ?_) fun us s1 ⟨vs,H1,I1,r,x,ex,q⟩=>?_) h1 h2 h3 h4
 .exact h
 .subst ex
  obtain⟨u,rfl,ru⟩:=vals1 r;refine PyProof.Rows.kws_cons (thn (hd pins s1 σ H1 _ I1 q) fun v s2 ⟨y,H2,I2,r2,q2⟩=>PyProof.Rows.kws_nil ?_);obtain⟨p,ns,d,rfl,rfl,hq,q⟩:=q2;cases ru;obtain⟨t,rfl⟩:=r2;rw[h5];exact Cr hc I2 hq q
end
section
variable {X:Cx}
theorem By:OpR X (compareOp .IsNot) (fun x y H Q=>∃b c,x=.bl b/\y=.bl c/\Q (.bl (b != c)) H):=by
 intro pins s σ H x y v u Q I rx ry h;obtain⟨b,c,rfl,rfl,q⟩:=h;cases rx;cases ry;exact isnot_bool ⟨.bl (b != c),H,I,rfl,q⟩
theorem op_catG:OpR X (binaryOp .Add) (fun x y H Q=>∃a b xs ys,x=.ref a/\y=.ref b/\SqT X.K H a xs/\SqT X.K H b ys/\xs.length+ys.length<=sizeLine /\
  (xs=[]->Q (.ref b) H)/\(xs≠[]->ys=[]->Q (.ref a) H)/\(xs≠[]->ys≠[]->∀p,H p=none->Q (.ref p) (upd H p (.tup (xs++ys))))):=by
 intro pins s σ H x y v u Q I rx ry h;obtain⟨a,b,xs,ys,rfl,rfl,ha,hb,hz,q0,q1,q2⟩:=h
 by_cases hx:xs=[]
 .cases rx
  cases ry;obtain⟨its,r1,p1,_⟩:=I.tuple ha;obtain⟨its2,r2,p2,_⟩:=I.tuple hb;have hv:its=[]:=r1.nil_iff.mpr hx;obtain⟨⟨cls,dd,data,sl⟩,ho,hc,n,hd⟩:=id p1;obtain⟨⟨cls2,dd2,data2,sl2⟩,ho2,hc2,n2,hd2⟩:=id p2;simp only at hc hd hc2 hd2;subst hc hd hc2 hd2
  exact concat_meets ⟨_,ho,rfl⟩ ⟨_,ho2,rfl⟩ noFill_tuple_add seq_tuple_add PySem.F.slot_tuple_add PySem.F.entry_tuple_add (PySem.F.args_tuple_add_2 _ _)
   (tuple_addW0 a b its.toArray its2.toArray n n2 dd dd2 sl sl2 (by simp[hv])) ⟨ho,ho2,⟨.ref b,H,I,rfl,q0 hx⟩⟩
 .exact Es pins s σ H _ _ v u Q I rx ry ⟨a,b,xs,ys,rfl,rfl,ha,hb,hx,hz,q1 hx,q2 hx⟩
theorem F9:SlR X (fun x lo hi H Q=>∃z:Str,x=.str z/\z.length<=sizeLine/\Q (.str (Txt.slice z lo hi)) H):=by
 intro pins s σ H x v vl vu lo hi sl Q I rx hs pl pu h;obtain⟨z,rfl,hz,q⟩:=h;obtain⟨t,rfl⟩:=rx
 have fin:∀l u:Option (Int×Tok),l.map (·.1)=lo->u.map (·.1)=hi->s.heap.IsSlice sl l u none->wpAny (model X.prog X.w) X.A (getItem (.str z t) (.ref sl)) (EP X pins σ Q) X.xe s:=fun l u el eu h=>by
  refine wpAny_getItem_str_slice h rfl ?_;refine post_val_or_made (fun _=>?_) fun t' k=>?_
  .have:=sliceIndices_le (l.map (·.1)) (u.map (·.1)) z.length
   have e:=List.length_filterMap_le (fun i=>z.cps[i]?) (slicePicked z l u none);show ((slicePicked z l u none).filterMap (z.cps[·]?)).toArray.size<=sizeLine;rw[List.size_toArray];unfold slicePicked at e ⊢;simp only[Option.map_none,Option.getD_none] at e ⊢;omega
  .refine⟨.str (Txt.slice z lo hi),H,I.tok _,⟨t',?_⟩,q⟩
   rw[←el,←eu];rfl
 refine⟨"str",_,PySem.F.slot_str_getitem.lookup,typeIs_str s z t,?_⟩
 cases pl with
 |none=>
  cases pu with
  |none=>exact fin none none rfl rfl hs
  |int j u=>exact fin none (some (j,u)) rfl rfl hs
 |int i u=>
  cases pu with
  |none=>exact fin (some (i,u)) none rfl rfl hs
  |int j u'=>exact fin (some (i,u)) (some (j,u')) rfl rfl hs
theorem Br{z:Str}{lo hi:Option Int}{c:Nat}(h:c∈(Txt.slice z lo hi).cps.toList):c∈z.cps.toList:=by
 unfold Txt.slice at h;split at h
 .exact h
 .obtain⟨i,_,hi⟩:=List.mem_filterMap.mp (by simpa using h)
  have:=Array.mem_of_getElem? hi;simpa using this
theorem op_mulS:OpR X (binaryOp .Mult) (fun x y H Q=>∃z k,x=.str z/\y=.int k/\0<=k/\k<=2000/\z.length<=1000/\Q (.str (Txt.mul z k)) H):=by
 intro pins s σ H x y v u Q I rx ry h;obtain⟨z,k,rfl,rfl,h1,h2,h3,q⟩:=h;obtain⟨t,rfl⟩:=rx;obtain⟨t',rfl⟩:=ry;have hm:z.length*k.toNat<=1000*2000:=Nat.mul_le_mul h3 (by omega);refine SB.mul ⟨?_,fun g1 g2=>?_,fun g1 g2=>?_⟩ fun t' k'=>⟨.str _,H,I.tok _,⟨t',rfl⟩,q⟩
 .simp;omega
 .have hk:1<=k:=by simp at g1;omega
  have e1:(1000:Int)<=(2^63-1) / k:=by
   rw[Int.le_ediv_iff_mul_le (by omega)];omega
  omega
 .unfold Builtin.Str.tooLong
  simp[sizeLine];omega
end
theorem tw:∀{us:List Value},Vals (ys.map V.str) us->StrsAre us ys:=by
 induction ys with
 |nil=>intro us r;rw[List.map_nil] at r;cases r;exact .nil
 |cons y ys ih=>
  intro us r;rw[List.map_cons] at r
  cases r with
  |cons r1 r2=>
   obtain⟨t,e⟩:=r1;subst e;exact .cons y t (ih r2)
section
variable {X:Cx}
end
structure Fn(P:Program)(w:World)(K:Frag)(mg:Str->Option Value)(base:Heap)(name:Str)(ps:List Str)(k:Nat)(sp:Sp):Prop where
 ex:∃f fd,FnOk P w K mg base CX0 k f fd ps sp/\Binds K fd ps []/\PySem.W.keepIn K (.ref f)=true/\mg name=some (.ref f)
section
variable {X:Cx}{name:Str}{ps:List Str}{k:Nat}{sp:Sp}{e:Expr}{es:List Expr}{t:TA}{p pos:Pos}
theorem lc(F:Fn X.prog X.w X.K X.mg X.base name ps k sp)(hr:Room k X.A)(hg:Gl X name)(ha:PA X (e::es) t)(hdb:(name == ("__debug__" : Str))=false:=by decide)
  (he:starEach (e::es) X.env=(false,eval e X.env)::starEach es X.env:=by rfl) (hpl:(backTo pos (starEach es X.env)).any (·.1)=false:=by rfl):PE X (.Call (.Name name p) (e::es) [] pos) (rP sp [] E0 t):=by
 obtain⟨f,fd,h1,h2,h3,h4⟩:=F.ex;exact En h1 hr hg h4 h3 h2 .nil Ic ha hdb he hpl
end
theorem CK(S:CS osc N x scope N')(hi:PI X (.Name x px) iter wi)
  (he:∀C s0 H0 ex,PE (bQ X x scope C s0 H0 ex N') elt te) (ht:∀C s0 H0 ex,PTs (bQ X x scope C s0 H0 ex N') ifs tt) (hc:X.calm=true:=by rfl) (hs:X.env.scope=osc:=by rfl) (hN:X.N=N:=by rfl)
  (hf:∀v,foldedSetIterable iter X.env v=pure v:=by intro _;rfl):PE X (.ListComp elt [⟨.Name x px,iter,ifs,0⟩] scope pos) (yB wi tt te):=by
 subst hs hN;exact El hc S hi he ht hf
end L2
namespace D
open PySem PySem.Spec PyProof.Rows L2
inductive Gh(P:Hp->Prop):Hp->Prop where
 |done {H:Hp}:P H->Gh P H
 |frz {H:Hp}{a:Addr}{kvs:List (Key×V)}:H a=some (.dK kvs)->(∀o,Gh P (upd H a (.frz o (.dK kvs))))->Gh P H
theorem Gh.imp(g:Gh P H)(i:∀H,P H->P' H):Gh P' H:=by
 induction g with
 |done h=>exact .done (i _ h)
 |frz e _ ih=>exact .frz e ih
section
variable {X:Cx}{pins:List (Addr×Obj)}{σ:L2.St}{H:Hp}{s:Shared}
theorem wC(I:Inv X pins σ H s)(e:H a=some (.dK kvs)):∃o,Inv X pins σ (upd H a (.frz o (.dK kvs))) s:=by
 obtain⟨z,y,vs,kv,o,es,ep,eo,r⟩:=I.hok a _ e
 have U:∀{b:Addr}{u:HO},H b=some u->(∀ks,u≠.dK ks)->upd H a (.frz o (.dK kvs)) b=some u:=fun {b u} q n=>by
  rw[aT (fun z=>by subst z;rw[e] at q;cases q;exact n _ rfl)];exact q
 have hok:HOk X.prog X.w (upd H a (.frz o (.dK kvs))) s.heap:=fun b u q=>by
  by_cases hb:b=a
  .subst hb
   rw[bt] at q;cases q;exact⟨eo,(I.hok b _ e).stay (fun _ _ _ q=>q) (fun c q=>U q (fun _ z=>nomatch z)) fun c xs q=>U q (fun _ z=>nomatch z)⟩
  .rw[aT hb] at q
   exact(I.hok b u q).stay (fun _ _ _ q=>q) (fun c q=>U q (fun _ z=>nomatch z)) fun c xs q=>U q (fun _ z=>nomatch z)
 exact⟨o,I.un (h':=s.heap) (t':=s.toks) ⟨fun b ob q n _ _=>q,fun b ob q n _ _=>⟨_,q⟩,fun b ob q n _=>by rw[aT (fun z=>by subst z;rw[e] at n;cases n)];exact n,fun b ob q _=>⟨_,q⟩,fun b xs q=>U q (fun _ z=>nomatch z),
  fun b ob u q=>U q (fun _ z=>nomatch z),fun b ps q=>⟨#[],by rw[U q (fun _ z=>nomatch z)];simp⟩⟩ hok⟩
theorem Gh.ok(g:Gh P H)(I:Inv X pins σ H s):∃H',Inv X pins σ H' s/\P H':=by
 induction g with
 |done h=>exact⟨_,I,h⟩
 |frz e _ ih=>
  obtain⟨o,I'⟩:=wC I e;exact ih o I'
end
section
variable {X:Cx}
theorem HX{st:Stmt}{t:TS}(h:PS X st t):PS X st (fun D σ H=>Gh (t D σ) H):=fun pins s σ H D I q=>by
 obtain⟨H',I',q'⟩:=q.ok I;exact h pins s σ H' D I' q'
theorem Ia(h:PE X e t):PE X e (fun σ H Q=>t σ H fun v H1=>Gh (Q v) H1):=fun pins s σ H Q I q=>
 thn (h pins s σ H _ I q) fun u s' ⟨v,H',I',r,q'⟩=>by
  obtain⟨H2,I2,q2⟩:=q'.ok I';exact⟨v,H2,I2,r,q2⟩
end
def il(o:Obj):Nat:=match o.data with
 |.dict _ ep=>ep
 |_=>0
def Itd(a:Addr)(o:Obj)(kvs:List (Key×V)):It:=⟨fun i H=>H a=some (.frz o (.dK kvs))/\i<kvs.length,fun i H x H'=>H'=H/\∃k v,kvs[i]? = some (k,v)/\x=kV k,fun i H=>H a=some (.frz o (.dK kvs))/\i=kvs.length⟩
theorem iC(ok:HOk P w H h)(e:H a=some (.frz o (.dK kvs))):kvs.length<=sizeLine/\(a == sysModules)=false/\∃vs,KV kvs vs/\h.DictAt (bx P w) a vs (il o):=by
 obtain⟨e1,z,y,vs,kv,o',es,ep,e2,ed,dd,r⟩:=ok a _ e;rw[e1] at e2;cases e2;refine⟨z,y,vs,kv,o,es,e1,ed,?_,r⟩;unfold il;rw[dd]
theorem keyV(e:(bx P w).is k v=true):RelV (kV k) v:=by
 rcases dX (show eW k v=true from e) with⟨i,t,rfl,rfl⟩|⟨x,t,rfl,rfl⟩
 .exact⟨t,rfl⟩
 .exact⟨t,rfl⟩
theorem IH{kvs:List (Key×V)}{vs:List (Key×Value)}(r:KV kvs vs){i:Nat}{k:Key}{x:Value}(e:vs[i]? = some (k,x)):∃v,kvs[i]? = some (k,v):=by
 have h:=r.keys
 have h1:(vs.map (·.1))[i]? = some k:=by rw[List.getElem?_map,e];rfl
 rw[←h,List.getElem?_map] at h1
 cases q:kvs[i]? with
 |none=>rw[q] at h1;cases h1
 |some p=>
  rw[q] at h1;cases h1;exact⟨p.2,rfl⟩
theorem Bq{P:Program}{w:World}{K:Frag}{tg:Expr}(a it:Addr)(o:Obj)(kvs:List (Key×V)):Turn P w K tg (Itd a o kvs) [it] it (fun i h=>h.IsKeyIter it a i kvs.length (il o)) where
 mem:=by simp
 obj:=fun i h st b hb=>by
  have e:b=it:=by simpa using hb
  subst e;obtain⟨o,e,c,d⟩:=st;exact⟨o,e,fun v z=>by rw[d] at z;cases z⟩
 keep:=fun i h h' st k=>st.at fun o e=>k it (by simp) o e
 item:=by
  intro X hP hw hK hc i pins s σ H E I hf st hg;subst hP hw hK;obtain⟨hg1,hg2⟩:=hg;obtain⟨z,y,vs,kv,dd⟩:=iC I.hok hg1;obtain⟨f0,f1,f2,f3,f4,f5⟩:=hf it (by simp);have hl:=kv.length
  have ne:a≠it:=fun q=>by rw[q,f0] at hg1;cases hg1
  have W:=Walks.dictKeys (prog:=X.prog) (w:=X.w) (knd:=bx X.prog X.w) (I.ok.hd hc) it a ne vs (il o);refine W.item i s _ _ (by omega) ⟨by rw[←hl];exact st,dd⟩ fun v h' tk hv st' kk=>?_;obtain⟨k,x,h1,h2⟩:=hv;have I1:Inv X pins σ H { s with heap:=h',toks:=tk }:=I.turned (fun b o hb e=>kk b o (by simpa using hb) e) f0 f1 f3 f4 f5
  have st1:h'.IsKeyIter it a (i+1) kvs.length (il o):=by rw[hl];exact st'.1
  obtain⟨o1,e1,c1,d1⟩:=id st1;obtain⟨v0,h3⟩:=IH kv h1;exact⟨v,rfl,lD (s:={ s with heap:=h',toks:=tk }) e1 c1 d1 (by decide) ⟨kV k,H,I1,keyV h2,⟨rfl,k,v0,h3,rfl⟩,st1,fun b hb=>(hf b hb).1⟩⟩
 done:=by
  intro X hP hw hK hc i pins s σ H E I hf st hg;subst hP hw hK;obtain⟨hg1,hg2⟩:=hg;obtain⟨z,y,vs,kv,dd⟩:=iC I.hok hg1;obtain⟨f0,f1,f2,f3,f4,f5⟩:=hf it (by simp);have hl:=kv.length
  have ne:a≠it:=fun q=>by rw[q,f0] at hg1;cases hg1
  have W:=Walks.dictKeys (prog:=X.prog) (w:=X.w) (knd:=bx X.prog X.w) (I.ok.hd hc) it a ne vs (il o);refine W.done s _ _ ⟨by rw[←hl,←hg2];rw[←hg2] at st;exact st,dd⟩ fun h' tk kk=>⟨rfl,I.turned (fun b o hb e=>kk b o (by simpa using hb) e) f0 f1 f3 f4 f5⟩
 self:=fun _ _ _ _ _ st h=>wpAny_pyIter_keyiter st h
inductive W where
 |d (x:PyData)|tp (i:Nat)|loc (x:PyData)
abbrev Tp:=List (List PyData)
abbrev Rho:=List (Option W)
noncomputable def bnd{α β:Type}(o:Option (α×Tp))(k:α->Tp->Option β):Option β:=match o with
 |some (a,T)=>k a T
 |none=>none
theorem aM{α β:Type}{o:Option (α×Tp)}{k:α->Tp->Option β}{b:β}(h:bnd o k=some b):∃a T,o=some (a,T)/\k a T=some b:=by
 cases o with
 |none=>cases h
 |some p=>exact⟨p.1,p.2,rfl,h⟩
theorem Ho{α β:Type}{a:α}{T:Tp}{k:α->Tp->Option β}:bnd (some (a,T)) k=k a T:=rfl
def gE:Key->PyData
 |.inl i=>.int i
 |.inr x=>.str x
def TupAt(K:Frag)(O:Addr->Prop)(H:Hp)(a:Addr)(vs:List V):Prop:=(¬O a/\Rd H a (.tup vs))\/SqT K (fun _=>none) a vs
def LstAt(K:Frag)(O:Addr->Prop)(H:Hp)(a:Addr)(vs:List V):Prop:=(¬O a/\Rd H a (.lst vs))\/SqL K (fun _=>none) a vs
theorem F5{K:Frag}{H:Hp}{a:Addr}{vs:List V}(h:SqT K (fun _=>none) a vs):SqT K H a vs:=by
 rcases h with(h|⟨o,h⟩)|h
 .cases h
 .cases h
 .exact .inr h
theorem F6{K:Frag}{H:Hp}{a:Addr}{vs:List V}(h:SqL K (fun _=>none) a vs):SqL K H a vs:=by
 rcases h with(h|⟨o,h⟩)|h
 .cases h
 .cases h
 .exact .inr h
theorem TupAt.sq{K:Frag}{O:Addr->Prop}{H:Hp}{a:Addr}{vs:List V}(h:TupAt K O H a vs):SqT K H a vs:=by
 rcases h with h|h
 .exact .inl h.2
 .exact F5 h
theorem LstAt.sq{K:Frag}{O:Addr->Prop}{H:Hp}{a:Addr}{vs:List V}(h:LstAt K O H a vs):SqL K H a vs:=by
 rcases h with h|h
 .exact .inl h.2
 .exact F6 h
mutual
inductive Rep(K:Frag)(O:Addr->Prop)(H:Hp):V->PyData->Prop where
 |non:Rep K O H .non .none
 |bl (b:Bool):Rep K O H (.bl b) (.bool b)
 |int (i:Int):Rep K O H (.int i) (.int i)
 |str (x:Str):Rep K O H (.str x) (.str x)
 |tup {a:Addr}{vs:List V}{ds:List PyData}:TupAt K O H a vs->Reps K O H vs ds->Rep K O H (.ref a) (.tuple ds)
 |lst {a:Addr}{vs:List V}{ds:List PyData}:LstAt K O H a vs->Reps K O H vs ds->Rep K O H (.ref a) (.list ds)
 |dct {a:Addr}{o:Obj}{kvs:List (Key×V)}{ds:List (PyData×PyData)}:¬O a->H a=some (.frz o (.dK kvs))->RepK K O H kvs ds->Rep K O H (.ref a) (.dict ds)
inductive Reps(K:Frag)(O:Addr->Prop)(H:Hp):List V->List PyData->Prop where
 |nil:Reps K O H [] []
 |cons {v:V}{d:PyData}{vs:List V}{ds:List PyData}:Rep K O H v d->Reps K O H vs ds->Reps K O H (v::vs) (d::ds)
inductive RepK(K:Frag)(O:Addr->Prop)(H:Hp):List (Key×V)->List (PyData×PyData)->Prop where
 |nil:RepK K O H [] []
 |cons {k:Key}{v:V}{d:PyData}{kvs:List (Key×V)}{ds:List (PyData×PyData)}:Rep K O H v d->RepK K O H kvs ds->RepK K O H ((k,v)::kvs) ((gE k,d)::ds)
end
def Le(O:Addr->Prop)(H:Hp)(O':Addr->Prop)(H':Hp):Prop:=∀a o,¬O a->H a=some o->¬O' a/\H' a=some o
theorem Le.trans(h:Le O H O1 H1)(g:Le O1 H1 O2 H2):Le O H O2 H2:=fun a o n e=>let ⟨n1,e1⟩:=h a o n e;g a o n1 e1
theorem TupAt.mono{K:Frag}{O O':Addr->Prop}{H H':Hp}(h:Le O H O' H'){a:Addr}{vs:List V}(t:TupAt K O H a vs):TupAt K O' H' a vs:=by
 rcases t with⟨n,t|⟨o,t⟩⟩|t
 .exact .inl ⟨(h _ _ n t).1,.inl (h _ _ n t).2⟩
 .exact .inl ⟨(h _ _ n t).1,.inr ⟨o,(h _ _ n t).2⟩⟩
 .exact .inr t
theorem LstAt.mono{K:Frag}{O O':Addr->Prop}{H H':Hp}(h:Le O H O' H'){a:Addr}{vs:List V}(t:LstAt K O H a vs):LstAt K O' H' a vs:=by
 rcases t with⟨n,t|⟨o,t⟩⟩|t
 .exact .inl ⟨(h _ _ n t).1,.inl (h _ _ n t).2⟩
 .exact .inl ⟨(h _ _ n t).1,.inr ⟨o,(h _ _ n t).2⟩⟩
 .exact .inr t
mutual
theorem Rep.mono{K:Frag}{O O':Addr->Prop}{H H':Hp}(e:Le O H O' H'):∀{v:V}{d:PyData},Rep K O H v d->Rep K O' H' v d
 |_,_,.non=>.non
 |_,_,.bl b=>.bl b
 |_,_,.int i=>.int i
 |_,_,.str x=>.str x
 |_,_,.tup t r=>.tup (t.mono e) (Reps.mono e r)
 |_,_,.lst t r=>.lst (t.mono e) (Reps.mono e r)
 |_,_,.dct n h r=>.dct (e _ _ n h).1 (e _ _ n h).2 (RepK.mono e r)
theorem Reps.mono{K:Frag}{O O':Addr->Prop}{H H':Hp}(e:Le O H O' H'):∀{vs:List V}{ds:List PyData},Reps K O H vs ds->Reps K O' H' vs ds
 |_,_,.nil=>.nil
 |_,_,.cons r t=>.cons (Rep.mono e r) (Reps.mono e t)
theorem RepK.mono{K:Frag}{O O':Addr->Prop}{H H':Hp}(e:Le O H O' H'):∀{vs:List (Key×V)}{ds:List (PyData×PyData)},RepK K O H vs ds->RepK K O' H' vs ds
 |_,_,.nil=>.nil
 |_,_,.cons r t=>.cons (Rep.mono e r) (RepK.mono e t)
end
section
variable {K:Frag}{O:Addr->Prop}{H:Hp}
theorem Reps.length:∀{vs:List V}{ds:List PyData},Reps K O H vs ds->vs.length=ds.length
 |_,_,.nil=>rfl
 |_,_,.cons _ t=>congrArg (· + 1) (Reps.length t)
theorem Reps.get:∀{vs:List V}{ds:List PyData}{i:Nat}{v:V},Reps K O H vs ds->vs[i]? = some v->∃d,ds[i]? = some d/\Rep K O H v d
 |_,_,_,_,.nil,e=>by simp at e
 |_,_,0,_,.cons r _,e=>by simp at e;subst e;exact⟨_,rfl,r⟩
 |_,_,i+1,v,.cons _ t,e=>by
  obtain⟨d,h1,h2⟩:=Reps.get (i:=i) (v:=v) t (by simpa using e);exact⟨d,by simpa using h1,h2⟩
theorem Reps.getD:∀{vs:List V}{ds:List PyData}{i:Nat}{d:PyData},Reps K O H vs ds->ds[i]? = some d->∃v,vs[i]? = some v/\Rep K O H v d
 |_,_,_,_,.nil,e=>by simp at e
 |_,_,0,_,.cons r _,e=>by simp at e;subst e;exact⟨_,rfl,r⟩
 |_,_,i+1,v,.cons _ t,e=>by
  obtain⟨d,h1,h2⟩:=Reps.getD (i:=i) (d:=v) t (by simpa using e);exact⟨d,by simpa using h1,h2⟩
theorem Reps.set(r:Rep K O H v d):∀{vs:List V}{ds:List PyData} (i:Nat),Reps K O H vs ds->Reps K O H (vs.set i v) (ds.set i d)
 |_,_,_,.nil=>.nil
 |_,_,0,.cons _ t=>.cons r t
 |_,_,i+1,.cons q t=>.cons q (Reps.set r i t)
theorem Reps.append:∀{vs:List V}{ds:List PyData},Reps K O H vs ds->Reps K O H ws es->Reps K O H (vs++ws) (ds++es)
 |_,_,.nil,r=>r
 |_,_,.cons q t,r=>.cons q (Reps.append t r)
theorem Reps.take:∀{vs:List V}{ds:List PyData} (n:Nat),Reps K O H vs ds->Reps K O H (vs.take n) (ds.take n)
 |_,_,0,_=>.nil
 |_,_,_+1,.nil=>.nil
 |_,_,n+1,.cons r t=>.cons r (Reps.take n t)
theorem Reps.drop:∀{vs:List V}{ds:List PyData} (n:Nat),Reps K O H vs ds->Reps K O H (vs.drop n) (ds.drop n)
 |_,_,0,r=>r
 |_,_,_+1,.nil=>.nil
 |_,_,n+1,.cons _ t=>Reps.drop n t
theorem Reps.rep(r:Reps K O H vs ds):∀n:Nat,Reps K O H (List.replicate n vs).flatten (List.replicate n ds).flatten
 |0=>.nil
 |n+1=>by
  rw[List.replicate_succ,List.replicate_succ,List.flatten_cons,List.flatten_cons];exact r.append (r.rep n)
end
def SameX(ts:List Addr)(H H':Hp):Prop:=∀b o,b∉ts->H b=some o->H' b=some o
theorem SameX.refl(ts:List Addr)(H:Hp):SameX ts H H:=fun _ _ _ h=>h
theorem SameX.trans(a:SameX ts H H1)(b:SameX ts H1 H2):SameX ts H H2:=fun c o n h=>b c o n (a c o n h)
theorem SameX.new(h:H p=none)(o:HO):SameX ts H (upd H p o):=fun b u _ q=>by rw[aT (dv q h)];exact q
def Mut(o:Option HO):Prop:=(∃vs,o=some (.lst vs))\/(∃kvs,o=some (.dK kvs))\/∃C dx fs,o=some (.ins C dx fs)
theorem Mut.ex(h:Mut o):∃u,o=some u:=by rcases h with⟨vs,e⟩|⟨vs,e⟩|⟨C,dx,fs,e⟩ <;> exact⟨_,e⟩
theorem Mut.to(h:Mut o)(k:∀u,o=some u->o'=some u):Mut o':=by
 rcases h with⟨vs,e⟩|⟨vs,e⟩|⟨C,dx,fs,e⟩
 .exact .inl ⟨vs,k _ e⟩
 .exact .inr (.inl ⟨vs,k _ e⟩)
 .exact .inr (.inr ⟨C,dx,fs,k _ e⟩)
def Jj(C:Addr):PyData:=.dict [(.none,.int (C:Int))]
def isO:List PyData->Bool
 |.dict [(.none,_)]::_=>true
 |_=>false
def pairF(p:Str×PyData):PyData:=.tuple [.str p.1,p.2]
inductive RepF(K:Frag)(O:Addr->Prop)(H:Hp):List (Str×V)->List (Str×PyData)->Prop where
 |nil:RepF K O H [] []
 |cons {n:Str}{v:V}{d:PyData}{vs:List (Str×V)}{ds:List (Str×PyData)}:Rep K O H v d->RepF K O H vs ds->RepF K O H ((n,v)::vs) ((n,d)::ds)
theorem RepF.mono{K:Frag}{O O':Addr->Prop}{H H':Hp}(e:Le O H O' H'){vs:List (Str×V)}{ds:List (Str×PyData)}(r:RepF K O H vs ds):RepF K O' H' vs ds:=by
 induction r with
 |nil=>exact .nil
 |cons r _ ih=>exact .cons (Rep.mono e r) ih
def RowAt(K:Frag)(O:Addr->Prop)(H:Hp)(a:Addr)(xs:List PyData):Prop:=(isO xs=false/\∃vs,H a=some (.lst vs)/\Reps K O H vs xs)\/∃C dx fs fd,H a=some (.ins C dx fs)/\xs=Jj C::fd.map pairF/\RepF K O H fs fd
theorem RowAt.mono{K:Frag}{O O':Addr->Prop}{H H':Hp}{a:Addr}{xs:List PyData}(h:RowAt K O H a xs)(k:∀o,H a=some o->H' a=some o)(l:Le O H O' H'):RowAt K O' H' a xs:=by
 rcases h with⟨n,vs,h1,h2⟩|⟨C,dx,fs,fd,h1,h2,h3⟩
 .exact .inl ⟨n,vs,k _ h1,h2.mono l⟩
 .exact .inr ⟨C,dx,fs,fd,k _ h1,h2,h3.mono l⟩
theorem RowAt.lst{K:Frag}{O:Addr->Prop}{H:Hp}{a:Addr}{xs:List PyData}(h:RowAt K O H a xs)(n:isO xs=false):∃vs,H a=some (.lst vs)/\Reps K O H vs xs:=by
 rcases h with⟨_,h⟩|⟨C,dx,fs,fd,h1,h2,h3⟩
 .exact h
 .rw[h2] at n
  cases n
theorem D5{K:Frag}{O:Addr->Prop}{H:Hp}{v:V}{y:PyData}(h:Rep K O H v (.dict [(.none,y)])):False:=by
 cases h with
 |dct _ _ r=>
  generalize hl:[(PyData.none,y)]=l at r
  cases r with
  |nil=>cases hl
  |@cons k _ _ _ _ _ _=>
   injection hl with h1 _
   injection h1 with h1 _
   rcases k with i|x
   .cases h1
   .cases h1
theorem Reps.notO{K:Frag}{O:Addr->Prop}{H:Hp}{vs:List V}{xs:List PyData}(r:Reps K O H vs xs):isO xs=false:=by
 cases r with
 |nil=>rfl
 |cons h _=>
  rename_i d _ _ _;unfold isO;split
  .rename_i e
   cases e;exact(D5 h).elim
  .rfl
structure HC(K:Frag)(O:Addr->Prop)(ts:List Addr)(H:Hp)(T:Tp):Prop where
 own:∀b∈ts,O b
 trk:∀b,O b->Mut (H b)
 nd:ts.Nodup
 len:ts.length=T.length
 tape:∀(i:Nat) (a:Addr) (xs:List PyData),ts[i]? = some a->T[i]? = some xs->RowAt K O H a xs
section
variable {K:Frag}{O:Addr->Prop}{ts:List Addr}{H H':Hp}{T:Tp}
theorem HC.le(c:HC K O ts H T)(s:SameX ts H H'):Le O H O H':=fun a o n e=>⟨n,s a o (fun z=>n (c.own a z)) e⟩
theorem HC.step(c:HC K O ts H T)(s:SameX ts H H')(t:∀b∈ts,H' b=H b):HC K O ts H' T where
 own:=c.own
 trk:=fun b hb=>by
  by_cases z:b∈ts
  .rw[t b z];exact c.trk b hb
  .exact(c.trk b hb).to fun u e=>s b _ z e
 nd:=c.nd
 len:=c.len
 tape:=fun i a xs e1 e2=>by
  exact(c.tape i a xs e1 e2).mono (fun o h1=>by rw[t a (List.mem_of_getElem? e1)];exact h1) (c.le s)
theorem HC.fresh(c:HC K O ts H T)(h:H p=none):¬O p:=fun z=>by
 obtain⟨u,e⟩:=(c.trk p z).ex;rw[h] at e;cases e
theorem HC.new(c:HC K O ts H T)(h:H p=none)(o:HO):HC K O ts (upd H p o) T:=c.step (.new h o) fun b hb=>aT fun z=>c.fresh h (z ▸ c.own b hb)
theorem HC.leNew(c:HC K O ts H T)(h:H p=none)(o:HO):Le O H O (upd H p o):=c.le (.new h o)
theorem HC.newT(c:HC K O ts H T)(h:H p=none)(r:Reps K O H vs ds):Rep K O (upd H p (.tup vs)) (.ref p) (.tuple ds):=.tup (.inl ⟨c.fresh h,.inl bt⟩) (r.mono (c.leNew h _))
theorem HC.newL(c:HC K O ts H T)(h:H p=none)(r:Reps K O H vs ds):Rep K O (upd H p (.lst vs)) (.ref p) (.list ds):=.lst (.inl ⟨c.fresh h,.inl bt⟩) (r.mono (c.leNew h _))
end
inductive Vw(K:Frag)(O:Addr->Prop)(H:Hp):V->PyData->Prop where
 |rep {v:V}{x:PyData}:Rep K O H v x->Vw K O H v x
 |raw {a:Addr}{vs:List V}{xs:List PyData}:H a=some (.lst vs)->Reps K O H vs xs->Vw K O H (.ref a) (.list xs)
 |rawD {a:Addr}{kvs:List (Key×V)}{ds:List (PyData×PyData)}:H a=some (.dK kvs)->RepK K O H kvs ds->Vw K O H (.ref a) (.dict ds)
section
variable {K:Frag}{O:Addr->Prop}{H:Hp}{v:V}
theorem Vw.int(h:Vw K O H v (.int i)):v=.int i:=by cases h with|rep h=>cases h;rfl
theorem Vw.str(h:Vw K O H v (.str x)):v=.str x:=by cases h with|rep h=>cases h;rfl
theorem Vw.bl(h:Vw K O H v (.bool b)):v=.bl b:=by cases h with|rep h=>cases h;rfl
theorem Vw.non(h:Vw K O H v .none):v=.non:=by cases h with|rep h=>cases h;rfl
theorem Vw.tup(h:Vw K O H v (.tuple ds)):∃a vs,v=.ref a/\TupAt K O H a vs/\Reps K O H vs ds:=by cases h with|rep h=>cases h with|tup t r=>exact⟨_,_,rfl,t,r⟩
theorem Vw.tupR(h:Vw K O H v (.tuple ds)):Rep K O H v (.tuple ds):=by cases h with|rep h=>exact h
theorem Vw.lst(h:Vw K O H v (.list ds)):∃a vs,v=.ref a/\SqL K H a vs/\Reps K O H vs ds:=by
 cases h with
 |rep h=>cases h with|lst t r=>exact⟨_,_,rfl,t.sq,r⟩
 |raw h r=>exact⟨_,_,rfl,SqL.of h,r⟩
theorem Vw.dct(h:Vw K O H v (.dict ds)):∃a kvs,v=.ref a/\Rd H a (.dK kvs)/\RepK K O H kvs ds:=by
 cases h with
 |rep h=>cases h with|dct n t r=>exact⟨_,_,rfl,.inr ⟨_,t⟩,r⟩
 |rawD t r=>exact⟨_,_,rfl,.inl t,r⟩
end
def OwnAt(K:Frag)(O:Addr->Prop)(H:Hp)(a:Addr):PyData->Prop
 |.list xs=>∃vs,H a=some (.lst vs)/\Reps K O H vs xs
 |.dict ds=>∃kvs,H a=some (.dK kvs)/\RepK K O H kvs ds
 |_=>False
theorem OwnAt.mono{K:Frag}{O O':Addr->Prop}{H H':Hp}{a:Addr}{x:PyData}(h:OwnAt K O H a x)(k:∀o,H a=some o->H' a=some o)(l:Le O H O' H'):OwnAt K O' H' a x:=by
 cases x with
 |list xs=>obtain⟨vs,h1,h2⟩:=h;exact⟨vs,k _ h1,h2.mono l⟩
 |dict ds=>obtain⟨vs,h1,h2⟩:=h;exact⟨vs,k _ h1,h2.mono l⟩
 |_=>cases h
theorem OwnAt.some{K:Frag}{O:Addr->Prop}{H:Hp}{a:Addr}{x:PyData}(h:OwnAt K O H a x):∃o,H a=some o:=by
 cases x with
 |list xs=>obtain⟨vs,h1,h2⟩:=h;exact⟨_,h1⟩
 |dict ds=>obtain⟨vs,h1,h2⟩:=h;exact⟨_,h1⟩
 |_=>cases h
def RepW(K:Frag)(O:Addr->Prop)(ts:List Addr)(H:Hp)(v:V):W->Prop
 |.d x=>Rep K O H v x
 |.tp i=>∃a,ts[i]? = some a/\v=.ref a
 |.loc x=>∃a,v=.ref a/\O a/\a∉ts/\OwnAt K O H a x
def jU(xs:List PyData):Option PyData:=if isO xs=true then none else some (.list xs)
noncomputable def view(T:Tp):W->Option PyData
 |.d x=>some x
 |.tp i=>(T[i]?).bind jU
 |.loc (.list xs)=>some (.list xs)
 |.loc (.dict ds)=>some (.dict ds)
 |.loc _=>none
noncomputable def views(T:Tp):List W->Option (List PyData)
 |[]=>some []
 |w::r=>match view T w with
  | some x=>(match views T r with
   |some xs=>some (x::xs)
   | none=>none)
  |none=>none
def fg(K:Frag)(O:Addr->Prop)(ts:List Addr)(H:Hp):List V->List W->Prop:=Paired fun v w=>RepW K O ts H v w
def Vws(K:Frag)(O:Addr->Prop)(H:Hp):List V->List PyData->Prop:=Paired fun v x=>Vw K O H v x
def RelE(K:Frag)(O:Addr->Prop)(ts:List Addr)(H:Hp)(σ:L2.St)(ρ:Rho):Prop:=∀(i:Nat) (w:W),ρ[i]? = some (some w)->∃v,σ[i]? = some (some v)/\RepW K O ts H v w
section
variable {K:Frag}{O:Addr->Prop}{ts:List Addr}{H H':Hp}{T:Tp}{v:V}{w:W}
theorem RepW.mono(r:RepW K O ts H v w)(c:HC K O ts H T)(s:SameX ts H H'):RepW K O ts H' v w:=by
 cases w with
 |d x=>exact Rep.mono (c.le s) r
 |tp i=>exact r
 |loc xs=>
  obtain⟨a,e,h1,h2,h3⟩:=r;exact⟨a,e,h1,h2,h3.mono (fun o q=>s _ _ h2 q) (c.le s)⟩
theorem RelE.mono(r:RelE K O ts H σ ρ)(c:HC K O ts H T)(s:SameX ts H H'):RelE K O ts H' σ ρ:=fun i w e=>
 let ⟨v,h1,h2⟩:=r i w e;⟨v,h1,h2.mono c s⟩
theorem HC.view(c:HC K O ts H T)(r:RepW K O ts H v w)(e:view T w=some x):Vw K O H v x:=by
 cases w with
 |d y=>cases e;exact .rep r
 |tp i=>
  obtain⟨a,h1,rfl⟩:=r;have e':(T[i]?).bind jU=some x:=e
  cases ht:T[i]? with
  |none=>rw[ht] at e';cases e'
  |some xs=>
   rw[ht] at e';have e2:(if isO xs=true then none else some (PyData.list xs))=some x:=e';split at e2
   .cases e2
   .rename_i hn
    cases e2;obtain⟨vs,h2,h3⟩:=(c.tape i a xs h1 ht).lst (by simpa using hn);exact .raw h2 h3
 |loc xs=>
  obtain⟨a,rfl,_,_,h3⟩:=r
  cases xs with
  |list xs=>cases e;obtain⟨vs,h1,h2⟩:=h3;exact .raw h1 h2
  |dict ds=>cases e;obtain⟨vs,h1,h2⟩:=h3;exact .rawD h1 h2
  |_=>cases h3
theorem HC.views(c:HC K O ts H T):∀{vs:List V}{ws:List W}{xs:List PyData},fg K O ts H vs ws->views T ws=some xs->Vws K O H vs xs
 |_,[],xs,.nil,e=>by cases e;exact .nil
 |_,w::r,xs,.cons h t,e=>by
  unfold D.views at e;split at e
  .rename_i x h1
   split at e
   .rename_i ys h2
    cases e;exact .cons (c.view h h1) (HC.views c t h2)
   .cases e
  .cases e
end
def noStar:Expr->Bool
 |.Starred _ _=>false
 |_=>true
theorem bb(h:noStar e=true):starEach (e::es) env=(false,eval e env)::starEach es env:=by cases e <;> first|rfl|cases h
theorem mB(h:noStar e=true):starEach [e] env=[(false,eval e env)]:=bb h
theorem bS:∀{es:List Expr},es.all noStar=true->(backTo pos (starEach es env)).any (·.1)=false
 |[],_=>rfl
 |e::r,h=>by
  rw[List.all_cons,Bool.and_eq_true] at h;rw[bb h.1];show (false||(backTo pos (starEach r env)).any (·.1))=false;rw[bS h.2];rfl
theorem ui(h:noStar e=true):backTo pos (starEach (e::es) env)=(false,eval e env)::backTo pos (starEach es env):=by
 rw[bb h];rfl
theorem oY(h:noStar e=true):((backTo cpos (starEach [e] env)).all (fun x=>!x.1)&&(backToKw cpos (keywordEach [] env)).all (fun x=>x.1.isSome)
   && decide (([e]:List Expr).length+([]:List Keyword).length+(if ([]:List Keyword).isEmpty then 0 else 1)<30))=true:=by
 rw[mB h];rfl
abbrev FE:=Rho->Tp->Option (W×Tp)
abbrev FT:=Rho->Tp->Option (Bool×Tp)
abbrev FA:=Rho->Tp->Option (List W×Tp)
inductive LiftP(K:Frag)(f:FE)(σ:L2.St)(H:Hp)(Q:VK):Prop where
 |mk (O:Addr->Prop) (ts:List Addr) (ρ:Rho) (T:Tp) (w:W) (T':Tp) (hc:HC K O ts H T) (re:RelE K O ts H σ ρ) (e:f ρ T=some (w,T')) (q:∀v H',SameX ts H H'->HC K O ts H' T'->RepW K O ts H' v w->Q v H'):LiftP K f σ H Q
def lift(K:Frag)(f:FE):TE:=fun σ H Q=>LiftP K f σ H Q
inductive LiftTP(K:Frag)(f:FT)(σ:L2.St)(H:Hp)(Q:Bool->Hp->Prop):Prop where
 |mk (O:Addr->Prop) (ts:List Addr) (ρ:Rho) (T:Tp) (b:Bool) (T':Tp) (hc:HC K O ts H T) (re:RelE K O ts H σ ρ) (e:f ρ T=some (b,T')) (q:∀H',SameX ts H H'->HC K O ts H' T'->Q b H'):LiftTP K f σ H Q
def liftT(K:Frag)(f:FT):TT:=fun σ H Q=>LiftTP K f σ H Q
inductive LiftAP(K:Frag)(f:FA)(σ:L2.St)(H:Hp)(Q:List V->Hp->Prop):Prop where
 |mk (O:Addr->Prop) (ts:List Addr) (ρ:Rho) (T:Tp) (ws:List W) (T':Tp) (hc:HC K O ts H T) (re:RelE K O ts H σ ρ) (e:f ρ T=some (ws,T')) (q:∀vs H',SameX ts H H'->HC K O ts H' T'->fg K O ts H' vs ws->Q vs H'):LiftAP K f σ H Q
def rV(K:Frag)(f:FA):TA:=fun σ H Q=>LiftAP K f σ H Q
structure DE(X:Cx)(e:Expr)(f:FE):Prop where
 pe:PE X e (lift X.K f)
structure DT(X:Cx)(e:Expr)(f:FT):Prop where
 pe:PT X e (liftT X.K f)
structure DW(X:Cx)(e:Expr)(f:FT):Prop where
 pe:PW X e (liftT X.K f)
structure DA(X:Cx)(es:List Expr)(f:FA):Prop where
 pe:PA X es (rV X.K f)
theorem bu(h:PE X e t)(i:∀σ H Q,t' σ H Q->t σ H Q):PE X e t':=fun pins s σ H Q I q=>h pins s σ H Q I (i σ H Q q)
theorem nE(h:PT X e t)(i:∀σ H Q,t' σ H Q->t σ H Q):PT X e t':=fun pins s σ H Q I q=>h pins s σ H Q I (i σ H Q q)
theorem xx(h:PW X e t)(i:∀σ H Q,t' σ H Q->t σ H Q):PW X e t':=fun wh pins s σ H Q I q=>h wh pins s σ H Q I (i σ H Q q)
theorem xG(h:PA X e t)(i:∀σ H Q,t' σ H Q->t σ H Q):PA X e t':=fun po pins s σ H Q I q=>h po pins s σ H Q I (i σ H Q q)
def aa(i:Nat):FE:=fun ρ T=>match ρ[i]? with
 |some (some w)=>some (w,T)
 |_=>none
noncomputable def fC(x:PyData):FE:=fun _ T=>some (.d x,T)
section
variable {X:Cx}{pos:Pos}
theorem ag(i:Nat)(hN:X.N[i]? = some x:=by rfl)(hv:Vis X.env.scope x:=by first|exact Or.inl rfl|exact Or.inr (Or.inl rfl)|exact Or.inr (Or.inr rfl))(hd:(x == ("__debug__" : Str))=false:=by decide)
  (hcd:(x == ("__classdict__" : Str))=false:=by decide):DE X (.Name x pos) (aa i):=by
 refine⟨?_⟩;refine bu (pv i hN hv hd hcd) fun σ H Q=>?_;rintro⟨O,ts,ρ,T,w,T',hc,re,e,q⟩;unfold aa at e;split at e
 .rename_i w' he
  cases e;obtain⟨v,h1,h2⟩:=re i _ he;exact⟨v,h1,q v H (.refl _ _) hc h2⟩
 .cases e
theorem iL(h:∀O H,Rep X.K O H v x):∀σ H Q,lift X.K (fC x) σ H Q->tC v σ H Q:=by
 rintro σ H Q ⟨O,ts,ρ,T,w,T',hc,re,e,q⟩;cases e;exact q v H (.refl _ _) hc (h O H)
theorem aj{i j}:DE X (.Constant (.int i) j pos) (fC (.int i)):=⟨bu Gq (iL fun _ _=>.int i)⟩
theorem ff{i j}:DE X (.Constant (.bool i) j pos) (fC (.bool i)):=⟨bu Ib (iL fun _ _=>.bl i)⟩
theorem aB{i j}:DE X (.Constant (.str i) j pos) (fC (.str i)):=⟨bu xF (iL fun _ _=>.str i)⟩
theorem gr{j}:DE X (.Constant .none j pos) (fC .none):=⟨bu Gp (iL fun _ _=>.non)⟩
theorem kK(hg:Gl X x)(hm:∃t,X.mg x=some (.int i t))(hd:(x == ("__debug__" : Str))=false:=by decide):DE X (.Name x pos) (fC (.int i)):=by
 refine⟨?_⟩;obtain⟨t,hm⟩:=hm;exact bu (qE (v:=.int i) hg hm ⟨t,rfl⟩ hd) (iL fun _ _=>.int i)
theorem vv(hg:Gl X x)(hm:∃t,X.mg x=some (.str i t))(hd:(x == ("__debug__" : Str))=false:=by decide):DE X (.Name x pos) (fC (.str i)):=by
 refine⟨?_⟩;obtain⟨t,hm⟩:=hm;exact bu (qE (v:=.str i) hg hm ⟨t,rfl⟩ hd) (iL fun _ _=>.str i)
end
def op1(g:PyData->Option PyData)(T:Tp)(w:W):Option (W×Tp):=match view T w with
 |some x=>match g x with
  |some d=>some (.d d,T)
  |none=>none
 |none=>none
def op2(g:PyData->PyData->Option PyData)(T:Tp)(w1 w2:W):Option (W×Tp):=match view T w1,view T w2 with
 |some x,some y=>match g x y with
  |some d=>some (.d d,T)
  |none=>none
 |_,_=>none
theorem rm(e:op1 g T w1=some (w,T')):∃x d,view T w1=some x/\g x=some d/\w=.d d/\T'=T:=by
 unfold op1 at e;split at e
 .rename_i x h1
  split at e
  .rename_i d h3
   cases e;exact⟨x,d,h1,h3,rfl,rfl⟩
  .cases e
 .cases e
theorem jA(e:op2 g T w1 w2=some (w,T')):∃x y d,view T w1=some x/\view T w2=some y/\g x y=some d/\w=.d d/\T'=T:=by
 unfold op2 at e;split at e
 .rename_i x y h1 h2
  split at e
  .rename_i d h3
   cases e;exact⟨x,y,d,h1,h2,h3,rfl,rfl⟩
  .cases e
 .cases e
def af(g:PyData->PyData->Option PyData)(fa fb:FE):FE:=fun ρ T=>bnd (fa ρ T) fun w1 T1=>bnd (fb ρ T1) fun w2 T2=>op2 g T2 w1 w2
def fUn(g:PyData->Option PyData)(fa:FE):FE:=fun ρ T=>bnd (fa ρ T) fun w1 T1=>op1 g T1 w1
def ip(K:Frag)(r:R2)(g:PyData->PyData->Option PyData):Prop:=∀(O:Addr->Prop) (ts:List Addr) (H:Hp) (T:Tp) (v1 v2:V) (x y d:PyData) (Q:VK),HC K O ts H T->Vw K O H v1 x->Vw K O H v2 y->g x y=some d ->
 (∀v H',SameX ts H H'->HC K O ts H' T->Rep K O H' v d->Q v H')->r v1 v2 H Q
def JL(K:Frag)(r:V->Hp->VK->Prop)(g:PyData->Option PyData):Prop:=∀(O:Addr->Prop) (ts:List Addr) (H:Hp) (T:Tp) (v1:V) (x d:PyData) (Q:VK),HC K O ts H T->Vw K O H v1 x->g x=some d ->
 (∀v H',SameX ts H H'->HC K O ts H' T->Rep K O H' v d->Q v H')->r v1 H Q
def OpD(X:Cx)(f:Value->Value->Sem Value)(g:PyData->PyData->Option PyData):Prop:=∃r,OpR X f r/\ip X.K r g
def IxD(X:Cx)(g:PyData->PyData->Option PyData):Prop:=∃r,IxR X r/\ip X.K r g
theorem nh{K:Frag}{r:R2}{g:PyData->PyData->Option PyData}{fa fb:FE}(snd:ip K r g){σ:L2.St}{H:Hp}{Q:VK}(h:lift K (af g fa fb) σ H Q):tOp r (lift K fa) (lift K fb) σ H Q:=by
 obtain⟨O,ts,ρ,T,w,T',hc,re,e,q⟩:=h;obtain⟨w1,T1,e1,e⟩:=aM e;obtain⟨w2,T2,e2,e⟩:=aM e;obtain⟨x,y,d,h1,h2,h3,rfl,rfl⟩:=jA e;refine⟨O,ts,ρ,T,w1,T1,hc,re,e1,fun v1 H1 s1 hc1 r1=>?_⟩;refine⟨O,ts,ρ,T1,w2,T',hc1,re.mono hc s1,e2,fun v2 H2 s2 hc2 r2=>?_⟩;exact snd O ts H2 T' v1 v2 x y d Q hc2 (hc2.view (r1.mono hc1 s2) h1) (hc2.view r2 h2) h3 fun v H' s3 hc3 r3=>q v H' (s1.trans (s2.trans s3)) hc3 r3
noncomputable def asB:W->Option Bool
 |.d (.bool b)=>some b
 |_=>none
theorem n9(h:asB w=some b):w=.d (.bool b):=by
 unfold asB at h;split at h
 .cases h;rfl
 .cases h
def ay(f:FE):FT:=fun ρ T=>bnd (f ρ T) fun w T1=>match asB w with
 |some b=>some (b,T1)
 |none=>none
theorem vK{K:Frag}{f:FE}{σ:L2.St}{H:Hp}{Q:Bool->Hp->Prop}(h:liftT K (ay f) σ H Q):lift K f σ H fun x H'=>∃k,x=.bl k/\Q k H':=by
 obtain⟨O,ts,ρ,T,w,T',hc,re,e,q⟩:=h;obtain⟨w1,T1,e1,e⟩:=aM e;refine⟨O,ts,ρ,T,w1,T1,hc,re,e1,fun v1 H1 s1 hc1 r1=>?_⟩;split at e
 .rename_i b hb
  cases e;have hw:=n9 hb;subst hw;cases (show Rep K O H1 v1 _ from r1);exact⟨_,rfl,q H1 s1 hc1⟩
 .cases e
section
variable {X:Cx}{pos:Pos}{a b c:Expr}{fa fb fc:FE}{g g':PyData->PyData->Option PyData}
theorem aR(ho:OpD X (binaryOp op) g)(ha:DE X a fa)(hb:DE X b fb):DE X (.BinOp a op b pos) (af g fa fb):=by
 refine⟨?_⟩;obtain⟨r,hr,snd⟩:=ho;exact bu (yH hr ha.pe hb.pe) fun σ H Q=>nh snd
theorem dD(ho:OpD X (compareOp op) g)(ha:DE X a fa)(hb:DE X b fb)(hm:behindInMarks op b=false:=by first|exact xI _|with_unfolding_all rfl):DE X (.Compare a [op] [b] pos) (af g fa fb):=by
 refine⟨?_⟩;obtain⟨r,hr,snd⟩:=ho;exact bu (Em hr ha.pe hb.pe hm) fun σ H Q=>nh snd
theorem aE(ho:OpD X (compareOp op) g)(ha:DE X a fa)(hb:DE X b fb)(hm:behindInMarks op b=false:=by first|exact xI _|with_unfolding_all rfl):DT X (.Compare a [op] [b] pos) (ay (af g fa fb)):=by
 refine⟨?_⟩;obtain⟨r,hr,snd⟩:=ho;exact nE (Ec hr ha.pe hb.pe hm) fun σ H Q h=>nh snd (vK h)
theorem ao(ho:IxD X g)(ha:DE X a fa)(hb:DE X b fb)(hs:xi b:=by exact fun _ _=>rfl):DE X (.Subscript a b pos) (af g fa fb):=by
 refine⟨?_⟩;obtain⟨r,hr,snd⟩:=ho;exact bu (H8 hr ha.pe hb.pe hs) fun σ H Q=>nh snd
def gY(g g':PyData->PyData->Option PyData)(fa fb fc:FE):FE:=fun ρ T=>bnd (fa ρ T) fun w1 T1=>bnd (fb ρ T1) fun w2 T2=>bnd (op2 g T2 w1 w2) fun w T3=>match asB w with
 |some b=>if b=true then bnd (fc ρ T3) fun w3 T4=>op2 g' T4 w2 w3 else some (.d (.bool false),T3)
 |none=>none
theorem uF{K:Frag}{r r':R2}(snd:ip K r g)(snd':ip K r' g'){σ:L2.St}{H:Hp}{Q:VK}(h:lift K (gY g g' fa fb fc) σ H Q):qZ r r' (lift K fa) (lift K fb) (lift K fc) σ H Q:=by
 obtain⟨O,ts,ρ,T,w,T',hc,re,e,q⟩:=h;obtain⟨w1,T1,e1,e⟩:=aM e;obtain⟨w2,T2,e2,e⟩:=aM e;obtain⟨wz,T3,e3,ez⟩:=aM e;obtain⟨x,y,d,h1,h2,h3,rfl,rfl⟩:=jA e3;clear e;refine⟨O,ts,ρ,T,w1,T1,hc,re,e1,fun v1 H1 s1 hc1 r1=>?_⟩;refine⟨O,ts,ρ,T1,w2,T3,hc1,re.mono hc s1,e2,fun v2 H2 s2 hc2 r2=>?_⟩;refine snd O ts H2 T3 v1 v2 x y d _ hc2 (hc2.view (r1.mono hc1 s2) h1) (hc2.view r2 h2) h3 fun v H3 s3 hc3 r3=>?_;split at ez
 .rename_i b hb
  have hd:=n9 hb
  injection hd with hd
  subst hd;cases r3
  cases b with
  |true=>
   rw[if_pos rfl] at ez;refine⟨true,rfl,gF ?_⟩;obtain⟨w3,T4,e4,e5⟩:=aM ez;obtain⟨x',y',d',h1',h2',h3',rfl,rfl⟩:=jA e5;refine⟨O,ts,ρ,T3,w3,T',hc3,(re.mono hc (s1.trans (s2.trans s3))),e4,fun v3 H4 s4 hc4 r4=>?_⟩;exact snd' O ts H4 T' v2 v3 x' y' d' Q hc4 (hc4.view (r2.mono hc2 (s3.trans s4)) h1') (hc4.view r4 h2') h3' fun v H' s5 hc5 r5=>q v H' (s1.trans (s2.trans (s3.trans (s4.trans s5)))) hc5 r5
  |false=>
   rw[if_neg Bool.false_ne_true] at ez;cases ez;exact⟨false,rfl,ie (q _ H3 (s1.trans (s2.trans s3)) hc3 (.bl false))⟩
 .cases ez
theorem Dt(ho:OpD X (compareOp op) g)(ho':OpD X (compareOp op') g')(ha:DE X a fa)(hb:DE X b fb)(hc:DE X c fc)
  (hm:lastMarks [op,op'] [b,c]=false:=by with_unfolding_all rfl):DE X (.Compare a [op,op'] [b,c] pos) (gY g g' fa fb fc):=by
 refine⟨?_⟩;obtain⟨r,hr,snd⟩:=ho;obtain⟨r',hr',snd'⟩:=ho';exact bu (CL hr hr' ha.pe hb.pe hc.pe hm) fun σ H Q=>uF snd snd'
theorem qp(ho:OpD X (compareOp op) g)(ho':OpD X (compareOp op') g')(ha:DE X a fa)(hb:DE X b fb)(hc:DE X c fc)
  (hm:lastMarks [op,op'] [b,c]=false:=by with_unfolding_all rfl):DT X (.Compare a [op,op'] [b,c] pos) (ay (gY g g' fa fb fc)):=by
 refine⟨?_⟩;obtain⟨r,hr,snd⟩:=ho;obtain⟨r',hr',snd'⟩:=ho';exact nE (Cy hr hr' ha.pe hb.pe hc.pe hm) fun σ H Q h=>uF snd snd' (vK h)
def oS:PyData->Option Bool
 |.none=>some false
 |.bool b=>some b
 |.int i=>some (i != 0)
 |.str y=>if y.length<=sizeLine then some ((y.length:Int) != 0) else none
 |.list xs=>some (!xs.isEmpty)
 |.tuple xs=>some (!xs.isEmpty)
 |.dict _=>none
def oU(T:Tp)(w:W):Option (Bool×Tp):=match view T w with
 |some x=>match oS x with
  |some b=>some (b,T)
  |none=>none
 |none=>none
def bf(f:FE):FT:=fun ρ T=>bnd (f ρ T) fun w T1=>oU T1 w
theorem tF{K:Frag}{O:Addr->Prop}{H:Hp}{vs:List V}{ds:List PyData}(r:Reps K O H vs ds):vs.isEmpty=ds.isEmpty:=by cases r <;> rfl
theorem F1{K:Frag}{O:Addr->Prop}{H:Hp}{v:V}{x:PyData}{b:Bool}(h:Vw K O H v x)(e:oS x=some b):sG K v H b:=by
 cases x with
 |none=>cases h.non;cases e;rfl
 |bool c=>cases h.bl;cases e;rfl
 |int i=>cases h.int;cases e;rfl
 |str y=>
  cases h.str;have e':(if y.length<=sizeLine then some ((y.length:Int) != 0) else none)=some b:=e;split at e'
  .rename_i hl
   cases e';exact⟨hl,rfl⟩
  .cases e'
 |list xs=>
  obtain⟨a,vs,rfl,h1,h2⟩:=h.lst;cases e;exact .inl ⟨vs,h1,by rw[tF h2]⟩
 |tuple xs=>
  obtain⟨a,vs,rfl,h1,h2⟩:=h.tup;cases e;exact .inr (.inl ⟨vs,h1.sq,by rw[tF h2]⟩)
 |dict kvs=>
  cases e
theorem bv(ha:DE X a fa)(he:∀whole,isTrue a X.env whole=(do let v ←whole;standAt a.pos;holding [v] (truthy v)):=by intro _;rfl):DT X a (bf fa):=by
 refine⟨?_⟩;refine nE (Cw ha.pe he) fun σ H Q=>?_;rintro⟨O,ts,ρ,T,b,T',hc,re,e,q⟩;obtain⟨w1,T1,e1,e⟩:=aM e;refine⟨O,ts,ρ,T,w1,T1,hc,re,e1,fun v1 H1 s1 hc1 r1=>?_⟩;unfold oU at e;split at e
 .rename_i x h1
  split at e
  .rename_i k h2
   cases e;exact⟨b,F1 (hc1.view r1 h1) h2,q H1 s1 hc1⟩
  .cases e
 .cases e
def bU(f g:FT):FT:=fun ρ T=>bnd (f ρ T) fun b T1=>if b=true then g ρ T1 else some (false,T1)
def dU(f g:FT):FT:=fun ρ T=>bnd (f ρ T) fun b T1=>if b=true then some (true,T1) else g ρ T1
def cB(f:FT):FT:=fun ρ T=>bnd (f ρ T) fun b T1=>some (!b,T1)
variable {ta tb:FT}{rest:List Expr}
theorem bV(h:DW X a f):DT X a f:=⟨PW.pt h.pe⟩
theorem dM(ha:DT X a ta):DW X (.BoolOp .And [a] pos) ta:=⟨D7 ha.pe⟩
theorem fM(ha:DT X a ta):DW X (.BoolOp .Or [a] pos) ta:=⟨Gd ha.pe⟩
theorem dB(ha:DT X a ta)(hb:DW X (.BoolOp .And (b::rest) pos) tb):DW X (.BoolOp .And (a::b::rest) pos) (bU ta tb):=by
 refine⟨?_⟩;refine xx (Ge ha.pe hb.pe) fun σ H Q=>?_;rintro⟨O,ts,ρ,T,b,T',hc,re,e,q⟩;obtain⟨b1,T1,e1,e⟩:=aM e;refine⟨O,ts,ρ,T,b1,T1,hc,re,e1,fun H1 s1 hc1=>?_⟩
 cases b1 with
 |true=>exact gF ⟨O,ts,ρ,T1,b,T',hc1,re.mono hc s1,by simpa using e,fun H2 s2 hc2=>q H2 (s1.trans s2) hc2⟩
 |false=>
  have e':some (false,T1)=some (b,T'):=by simpa using e
  cases e';exact ie (q H1 s1 hc1)
theorem eZ(ha:DT X a ta)(hb:DW X (.BoolOp .Or (b::rest) pos) tb):DW X (.BoolOp .Or (a::b::rest) pos) (dU ta tb):=by
 refine⟨?_⟩;refine xx (HW ha.pe hb.pe) fun σ H Q=>?_;rintro⟨O,ts,ρ,T,b,T',hc,re,e,q⟩;obtain⟨b1,T1,e1,e⟩:=aM e;refine⟨O,ts,ρ,T,b1,T1,hc,re,e1,fun H1 s1 hc1=>?_⟩
 cases b1 with
 |false=>exact ie ⟨O,ts,ρ,T1,b,T',hc1,re.mono hc s1,by simpa using e,fun H2 s2 hc2=>q H2 (s1.trans s2) hc2⟩
 |true=>
  have e':some (true,T1)=some (b,T'):=by simpa using e
  cases e';exact gF (q H1 s1 hc1)
theorem c5(ha:DT X a ta):DT X (.UnaryOp .Not a pos) (cB ta):=by
 refine⟨?_⟩;refine nE (Gf ha.pe) fun σ H Q=>?_;rintro⟨O,ts,ρ,T,b,T',hc,re,e,q⟩;obtain⟨b1,T1,e1,e⟩:=aM e;cases e;exact⟨O,ts,ρ,T,b1,T',hc,re,e1,fun H1 s1 hc1=>q H1 s1 hc1⟩
def gC(f g:FE):FE:=fun ρ T=>bnd (f ρ T) fun w T1=>match asB w with
 |some b=>if b=true then g ρ T1 else some (.d (.bool false),T1)
 |none=>none
def JE(f g:FE):FE:=fun ρ T=>bnd (f ρ T) fun w T1=>match asB w with
 |some b=>if b=true then some (.d (.bool true),T1) else g ρ T1
 |none=>none
def r8(f:FE):FE:=fun ρ T=>bnd (f ρ T) fun w T1=>match asB w with
 |some b=>some (.d (.bool (!b)),T1)
 |none=>none
theorem k8{op}(h:DE X a fa):DE X (.BoolOp op [a] pos) fa:=⟨Gm h.pe⟩
theorem iR(ha:DE X a fa)(hb:DE X (.BoolOp .And (b::rest) pos) fb):DE X (.BoolOp .And (a::b::rest) pos) (gC fa fb):=by
 refine⟨?_⟩;refine bu (Gr ha.pe hb.pe) fun σ H Q=>?_;rintro⟨O,ts,ρ,T,w,T',hc,re,e,q⟩;obtain⟨w1,T1,e1,e⟩:=aM e;refine⟨O,ts,ρ,T,w1,T1,hc,re,e1,fun v1 H1 s1 hc1 r1=>?_⟩;split at e
 .rename_i b hb
  have hw:=n9 hb;subst hw;cases (show Rep X.K O H1 v1 _ from r1)
  cases b with
  |true=>exact⟨_,rfl,gF ⟨O,ts,ρ,T1,w,T',hc1,re.mono hc s1,by simpa using e,fun v H2 s2 hc2 r2=>q v H2 (s1.trans s2) hc2 r2⟩⟩
  |false=>
   rw[if_neg Bool.false_ne_true] at e;cases e;exact⟨_,rfl,ie (q _ H1 s1 hc1 (.bl false))⟩
 .cases e
theorem Hl(ha:DE X a fa):DE X (.UnaryOp .Not a pos) (r8 fa):=by
 refine⟨?_⟩;refine bu (Gn ha.pe) fun σ H Q=>?_;rintro⟨O,ts,ρ,T,w,T',hc,re,e,q⟩;obtain⟨w1,T1,e1,e⟩:=aM e;refine⟨O,ts,ρ,T,w1,T1,hc,re,e1,fun v1 H1 s1 hc1 r1=>?_⟩;split at e
 .rename_i b hb
  have hw:=n9 hb;subst hw;cases (show Rep X.K O H1 v1 _ from r1);cases e;exact⟨_,rfl,q _ H1 s1 hc1 (.bl _)⟩
 .cases e
def bW(c:FT)(f g:FE):FE:=fun ρ T=>bnd (c ρ T) fun b T1=>if b=true then f ρ T1 else g ρ T1
theorem cM(hc:DT X c ta)(ha:DE X a fa)(hb:DE X b fb):DE X (.IfExp c a b pos) (bW ta fa fb):=by
 refine⟨?_⟩;refine bu (CH hc.pe ha.pe hb.pe) fun σ H Q=>?_;rintro⟨O,ts,ρ,T,w,T',hc,re,e,q⟩;obtain⟨b1,T1,e1,e⟩:=aM e;refine⟨O,ts,ρ,T,b1,T1,hc,re,e1,fun H1 s1 hc1=>?_⟩
 cases b1 with
 |true=>exact gF ⟨O,ts,ρ,T1,w,T',hc1,re.mono hc s1,by simpa using e,fun v H2 s2 hc2 r2=>q v H2 (s1.trans s2) hc2 r2⟩
 |false=>exact ie ⟨O,ts,ρ,T1,w,T',hc1,re.mono hc s1,by simpa using e,fun v H2 s2 hc2 r2=>q v H2 (s1.trans s2) hc2 r2⟩
theorem I0(hr:UnR X (unaryOp op) r)(snd:JL X.K r g1)(ha:DE X a fa):DE X (.UnaryOp op a pos) (fUn g1 fa):=by
 refine⟨?_⟩;refine bu (HY hr ha.pe) fun σ H Q=>?_;rintro⟨O,ts,ρ,T,w,T',hc,re,e,q⟩;obtain⟨w1,T1,e1,e⟩:=aM e;obtain⟨x,d,h1,h3,rfl,rfl⟩:=rm e;refine⟨O,ts,ρ,T,w1,T',hc,re,e1,fun v1 H1 s1 hc1 r1=>?_⟩;exact snd O ts H1 T' v1 x d Q hc1 (hc1.view r1 h1) h3 fun v H' s3 hc3 r3=>q v H' (s1.trans s3) hc3 r3
end
def ah:FA:=fun _ T=>some ([],T)
def ae(f:FE)(g:FA):FA:=fun ρ T=>bnd (f ρ T) fun w T1=>bnd (g ρ T1) fun ws T2=>some (w::ws,T2)
def dQ:List W->Option (List PyData)
 |[]=>some []
 |.d x::r=>match dQ r with
  |some xs=>some (x::xs)
  |none=>none
 |_::_=>none
theorem kL{K:Frag}{O:Addr->Prop}{ts:List Addr}{H:Hp}:∀{vs:List V}{ws:List W}{xs:List PyData},fg K O ts H vs ws->dQ ws=some xs->Reps K O H vs xs
 |_,[],_,.nil,e=>by cases e;exact .nil
 |_,.d x::r,xs,.cons h t,e=>by
  unfold dQ at e;split at e
  .rename_i ys h2
   cases e;exact .cons h (kL t h2)
  .cases e
 |_,.tp _::_,_,.cons _ _,e=>by cases e
 |_,.loc _::_,_,.cons _ _,e=>by cases e
def av(mk:List PyData->PyData)(f:FA):FE:=fun ρ T=>bnd (f ρ T) fun ws T1=>match dQ ws with
 |some xs=>if xs.length<=1000 then some (.d (mk xs),T1) else none
 |none=>none
theorem mS(h:n<=1000):n<=sizeLine:=Nat.le_trans h (by decide)
def fU(X:Cx)(f:Value)(g:List PyData->Option PyData):Prop:=∃r,CallR X f r/\∀(O:Addr->Prop) (ts:List Addr) (H:Hp) (T:Tp) (vs:List V) (xs:List PyData) (d:PyData) (Q:VK),HC X.K O ts H T->Vws X.K O H vs xs->g xs=some d ->
 (∀v H',SameX ts H H'->HC X.K O ts H' T->Rep X.K O H' v d->Q v H')->r vs H Q
def fCB(g:List PyData->Option PyData)(f:FA):FE:=fun ρ T=>bnd (f ρ T) fun ws T1=>match views T1 ws with
 |some xs=>match g xs with
  |some d=>some (.d d,T1)
  |none=>none
 |none=>none
section
variable {X:Cx}{pos p:Pos}{e:Expr}{es:List Expr}{f:FE}{g:FA}
theorem ap:DA X [] ah:=by
 refine⟨?_⟩;refine xG dA fun σ H Q=>?_;rintro⟨O,ts,ρ,T,w,T',hc,re,e,q⟩;cases e;exact q [] H (.refl _ _) hc .nil
theorem ai(ha:DE X e f)(hr:DA X es g)(hs:starEach (e::es) X.env=(false,eval e X.env)::starEach es X.env:=by exact bb rfl):DA X (e::es) (ae f g):=by
 refine⟨?_⟩;refine xG (cX ha.pe hr.pe hs) fun σ H Q=>?_;rintro⟨O,ts,ρ,T,w,T',hc,re,e,q⟩;obtain⟨w1,T1,e1,e⟩:=aM e;obtain⟨ws,T2,e2,e⟩:=aM e;cases e;refine⟨O,ts,ρ,T,w1,T1,hc,re,e1,fun v1 H1 s1 hc1 r1=>?_⟩;exact⟨O,ts,ρ,T1,ws,_,hc1,re.mono hc s1,e2,fun vs H2 s2 hc2 r2=>q _ H2 (s1.trans s2) hc2 (.cons (r1.mono hc1 s2) r2)⟩
theorem vM(e:av mk g ρ T=some (w,T')):∃ws xs,g ρ T=some (ws,T')/\dQ ws=some xs/\xs.length<=1000/\w=.d (mk xs):=by
 obtain⟨ws,T1,e1,e⟩:=aM e;split at e
 .rename_i xs h1
  split at e
  .rename_i h2
   cases e;exact⟨ws,xs,e1,h1,h2,rfl⟩
  .cases e
 .cases e
theorem aH{x1}(h:DA X es g):DE X (.Tuple es x1 pos) (av .tuple g):=by
 refine⟨?_⟩;refine bu (Gk h.pe) fun σ H Q=>?_;rintro⟨O,ts,ρ,T,w,T',hc,re,e,q⟩;obtain⟨ws,xs,e1,h1,h2,rfl⟩:=vM e;refine⟨O,ts,ρ,T,ws,T',hc,re,e1,fun vs H1 s1 hc1 r1=>?_⟩;have rs:=kL r1 h1;refine⟨mS (by rw[rs.length];exact h2),fun p hp=>?_⟩;exact q _ _ (s1.trans (.new hp _)) (hc1.new hp _) (hc1.newT hp rs)
theorem cw(h:DA X es g):DE X (.List es pos) (av .list g):=by
 refine⟨?_⟩;refine bu (rl h.pe) fun σ H Q=>?_;rintro⟨O,ts,ρ,T,w,T',hc,re,e,q⟩;obtain⟨ws,xs,e1,h1,h2,rfl⟩:=vM e;refine⟨O,ts,ρ,T,ws,T',hc,re,e1,fun vs H1 s1 hc1 r1=>?_⟩;have rs:=kL r1 h1;refine⟨mS (by rw[rs.length];exact h2),fun p hp=>?_⟩;exact q _ _ (s1.trans (.new hp _)) (hc1.new hp _) (hc1.newL hp rs)
theorem yn{K:Frag}{r:List V->Hp->VK->Prop}{gg:List PyData->Option PyData}(snd:∀(O:Addr->Prop) (ts:List Addr) (H:Hp) (T:Tp) (vs:List V) (xs:List PyData) (d:PyData) (Q:VK),HC K O ts H T->Vws K O H vs xs->gg xs=some d ->
  (∀v H',SameX ts H H'->HC K O ts H' T->Rep K O H' v d->Q v H')->r vs H Q) {σ:L2.St}{H:Hp}{Q:VK} (h:lift K (fCB gg g) σ H Q):tCB r (rV K g) σ H Q:=by
 obtain⟨O,ts,ρ,T,w,T',hc,re,e,q⟩:=h;obtain⟨ws,T1,e1,e⟩:=aM e;refine⟨O,ts,ρ,T,ws,T1,hc,re,e1,fun vs H1 s1 hc1 r1=>?_⟩;split at e
 .rename_i xs h1
  split at e
  .rename_i d h2
   cases e;exact snd O ts H1 T' vs xs d Q hc1 (hc1.views r1 h1) h2 fun v H' s3 hc3 r3=>q v H' (s1.trans s3) hc3 r3
  .cases e
 .cases e
theorem bo{x:Str}{id:String}{gg:List PyData->Option PyData}(hc:fU X (.builtin id) gg)(hg:Gl X x)(hm:X.mg x=none)(hv:bootBuiltins x=some (.builtin id))(ha:DA X (e::es) g)(hn:x≠"__name__":=by decide)(hdb:(x == ("__debug__" : Str))=false:=by decide)
  (he:starEach (e::es) X.env=(false,eval e X.env)::starEach es X.env:=by exact bb rfl) (hpl:(backTo pos (starEach es X.env)).any (·.1)=false:=by exact bS rfl):DE X (.Call (.Name x p) (e::es) [] pos) (fCB gg g):=by
 refine⟨?_⟩;obtain⟨r,hr,snd⟩:=hc;exact bu (uX hr hg hm hv ha.pe hn hdb he hpl) fun σ H Q h=>yn snd h
theorem cj{x:Str}{id:String}{gg:List PyData->Option PyData}(hc:fU X (.type id) gg)(hg:Gl X x)(hm:X.mg x=none)(hv:bootBuiltins x=some (.type id))(ha:DA X (e::es) g)(hn:x≠"__name__":=by decide)(hdb:(x == ("__debug__" : Str))=false:=by decide)
  (he:starEach (e::es) X.env=(false,eval e X.env)::starEach es X.env:=by exact bb rfl) (hpl:(backTo pos (starEach es X.env)).any (·.1)=false:=by exact bS rfl):DE X (.Call (.Name x p) (e::es) [] pos) (fCB gg g):=by
 refine⟨?_⟩;obtain⟨r,hr,snd⟩:=hc;exact bu (me hr hg hm hv ha.pe hn hdb he hpl) fun σ H Q h=>yn snd h
end
abbrev FI:=Rho->Tp->Option (List PyData×Tp)
def Jx(K:Frag)(tl:TE):TI:=fun σ H R=>tl σ H fun x H1=>(∃a xs,x=.ref a/\SqL K H1 a xs/\(xs.length<=sizeLine->R (Itl K a) H1))\/(∃a xs,x=.ref a/\SqT K H1 a xs/\(xs.length<=sizeLine->R (Itt K a) H1))\/(∃z,x=.str z/\R (Its z) H1)\/∃a o kvs,x=.ref a/\H1 a=some (.frz o (.dK kvs))/\(kvs.length<=sizeLine->R (Itd a o kvs) H1)
theorem Gg(hl:PE X l tl):PI X tg l (Jx X.K tl):=by
 intro pins s σ H R I h;refine thn (hl pins s σ H _ I h) fun v s1 ⟨x,H1,I1,r1,q1⟩=>?_
 have fk:∀b∈[s1.heap.objs.size],dr X pins H1 b:=fun b hb=>by
  have e:b=s1.heap.objs.size:=by simpa using hb
  subst e;exact I1.fpOk (Nat.le_refl _) (I1.hok.fresh (Nat.le_refl _))
 rcases q1 with⟨a,xs,e,hq,q⟩|⟨a,xs,e,hq,q⟩|⟨z,e,q⟩|⟨a,o,kvs,e,hq,q⟩
 .subst e
  cases r1;obtain⟨its,rv,p,hz⟩:=I1.list hq;refine wpAny_pyIter_list p.isList ?_;exact⟨s1.heap.objs.size,[s1.heap.objs.size],_,_,H1,rfl,I1.kept (t':=s1.toks) fun b o e=>Heap.get?_push_of_some _ e,Bp a _,⟨_,Heap.get?_push_size _ rfl,rfl,rfl⟩,fk,q hz⟩
 .subst e
  cases r1;obtain⟨its,rv,p,hz⟩:=I1.tuple hq;refine wpAny_pyIter_tuple (show s1.heap.IsTuple a its.toArray from p) ?_;exact⟨s1.heap.objs.size,[s1.heap.objs.size],_,_,H1,rfl,I1.kept (t':=s1.toks) fun b o e=>Heap.get?_push_of_some _ e,AW a _,⟨_,Heap.get?_push_size _ rfl,rfl,rfl⟩,fk,q hz⟩
 .subst e
  obtain⟨t,rfl⟩:=r1
  cases ha:z.cps.all (· < 128) with
  |false=>
   refine wpAny_pyIter_wide ha ?_;exact⟨s1.heap.objs.size,[s1.heap.objs.size],_,_,H1,rfl,I1.kept (t':=s1.toks) fun b o e=>Heap.get?_push_of_some _ e,uN z t "str_iterator" _ (.inr rfl),⟨_,Heap.get?_push_size _ rfl,rfl,rfl⟩,fk,q⟩
  |true=>
   refine wpAny_pyIter_ascii ha ?_;exact⟨s1.heap.objs.size,[s1.heap.objs.size],_,_,H1,rfl,I1.kept (t':=s1.toks) fun b o e=>Heap.get?_push_of_some _ e,uN z t "str_ascii_iterator" _ (.inl rfl),⟨_,Heap.get?_push_size _ rfl,rfl,rfl⟩,fk,q⟩
 .subst e
  cases r1;obtain⟨z,y,vs,kv,dd⟩:=iC I1.hok hq;refine wpAny_pyIter_dict y dd ?_;exact⟨s1.heap.objs.size,[s1.heap.objs.size],_,_,H1,rfl,I1.kept (t':=s1.toks) fun b o e=>Heap.get?_push_of_some _ e,Bq a _ o kvs,⟨_,Heap.get?_push_size _ rfl,rfl,by rw[kv.length];rfl⟩,fk,q z⟩
def ItOk(K:Frag)(O:Addr->Prop)(H1:Hp)(J:It)(ds:List PyData):Prop:=∀O' H',Le O H1 O' H'->(∀i,i<ds.length->J.go i H')/\J.stop ds.length H'/\∀i v H'',J.yld i H' v H''->i<ds.length->H''=H'/\∃d,ds[i]? = some d/\Rep K O' H' v d
inductive LiftIP(K:Frag)(f:FI)(σ:L2.St)(H:Hp)(R:It->Hp->Prop):Prop where
 |mk (O:Addr->Prop) (ts:List Addr) (ρ:Rho) (T:Tp) (ds:List PyData) (T':Tp) (hc:HC K O ts H T) (re:RelE K O ts H σ ρ) (e:f ρ T=some (ds,T')) (q:∀J H1,SameX ts H H1->HC K O ts H1 T'->ItOk K O H1 J ds->ds.length<=sizeLine->R J H1):LiftIP K f σ H R
def rT(K:Frag)(f:FI):TI:=fun σ H R=>LiftIP K f σ H R
structure DI(X:Cx)(tg e:Expr)(f:FI):Prop where
 pe:PI X tg e (rT X.K f)
theorem xD(h:PI X tg e t)(i:∀σ H Q,t' σ H Q->t σ H Q):PI X tg e t':=fun pins s σ H Q I q=>h pins s σ H Q I (i σ H Q q)
def signs(z:Str):List PyData:=z.cps.toList.map fun c=>.str ⟨#[c]⟩
def iN:PyData->Option (List PyData)
 |.list xs=>some xs
 |.tuple xs=>some xs
 |.str z=>if z.length<=sizeLine then some (signs z) else none
 |.dict ds=>some (ds.map (·.1))
 |_=>none
def bc(f:FE):FI:=fun ρ T=>bnd (f ρ T) fun w T1=>match w with
 |.d x=>match iN x with
  |some xs=>some (xs,T1)
  |none=>none
 |_=>none
theorem ItOk.lst{K:Frag}{O:Addr->Prop}{H1:Hp}{a:Addr}{vs:List V}{ds:List PyData}(h:LstAt K O H1 a vs)(r:Reps K O H1 vs ds):ItOk K O H1 (Itl K a) ds:=fun O' H' le=>by
 have sq:=(h.mono le).sq;have hl:=r.length;refine⟨fun i hi=>⟨vs,vs[i]'(by omega),sq,by simp⟩,⟨vs,sq,by omega⟩,fun i v H'' y hi=>?_⟩;obtain⟨e,y⟩:=y;obtain⟨d,h1,h2⟩:=r.get (y vs sq);exact⟨e,d,h1,h2.mono le⟩
theorem ItOk.tup{K:Frag}{O:Addr->Prop}{H1:Hp}{a:Addr}{vs:List V}{ds:List PyData}(h:TupAt K O H1 a vs)(r:Reps K O H1 vs ds):ItOk K O H1 (Itt K a) ds:=fun O' H' le=>by
 have sq:=(h.mono le).sq;have hl:=r.length;refine⟨fun i hi=>⟨vs,vs[i]'(by omega),sq,by simp⟩,⟨vs,sq,by omega⟩,fun i v H'' y hi=>?_⟩;obtain⟨e,y⟩:=y;obtain⟨d,h1,h2⟩:=r.get (y vs sq);exact⟨e,d,h1,h2.mono le⟩
theorem ItOk.str{K:Frag}{O:Addr->Prop}{H1:Hp}{z:Str}:ItOk K O H1 (Its z) (signs z):=fun O' H' le=>by
 have hl:(signs z).length=z.cps.size:=by simp[signs]
 refine⟨fun i hi=>by rw[hl] at hi;exact hi,by rw[hl];exact Nat.le_refl _,fun i v H'' y hi=>?_⟩;obtain⟨e,c,hc,y⟩:=y;subst y;refine⟨e,.str ⟨#[c]⟩,?_,.str _⟩;unfold signs;rw[List.getElem?_map]
 have:z.cps.toList[i]? = some c:=by simpa using hc
 rw[this];rfl
theorem ma{K:Frag}{O:Addr->Prop}{H:Hp}:∀{kvs:List (Key×V)}{ds:List (PyData×PyData)},RepK K O H kvs ds->kvs.length=ds.length
 |_,_,.nil=>rfl
 |_,_,.cons _ t=>congrArg (· + 1) (ma t)
theorem uV{K:Frag}{O:Addr->Prop}{H:Hp}:∀{kvs:List (Key×V)}{ds:List (PyData×PyData)}{i:Nat}{k:Key}{v:V},RepK K O H kvs ds->kvs[i]? = some (k,v)->(ds.map (·.1))[i]? = some (gE k)
 |_,_,_,_,_,.nil,e=>by simp at e
 |_,_,0,_,_,.cons r _,e=>by simp at e;obtain⟨rfl,rfl⟩:=e;rfl
 |_,_,i+1,k,v,.cons _ t,e=>by
  have:=uV (i:=i) t (by simpa using e);simpa using this
theorem vS{K:Frag}{O:Addr->Prop}{H:Hp}(k:Key):Rep K O H (kV k) (gE k):=by
 cases k with
 |inl i=>exact .int i
 |inr x=>exact .str x
theorem ItOk.dct{K:Frag}{O:Addr->Prop}{H1:Hp}{a:Addr}{o:Obj}{kvs:List (Key×V)}{ds:List (PyData×PyData)}(n:¬O a)(h:H1 a=some (.frz o (.dK kvs)))(r:RepK K O H1 kvs ds):ItOk K O H1 (Itd a o kvs) (ds.map (·.1)):=fun O' H' le=>by
 have h':=(le a _ n h).2;have hl:=ma r;refine⟨fun i hi=>⟨h',by simp at hi;omega⟩,⟨h',by simp[hl]⟩,fun i v H'' y hi=>?_⟩;obtain⟨e,k,v0,y1,y2⟩:=y;subst y2;exact⟨e,_,uV r y1,vS k⟩
theorem bO(h:DE X e f):DI X tg e (bc f):=by
 refine⟨?_⟩;refine xD (Gg h.pe) fun σ H R=>?_;rintro⟨O,ts,ρ,T,ds,T',hc,re,e,q⟩;obtain⟨w1,T1,e1,e⟩:=aM e;refine⟨O,ts,ρ,T,w1,T1,hc,re,e1,fun v1 H1 s1 hc1 r1=>?_⟩;split at e
 .rename_i x
  split at e
  .rename_i xs h1
   cases e;have rr:Rep X.K O H1 v1 x:=r1
   cases x with
   |list ys=>
    cases h1
    cases rr with
    |lst t r=>exact .inl ⟨_,_,rfl,t.sq,fun hz=>q _ H1 s1 hc1 (.lst t r) (by rw[←r.length];exact hz)⟩
   |tuple ys=>
    cases h1
    cases rr with
    |tup t r=>exact .inr (.inl ⟨_,_,rfl,t.sq,fun hz=>q _ H1 s1 hc1 (.tup t r) (by rw[←r.length];exact hz)⟩)
   |str z=>
    have h1':(if z.length<=sizeLine then some (signs z) else none)=some _:=h1;split at h1'
    .rename_i hz
     cases h1';cases rr;exact .inr (.inr (.inl ⟨z,rfl,q _ H1 s1 hc1 .str (by rw[show (signs z).length=z.cps.size by simp[signs]];exact hz)⟩))
    .cases h1'
   |dict ys=>
    cases h1
    cases rr with
    |dct n t r=>exact .inr (.inr (.inr ⟨_,_,_,rfl,t,fun hz=>q _ H1 s1 hc1 (.dct n t r) (by rw[List.length_map,←ma r];exact hz)⟩))
   |_=>cases h1
  .cases e
 .cases e
def cy(lo:Int)(n:Nat):List PyData:=(List.range n).map fun(i:Nat)=>.int (lo+(i:Int))
theorem ItOk.rng{K:Frag}{O:Addr->Prop}{H1:Hp}{lo:Int}{n:Nat}:ItOk K O H1 (Itr lo n) (cy lo n):=fun O' H' le=>by
 have hl:(cy lo n).length=n:=by simp[cy]
 refine⟨fun i hi=>by rw[hl] at hi;exact hi,by rw[hl];exact Nat.le_refl _,fun i v H'' y hi=>?_⟩;obtain⟨e,y⟩:=y;subst y;rw[hl] at hi;exact⟨e,.int (lo+i),by simp[cy,hi],.int _⟩
def eS(j:Int):Bool:=decide (-1000000<=j/\j<=16777216)
theorem rng_ok(h:eS j=true) : -(2^62)<=j/\j<2^62/\j.toNat<=sizeLine:=by
 have h':=of_decide_eq_true h
 have e:sizeLine=16777216:=by decide
 omega
def dF(f:FE):FI:=fun ρ T=>bnd (f ρ T) fun w T1=>match w with
 |.d (.int j)=>if eS j=true then some (cy 0 j.toNat,T1) else none
 |_=>none
theorem kT(hg:Gl X "range")(hm:X.mg "range"=none)(ha:DE X a f)(hs:starEach [a] X.env=[(false,eval a X.env)]:=by exact mB rfl):DI X tg (.Call (.Name "range" p) [a] [] pos) (dF f):=by
 refine⟨?_⟩;refine xD (Bv (ta:=oq (lift X.K f) oV) hg hm (cX ha.pe dA (by rw[hs];rfl)) hs) fun σ H R=>?_;rintro⟨O,ts,ρ,T,ds,T',hc,re,e,q⟩;obtain⟨w1,T1,e1,e⟩:=aM e;refine⟨O,ts,ρ,T,w1,T1,hc,re,e1,fun v1 H1 s1 hc1 r1=>?_⟩;split at e
 .rename_i j
  split at e
  .rename_i h1
   cases e;cases (show Rep X.K O H1 v1 _ from r1);obtain⟨b1,b2,b3⟩:=rng_ok h1;exact⟨j,rfl,b1,b2,q _ H1 s1 hc1 .rng (by simpa[cy] using b3)⟩
  .cases e
 .cases e
def bC(c:FT)(e:FE)(ρ:Rho):List PyData->Tp->Option (List PyData×Tp)
 |[],T=>some ([],T)
 |d::r,T=>bnd (c (some (.d d)::ρ) T) fun b T1=>if b=true then bnd (e (some (.d d)::ρ) T1) fun w T2=>match w with
   |.d y=>bnd (bC c e ρ r T2) fun ys T3=>some (y::ys,T3)
   |_=>none
  else bC c e ρ r T1
def bH(it:FI)(c:FT)(e:FE):FE:=fun ρ T=>bnd (it ρ T) fun ds T1=>bnd (bC c e ρ ds T1) fun ys T2=>some (.d (.list ys),T2)
def bF:FT:=fun _ T=>some (true,T)
theorem RelE.cons{K:Frag}{O:Addr->Prop}{ts:List Addr}{H:Hp}{σ:L2.St}{ρ:Rho}{v:V}{d:PyData}(re:RelE K O ts H σ ρ)(r:Rep K O H v d):RelE K O ts H (some v::σ) (some (.d d)::ρ):=fun i w e=>by
 cases i with
 |zero=>cases e;exact⟨v,rfl,r⟩
 |succ i=>
  obtain⟨u,h1,h2⟩:=re i w (by simpa using e);exact⟨u,by simpa using h1,h2⟩
theorem xf{K:Frag}{O:Addr->Prop}{ts:List Addr}{H1:Hp}{σ:L2.St}{ρ:Rho}{J:It}{c:FT}{e:FE}{ds ys:List PyData}{T1 T2:Tp}{Dn:List V->Hp->Prop}(hc:HC K O ts H1 T1)(re:RelE K O ts H1 σ ρ)(ok:ItOk K O H1 J ds)(hz:ds.length<=sizeLine)
  (ee:bC c e ρ ds T1=some (ys,T2)) (q:∀vs H',SameX ts H1 H'->HC K O ts H' T2->Reps K O H' vs ys->Dn vs H') :
  ∃W:Nat->Nat->List V->Hp->Prop,(∃m,W 0 m [] H1)/\oK σ J (liftT K c) (lift K e) W Dn:=by
 refine⟨fun i m vs H'=>m=ds.length-i/\i<=ds.length/\vs.length<=i/\∃T dn rs,SameX ts H1 H'/\HC K O ts H' T/\Reps K O H' vs dn/\bC c e ρ (ds.drop i) T=some (rs,T2)/\ys=dn++rs,⟨_,rfl,Nat.zero_le _,Nat.le_refl _,T1,[],ys,.refl _ _,hc,.nil,ee,rfl⟩,?_⟩;rintro i m vs H' ⟨rfl,hi,hv,T,dn,rs,s1,hc1,rv,ec,ey⟩;obtain⟨k1,k2,k3⟩:=ok O H' (hc.le s1)
 by_cases hlt:i<ds.length
 .refine .inr ⟨k1 i hlt,by omega,fun vs' H2=>i+1<=ds.length/\vs'.length<=i+1/\∃T dn rs,SameX ts H1 H2/\HC K O ts H2 T/\Reps K O H2 vs' dn/\bC c e ρ (ds.drop (i+1)) T=some (rs,T2)/\ys=dn++rs,fun vs' H2 n=>⟨ds.length-(i+1),by omega,rfl,n⟩,fun v H2 y=>?_⟩
  obtain⟨e2,d,hd,rd⟩:=k3 i v H2 y hlt;subst e2
  have hdr:ds.drop i=d::ds.drop (i+1):=by
   rw[List.drop_eq_getElem_cons hlt];have:=(List.getElem?_eq_some_iff.mp hd).2;rw[this]
  rw[hdr] at ec;obtain⟨b,T3,e3,ec⟩:=aM ec;refine⟨O,ts,some (.d d)::ρ,T,b,T3,hc1,(re.mono hc s1).cons rd,e3,fun H3 s3 hc3=>?_⟩
  cases b with
  |false=>
   rw[if_neg Bool.false_ne_true] at ec;exact ie ⟨hlt,by omega,T3,dn,rs,s1.trans s3,hc3,rv.mono (hc1.le s3),ec,ey⟩
  |true=>
   rw[if_pos rfl] at ec;obtain⟨w,T4,e4,ec⟩:=aM ec;refine gF ⟨O,ts,some (.d d)::ρ,T3,w,T4,hc3,((re.mono hc s1).cons rd).mono hc1 s3,e4,fun u H4 s4 hc4 r4=>?_⟩;split at ec
   .rename_i y
    obtain⟨zs,T5,e5,ec⟩:=aM ec;cases ec;refine⟨hlt,by simp;omega,T4,dn++[y],zs,s1.trans (s3.trans s4),hc4,(rv.mono (hc1.le (s3.trans s4))).append (.cons r4 .nil),e5,by rw[ey];simp⟩
   .cases ec
 .have e:i=ds.length:=by omega
  subst e;rw[List.drop_eq_nil_of_le (Nat.le_refl _)] at ec;cases ec;rw[List.append_nil] at ey;subst ey;exact .inl ⟨k2,by omega,q vs H' s1 hc1 rv⟩
structure DTs(X:Cx)(es:List Expr)(f:FT):Prop where
 pe:PTs X es (liftT X.K f)
theorem wV:DTs X [] bF:=⟨fun pins s σ H Q E I h=>by
 refine Eb pins s σ H Q E I ?_;obtain⟨O,ts,ρ,T,w,T',hc,re,e,q⟩:=h;cases e
 exact q H (.refl _ _) hc⟩
theorem E8(hx:X.xe=fun _ _=>False)(h:DT X c f):DTs X [c] f:=⟨Ea hx h.pe⟩
theorem Fg(S:CS osc N x scope N')(hi:DI X (.Name x px) iter it)
  (he:∀C s0 H0 ex,DE (bQ X x scope C s0 H0 ex N') elt f) (ht:∀C s0 H0 ex,DTs (bQ X x scope C s0 H0 ex N') ifs c) (hc:X.calm=true:=by rfl) (hs:X.env.scope=osc:=by rfl) (hN:X.N=N:=by rfl)
  (hf:∀v,foldedSetIterable iter X.env v=pure v:=by intro _;rfl):DE X (.ListComp elt [⟨.Name x px,iter,ifs,0⟩] scope pos) (bH it c f):=by
 refine⟨?_⟩;refine bu (CK (wi:=rT X.K it) (tt:=liftT X.K c) (te:=lift X.K f) S hi.pe (fun C s0 H0 ex=>(he C s0 H0 ex).pe) (fun C s0 H0 ex=>(ht C s0 H0 ex).pe) hc hs hN hf) fun σ H Q=>?_;rintro⟨O,ts,ρ,T,w,T',hc,re,e,q⟩;obtain⟨ds,T1,e1,e⟩:=aM e;obtain⟨ys,T2,e2,e⟩:=aM e;cases e;refine⟨O,ts,ρ,T,ds,T1,hc,re,e1,fun J H1 s1 hc1 ok hz=>?_⟩;exact xf hc1 (re.mono hc s1) ok hz e2 fun vs H' s2 hc2 r2 p hp=>q _ _ (s1.trans (s2.trans (.new hp _))) (hc2.new hp _) (hc2.newL hp r2)
inductive Fl where
 |nx|rt (x:PyData)|ro (x:PyData)|bk|ct
abbrev FS:=Rho->Tp->Option ((Fl×Rho)×Tp)
structure RS(K:Frag)(O₀:Addr->Prop)(H₀:Hp)(F:List ((Addr->Prop)×Hp))(ts:List Addr)(O:Addr->Prop)(H:Hp)(σ:L2.St)(ρ:Rho)(T:Tp):Prop where
 hc:HC K O ts H T
 re:RelE K O ts H σ ρ
 sub:∀b,O₀ b->O b
 ots:∀b∈ts,O₀ b
 same:SameX ts H₀ H
 fresh:∀(i:Nat) (xs:PyData) (a:Addr),ρ[i]? = some (some (.loc xs))->σ[i]? = some (some (.ref a))->H₀ a=none/\¬O₀ a
 dist:∀(i j:Nat) (xs ys:PyData) (v:V),ρ[i]? = some (some (.loc xs))->ρ[j]? = some (some (.loc ys))->σ[i]? = some (some v)->σ[j]? = some (some v)->i=j
 frs:∀f∈F,Le f.1 f.2 O H
 len:σ.length=ρ.length
def OwnV(K:Frag)(O A:Addr->Prop)(H:Hp)(v:V):PyData->Prop
 |.tuple [x,y]=>∃p a b,v=.ref p/\a≠b/\(∀c,A c↔c=a\/c=b)/\¬O p/\H p=some (.tup [.ref a,.ref b])/\OwnAt K O H a x/\OwnAt K O H b y
 |.none=>v=.non/\∀c,¬A c
 |x=>∃a,v=.ref a/\(∀c,A c↔c=a)/\OwnAt K O H a x
theorem OwnV.mono{K:Frag}{O O' A:Addr->Prop}{H:Hp}{v:V}{x:PyData}(le:Le O H O' H)(h:OwnV K O A H v x):OwnV K O' A H v x:=by
 unfold OwnV at h ⊢;split at h
 .obtain⟨p,a,b,e1,e2,e3,np,hp,oa,ob⟩:=h
  exact⟨p,a,b,e1,e2,e3,(le p _ np hp).1,hp,oa.mono (fun _ h=>h) le,ob.mono (fun _ h=>h) le⟩
 .exact h
 .obtain⟨a,e,hA,oa⟩:=h
  exact⟨a,e,hA,oa.mono (fun _ h=>h) le⟩
def zg(K:Frag)(O₀:Addr->Prop)(H₀:Hp)(F:List ((Addr->Prop)×Hp))(ts:List Addr)(D:Ends)(ρ':Rho)(T':Tp):Fl->Prop
 |.nx=>∀O' σ' H',RS K O₀ H₀ F ts O' H' σ' ρ' T'->D.nx σ' H'
 |.bk=>∀O' σ' H',RS K O₀ H₀ F ts O' H' σ' ρ' T'->D.bk σ' H'
 |.ct=>∀O' σ' H',RS K O₀ H₀ F ts O' H' σ' ρ' T'->D.ct σ' H'
 |.rt x=>∀v H',SameX ts H₀ H'->HC K O₀ ts H' T'->Rep K O₀ H' v x->D.rt v H'
 |.ro x=>∀(A:Addr->Prop) v H',SameX ts H₀ H'->(∀b,A b->H₀ b=none/\¬O₀ b)->HC K (fun b=>O₀ b\/A b) ts H' T'->OwnV K (fun b=>O₀ b\/A b) A H' v x->D.rt v H'
inductive LiftSP(K:Frag)(f:FS)(D:Ends)(σ:L2.St)(H:Hp):Prop where
 |mk (O₀:Addr->Prop) (H₀:Hp) (F:List ((Addr->Prop)×Hp)) (ts:List Addr) (O:Addr->Prop) (ρ:Rho) (T:Tp) (fl:Fl) (ρ':Rho) (T':Tp) (rs:RS K O₀ H₀ F ts O H σ ρ T) (e:f ρ T=some ((fl,ρ'),T')) (q:zg K O₀ H₀ F ts D ρ' T' fl):LiftSP K f D σ H
def oF(K:Frag)(f:FS):TS:=fun D σ H=>LiftSP K f D σ H
structure DS(X:Cx)(s:Stmt)(f:FS):Prop where
 pe:PS X s (oF X.K f)
structure DSs(X:Cx)(s:List Stmt)(f:FS):Prop where
 pe:PSs X s (oF X.K f)
theorem bZ(h:PS X e t)(i:∀D σ H,t' D σ H->t D σ H):PS X e t':=fun pins s σ H D I q=>h pins s σ H D I (i D σ H q)
theorem mP(h:PSs X e t)(i:∀D σ H,t' D σ H->t D σ H):PSs X e t':=fun pins s σ H D I q=>h pins s σ H D I (i D σ H q)
section
variable {K:Frag}{O₀:Addr->Prop}{H₀:Hp}{F:List ((Addr->Prop)×Hp)}{ts:List Addr}{O:Addr->Prop}{H H1:Hp}{σ:L2.St}{ρ:Rho}{T T1:Tp}
theorem RS.step(r:RS K O₀ H₀ F ts O H σ ρ T)(s:SameX ts H H1)(c:HC K O ts H1 T1):RS K O₀ H₀ F ts O H1 σ ρ T1 where
 hc:=c
 re:=r.re.mono r.hc s
 sub:=r.sub
 ots:=r.ots
 same:=r.same.trans s
 fresh:=r.fresh
 dist:=r.dist
 frs:=fun f hf=>(r.frs f hf).trans (r.hc.le s)
 len:=r.len
theorem gm(hw:∀ys,w≠.loc ys)(e:(ρ.set i (some w))[j]? = some (some (.loc xs))):j≠i/\ρ[j]? = some (some (.loc xs)):=by
 by_cases z:i=j
 .subst z
  rw[List.getElem?_set_self'] at e
  cases h:ρ[i]? with
  |none=>rw[h] at e;cases e
  |some u=>
   rw[h] at e;have e':some (some w)=some (some (W.loc xs)):=e;cases e';exact absurd rfl (hw xs)
 .rw[List.getElem?_set_ne z] at e
  exact⟨fun q=>z q.symm,e⟩
theorem RS.set{i:Nat}{v:V}{w:W}(r:RS K O₀ H₀ F ts O H σ ρ T)(rw':RepW K O ts H v w)(hw:∀ys,w≠.loc ys):RS K O₀ H₀ F ts O H (σ.set i (some v)) (ρ.set i (some w)) T where
 hc:=r.hc
 re:=fun j u e=>by
  by_cases z:i=j
  .subst z
   have hl:i<ρ.length:=by
    have:=(List.getElem?_eq_some_iff.mp e).1;simpa using this
   rw[List.getElem?_set_self hl] at e;cases e;exact⟨v,by rw[List.getElem?_set_self (by rw[r.len];exact hl)],rw'⟩
  .rw[List.getElem?_set_ne z] at e
   obtain⟨x,h1,h2⟩:=r.re j u e;exact⟨x,by rw[List.getElem?_set_ne z];exact h1,h2⟩
 sub:=r.sub
 ots:=r.ots
 same:=r.same
 fresh:=fun j xs a e1 e2=>by
  obtain⟨n,e⟩:=gm hw e1;rw[List.getElem?_set_ne (Ne.symm n)] at e2;exact r.fresh j xs a e e2
 dist:=fun j k xs ys u e1 e2 e3 e4=>by
  obtain⟨n1,e1⟩:=gm hw e1;obtain⟨n2,e2⟩:=gm hw e2;rw[List.getElem?_set_ne (Ne.symm n1)] at e3;rw[List.getElem?_set_ne (Ne.symm n2)] at e4;exact r.dist j k xs ys u e1 e2 e3 e4
 frs:=r.frs
 len:=by simp[r.len]
theorem RS.ownO(r:RS K O₀ H₀ F ts O H σ ρ T)(hp:H p=none)(hm:Mut (some o))(rv:Le O H (fun b=>O b\/b=p) (upd H p o)->OwnAt K (fun b=>O b\/b=p) (upd H p o) p xs):RS K O₀ H₀ F ts (fun b=>O b\/b=p) (upd H p o) (σ.set i (some (.ref p))) (ρ.set i (some (.loc xs))) T:=by
 have le:Le O H (fun b=>O b\/b=p) (upd H p o):=fun a o n e=>by
  have z:a≠p:=dv e hp;exact⟨fun q=>q.elim n z,by rw[aT z];exact e⟩
 have h0:∀{G:Hp},SameX ts G H->p∉ts->G p=none:=fun {G} s nt=>by
  cases e:G p with
  |none=>rfl
  |some o=>rw[s p o nt e] at hp;cases hp
 have nO:=r.hc.fresh hp;have nt:p∉ts:=fun z=>nO (r.hc.own p z)
 have old:∀{j:Nat}{v:V}{w:W},σ[j]? = some (some v)->RepW K O ts H v w->RepW K (fun b=>O b\/b=p) ts (upd H p o) v w:=fun {j v w} e q=>by
  cases w with
  |d x=>exact Rep.mono le q
  |tp k=>exact q
  |loc ys=>
   obtain⟨a,e1,h1,h2,h3⟩:=q;exact⟨a,e1,.inl h1,h2,h3.mono (fun o' q=>by rw[aT (dv q hp)];exact q) le⟩
 have notp:∀{j:Nat}{ys:PyData},ρ[j]? = some (some (.loc ys))->σ[j]? = some (some (.ref p))->False:=fun {j ys} e1 e2=>by
  obtain⟨v,h1,a,ea,h2,h3,h4⟩:=r.re j _ e1;rw[e2] at h1;cases h1;cases ea;obtain⟨o',h5⟩:=h4.some;rw[hp] at h5;cases h5
 refine⟨⟨fun b hb=>.inl (r.hc.own b hb),fun b hb=>?_,r.hc.nd,r.hc.len,fun j a ys e1 e2=>?_⟩,fun j w e=>?_,fun b hb=>.inl (r.sub b hb),r.ots,r.same.trans (.new hp _),fun j ys a e1 e2=>?_,fun j k ys zs v e1 e2 e3 e4=>?_,fun f hf=>(r.frs f hf).trans le,by simp[r.len]⟩
 .by_cases z:b=p
  .subst z;rw[bt];exact hm
  .rw[aT z]
   exact r.hc.trk b (hb.resolve_right z)
 .exact(r.hc.tape j a ys e1 e2).mono (fun o' h1=>by rw[aT (dv h1 hp)];exact h1) le
 .by_cases z:i=j
  .subst z
   have hl:i<ρ.length:=by
    have:=(List.getElem?_eq_some_iff.mp e).1;simpa using this
   rw[List.getElem?_set_self hl] at e;cases e;exact⟨.ref p,by rw[List.getElem?_set_self (by rw[r.len];exact hl)],p,rfl,.inr rfl,nt,rv le⟩
  .rw[List.getElem?_set_ne z] at e
   obtain⟨x,h1,h2⟩:=r.re j w e;exact⟨x,by rw[List.getElem?_set_ne z];exact h1,old h1 h2⟩
 .by_cases z:i=j
  .subst z
   have hl:i<ρ.length:=by
    have:=(List.getElem?_eq_some_iff.mp e1).1;simpa using this
   rw[List.getElem?_set_self (by rw[r.len];exact hl)] at e2;cases e2;exact⟨h0 r.same nt,fun q=>nO (r.sub _ q)⟩
  .rw[List.getElem?_set_ne z] at e1 e2
   exact r.fresh j ys a e1 e2
 .by_cases z:i=j
  .by_cases z':i=k
   .rw[←z,←z']
   .exfalso
    subst z
    have hl:i<ρ.length:=by
     have:=(List.getElem?_eq_some_iff.mp e1).1;simpa using this
    rw[List.getElem?_set_self (by rw[r.len];exact hl)] at e3;cases e3;rw[List.getElem?_set_ne z'] at e2 e4;exact notp e2 e4
  .by_cases z':i=k
   .exfalso
    subst z'
    have hl:i<ρ.length:=by
     have:=(List.getElem?_eq_some_iff.mp e2).1;simpa using this
    rw[List.getElem?_set_self (by rw[r.len];exact hl)] at e4;cases e4;rw[List.getElem?_set_ne z] at e1 e3;exact notp e1 e3
   .rw[List.getElem?_set_ne z] at e1 e3
    rw[List.getElem?_set_ne z'] at e2 e4;exact r.dist j k ys zs v e1 e2 e3 e4
theorem RS.own(r:RS K O₀ H₀ F ts O H σ ρ T)(hp:H p=none)(rv:Reps K O H vs xs):RS K O₀ H₀ F ts (fun b=>O b\/b=p) (upd H p (.lst vs)) (σ.set i (some (.ref p))) (ρ.set i (some (.loc (.list xs)))) T:=r.ownO hp (.inl ⟨_,rfl⟩) fun le=>⟨vs,bt,rv.mono le⟩
theorem RS.putO(r:RS K O₀ H₀ F ts O H σ ρ T)(e1:ρ[i]? = some (some (.loc xs)))(e2:σ[i]? = some (some (.ref a)))(hm:Mut (some o))(rv:Le O H O (upd H a o)->OwnAt K O (upd H a o) a ys):RS K O₀ H₀ F ts O (upd H a o) σ (ρ.set i (some (.loc ys))) T:=by
 obtain⟨v,z1,a',ea,oa,nt,ha⟩:=r.re i _ e1;rw[e2] at z1;cases z1;cases ea;have hl:i<ρ.length:=(List.getElem?_eq_some_iff.mp e1).1;obtain⟨f1,f2⟩:=r.fresh i xs a e1 e2;have le:Le O H O (upd H a o):=fun b o n e=>⟨n,by rw[aT (show b≠a from fun z=>n (by rw[z];exact oa))];exact e⟩
 have back:∀{j:Nat}{zs:PyData},(ρ.set i (some (W.loc ys)))[j]? = some (some (.loc zs))->∃ws,ρ[j]? = some (some (.loc ws)):=fun {j zs} e=>by
  by_cases z:i=j
  .subst z;exact⟨xs,e1⟩
  .rw[List.getElem?_set_ne z] at e;exact⟨zs,e⟩
 refine⟨⟨r.hc.own,fun b hb=>?_,r.hc.nd,r.hc.len,fun j b zs q1 q2=>?_⟩,fun j w e=>?_,r.sub,r.ots,fun b o n e=>?_,fun j zs b q1 q2=>?_,fun j k zs zs' v q1 q2 q3 q4=>?_,fun f hf=>(r.frs f hf).trans le,by simp[r.len]⟩
 .by_cases z:b=a
  .subst z;rw[bt];exact hm
  .rw[aT z];exact r.hc.trk b hb
 .exact(r.hc.tape j b zs q1 q2).mono (fun o' h1=>by rw[aT (show b≠a from fun z=>nt (by rw[←z];exact List.mem_of_getElem? q1))];exact h1) le
 .by_cases z:i=j
  .subst z
   rw[List.getElem?_set_self hl] at e;cases e;exact⟨.ref a,e2,a,rfl,oa,nt,rv le⟩
  .rw[List.getElem?_set_ne z] at e
   obtain⟨x,h1,h2⟩:=r.re j w e;refine⟨x,h1,?_⟩
   cases w with
   |d x=>exact Rep.mono le h2
   |tp k=>exact h2
   |loc zs=>
    obtain⟨b,eb,k1,k2,k3⟩:=h2;have n:b≠a:=fun q=>z (r.dist i j xs zs (.ref a) e1 e e2 (by rw[h1,eb,q]));exact⟨b,eb,k1,k2,k3.mono (fun o' q=>by rw[aT n];exact q) le⟩
 .have:=r.same b o n e
  rw[aT (show b≠a from fun z=>by rw[z,f1] at e;cases e)];exact this
 .obtain⟨ws,q⟩:=back q1
  exact r.fresh j ws b q q2
 .obtain⟨ws,q⟩:=back q1
  obtain⟨ws',q'⟩:=back q2;exact r.dist j k ws ws' v q q' q3 q4
theorem RS.put{i:Nat}{a:Addr}{vs us:List V}{xs ys:List PyData}(r:RS K O₀ H₀ F ts O H σ ρ T)(e1:ρ[i]? = some (some (.loc (.list xs))))(e2:σ[i]? = some (some (.ref a)))(rv:Reps K O H vs ys):RS K O₀ H₀ F ts O (upd H a (.lst vs)) σ (ρ.set i (some (.loc (.list ys)))) T:=r.putO e1 e2 (.inl ⟨_,rfl⟩) fun le=>⟨vs,bt,rv.mono le⟩
theorem RS.tapeO(r:RS K O₀ H₀ F ts O H σ ρ T)(e:ts[n]? = some a)(hm:Mut (some o))(rv:Le O H O (upd H a o)->RowAt K O (upd H a o) a ys):RS K O₀ H₀ F ts O (upd H a o) σ ρ (T.set n ys):=by
 have am:a∈ts:=List.mem_of_getElem? e;have le:Le O H O (upd H a o):=fun b o' k q=>⟨k,by rw[aT (show b≠a from fun z=>k (by rw[z];exact r.hc.own a am))];exact q⟩
 have sx:SameX ts H (upd H a o):=fun b o' k q=>by rw[aT (show b≠a from fun z=>k (by rw[z];exact am))];exact q
 refine⟨⟨r.hc.own,fun b hb=>?_,r.hc.nd,by simp[r.hc.len],fun j b zs q1 q2=>?_⟩,r.re.mono r.hc sx,r.sub,r.ots,r.same.trans sx,r.fresh,r.dist,fun f hf=>(r.frs f hf).trans le,r.len⟩
 .by_cases z:b=a
  .subst z;rw[bt];exact hm
  .rw[aT z];exact r.hc.trk b hb
 .by_cases z:n=j
  .subst z
   rw[e] at q1;cases q1
   have hl:n<T.length:=by
    have:=(List.getElem?_eq_some_iff.mp e).1;rw[←r.hc.len];exact this
   rw[List.getElem?_set_self hl] at q2;cases q2;exact rv le
  .rw[List.getElem?_set_ne z] at q2
   refine(r.hc.tape j b zs q1 q2).mono (fun o' h1=>?_) le
   have nb:b≠a:=fun q=>by
    rw[q] at q1;exact z ((List.getElem?_inj (List.getElem?_eq_some_iff.mp e).1 r.hc.nd).mp (e.trans q1.symm))
   rw[aT nb];exact h1
theorem RS.tape(r:RS K O₀ H₀ F ts O H σ ρ T)(e:ts[n]? = some a)(rv:Reps K O H vs ys):RS K O₀ H₀ F ts O (upd H a (.lst vs)) σ ρ (T.set n ys):=r.tapeO e (.inl ⟨_,rfl⟩) fun le=>.inl ⟨rv.notO,vs,bt,rv.mono le⟩
def jY:W->W
 |.loc x=>.d x
 |w=>w
def bT(ρ:Rho):Rho:=ρ.map (Option.map jY)
theorem RS.frzH(r:RS K O₀ H₀ F ts O H σ ρ T):HC K O₀ ts H T:=by
 have le:Le O H O₀ H:=fun a o n e=>⟨fun z=>n (r.sub a z),e⟩;exact⟨r.ots,fun b hb=>r.hc.trk b (r.sub b hb),r.hc.nd,r.hc.len,fun i a xs e1 e2=>(r.hc.tape i a xs e1 e2).mono (fun _ h=>h) le⟩
def zR(ρ:Rho):Prop:=∀(i:Nat) (ds:List (PyData×PyData)),ρ[i]?≠some (some (.loc (.dict ds)))
theorem RS.frz(r:RS K O₀ H₀ F ts O H σ ρ T)(nd:zR ρ):HC K O₀ ts H T/\RelE K O₀ ts H σ (bT ρ):=by
 have le:Le O H O₀ H:=fun a o n e=>⟨fun z=>n (r.sub a z),e⟩;refine⟨r.frzH,fun i w e=>?_⟩;unfold bT at e;rw[List.getElem?_map] at e
 cases hu:ρ[i]? with
 |none=>rw[hu] at e;cases e
 |some u=>
  cases u with
  |none=>rw[hu] at e;cases e
  |some u=>
   rw[hu] at e;cases e;obtain⟨v,h1,h2⟩:=r.re i u hu;refine⟨v,h1,?_⟩
   cases u with
   |d x=>exact Rep.mono le h2
   |tp k=>exact h2
   |loc xs=>
    obtain⟨a,rfl,k1,k2,k3⟩:=h2
    cases xs with
    |list xs=>obtain⟨vs,k3,k4⟩:=k3;exact .lst (.inl ⟨(r.fresh i _ a hu h1).2,.inl k3⟩) (k4.mono le)
    |dict xs=>exact absurd hu (nd i xs)
    |_=>cases k3
theorem RS.frzD(r:RS K O₀ H₀ F ts O H σ ρ T)(h1:ρ[i]? = some (some (.loc (.dict ds)))):∃a kvs,H a=some (.dK kvs)/\∀o,RS K O₀ H₀ F ts (fun b=>O b/\b≠a) (upd H a (.frz o (.dK kvs))) σ (ρ.set i (some (.d (.dict ds)))) T:=by
 obtain⟨v,k1,a,rfl,k2,k3,kvs,k4,k5⟩:=r.re i _ h1;refine⟨a,kvs,k4,fun o=>?_⟩;have hl:i<ρ.length:=(List.getElem?_eq_some_iff.mp h1).1;have U:∀{b:Addr},b≠a->upd H a (.frz o (.dK kvs)) b=H b:=fun n=>aT n;have le:Le O H (fun b=>O b/\b≠a) (upd H a (.frz o (.dK kvs))):=fun b u n e=>⟨fun z=>n z.1,by rw[U (show b≠a from fun z=>n (by rw[z];exact k2))];exact e⟩;have fr:=r.fresh i _ a h1 k1
 have hw:∀ys,W.d (.dict ds)≠.loc ys:=fun _ z=>nomatch z
 refine⟨⟨fun b hb=>⟨r.hc.own b hb,fun z=>k3 (z ▸ hb)⟩,fun b hb=>by rw[U hb.2];exact r.hc.trk b hb.1,r.hc.nd,r.hc.len,fun j b ys e1 e2=>?_⟩,fun j w e=>?_,fun b hb=>⟨r.sub b hb,fun z=>fr.2 (z ▸ hb)⟩,r.ots,fun b u n e=>?_,fun j ys b e1 e2=>?_,fun j k ys zs v e1 e2 e3 e4=>?_,fun f hf=>(r.frs f hf).trans le,by simp[r.len]⟩
 .exact(r.hc.tape j b ys e1 e2).mono (fun _ h=>by rw[U (show b≠a from fun z=>k3 (by rw[←z];exact List.mem_of_getElem? e1))];exact h) le
 .by_cases z:i=j
  .subst z
   rw[List.getElem?_set_self hl] at e;cases e;exact⟨.ref a,k1,.dct (fun z=>z.2 rfl) bt (k5.mono le)⟩
  .rw[List.getElem?_set_ne z] at e
   obtain⟨x,q1,q2⟩:=r.re j w e;refine⟨x,q1,?_⟩
   cases w with
   |d y=>exact Rep.mono le q2
   |tp k=>exact q2
   |loc ys=>
    obtain⟨b,eb,m1,m2,m3⟩:=q2;have nb:b≠a:=fun q=>z (r.dist i j _ ys (.ref a) h1 e k1 (by rw[q1,eb,q]));exact⟨b,eb,⟨m1,nb⟩,m2,m3.mono (fun _ q=>by rw[U nb];exact q) le⟩
 .rw[U (show b≠a from fun z=>by rw[z,fr.1] at e;cases e)]
  exact r.same b u n e
 .obtain⟨n,e⟩:=gm hw e1
  exact r.fresh j ys b e e2
 .obtain⟨n1,e1⟩:=gm hw e1
  obtain⟨n2,e2⟩:=gm hw e2;exact r.dist j k ys zs v e1 e2 e3 e4
theorem C9(h:ρ[i]? = some (some (.loc x))):bT (ρ.set i (some (.d x)))=bT ρ:=by
 apply List.ext_getElem?;intro j;unfold bT;rw[List.getElem?_map,List.getElem?_map]
 by_cases z:i=j
 .subst z
  rw[List.getElem?_set_self (List.getElem?_eq_some_iff.mp h).1,h];rfl
 .rw[List.getElem?_set_ne z]
theorem RS.frzN(R:Rho):∀(k:Nat) {O:Addr->Prop}{H:Hp}{ρ:Rho},RS K O₀ H₀ F ts O H σ ρ T->(∀j ds,k<=j->ρ[j]?≠some (some (.loc (.dict ds))))->bT ρ=R ->
  Gh (fun H'=>∃O' ρ',RS K O₀ H₀ F ts O' H' σ ρ' T/\zR ρ'/\bT ρ'=R) H
 |0,O,H,ρ,r,n,e=>.done ⟨O,ρ,r,fun j ds=>n j ds (Nat.zero_le _),e⟩
 |k+1,O,H,ρ,r,n,e=>by
  by_cases h:∃ds,ρ[k]? = some (some (.loc (.dict ds)))
  .obtain⟨ds,h⟩:=h
   obtain⟨a,kvs,e1,f⟩:=r.frzD h;refine .frz e1 fun o=>RS.frzN R k (f o) (fun j es hj=>?_) (by rw[C9 h];exact e)
   by_cases z:k=j
   .subst z
    rw[List.getElem?_set_self (List.getElem?_eq_some_iff.mp h).1];intro q;cases q
   .rw[List.getElem?_set_ne z]
    exact n j es (by omega)
  .refine RS.frzN R k r (fun j ds hj=>?_) e
   by_cases z:k=j
   .subst z
    exact fun q=>h ⟨ds,q⟩
   .exact n j ds (by omega)
theorem RS.frzG(r:RS K O₀ H₀ F ts O H σ ρ T):Gh (fun H'=>SameX ts H₀ H'/\HC K O₀ ts H' T/\RelE K O₀ ts H' σ (bT ρ)) H:=(RS.frzN (bT ρ) ρ.length r (fun j ds hj=>by rw[List.getElem?_eq_none hj];exact fun z=>nomatch z) rfl).imp fun H' ⟨O',ρ',r',n,e⟩=>⟨r'.same,by rw[←e];exact r'.frz n⟩
end
def aD:FS:=fun ρ T=>some ((.nx,ρ),T)
def ak(f g:FS):FS:=fun ρ T=>bnd (f ρ T) fun p T1=>match p with
 |(.nx,ρ1)=>g ρ1 T1
 |(fl,ρ1)=>some ((fl,ρ1),T1)
def aG(i:Nat)(f:FE):FS:=fun ρ T=>bnd (f ρ T) fun w T1=>match w with
 |.d x=>some ((.nx,ρ.set i (some (.d x))),T1)
 |.tp k=>some ((.nx,ρ.set i (some (.tp k))),T1)
 |.loc _=>none
def dO(i:Nat)(g:FA):FS:=fun ρ T=>bnd (g ρ T) fun ws T1=>match dQ ws with
 |some xs=>if xs.length<=1000 then some ((.nx,ρ.set i (some (.loc (.list xs)))),T1) else none
 |none=>none
def fu(i:Nat)(f:FE):FS:=fun ρ T=>bnd (f ρ T) fun w T1=>match w with
 | .d x=>(match ρ[i]? with
  |some (some (.loc (.list xs)))=>if xs.length<sizeLine then some ((.nx,ρ.set i (some (.loc (.list (xs++[x]))))),T1) else none
  | _=>none)
 |_=>none
def lO(fo fk fe:FE):FS:=fun ρ T=>bnd (fe ρ T) fun w T1=>bnd (fo ρ T1) fun o T2=>bnd (fk ρ T2) fun k T3=>match w,o,k with
 |.d x,.tp n,.d (.int i)=>match T3[n]? with
  |some xs=>if isO xs=true then none else match ixN xs.length i with
   |some j=>some ((.nx,ρ),T3.set n (xs.set j x))
   |none=>none
  |none=>none
 |_,_,_=>none
def fIf(c:FT)(f g:FS):FS:=fun ρ T=>bnd (c ρ T) fun b T1=>if b=true then f ρ T1 else g ρ T1
def az(f:FE):FS:=fun ρ T=>bnd (f (bT ρ) T) fun w T1=>match w with
 |.d x=>some ((.rt x,ρ),T1)
 |_=>none
def forL(i:Nat)(body:FS):List PyData->FS
 |[]=>aD
 |d::r=>fun ρ T=>bnd (body (ρ.set i (some (.d d))) T) fun p T1=>match p with
  |(.nx,ρ1)=>forL i body r ρ1 T1
  |(.ct,ρ1)=>forL i body r ρ1 T1
  |(.bk,ρ1)=>some ((.nx,ρ1),T1)
  |(.rt x,ρ1)=>some ((.rt x,ρ1),T1)
  |(.ro x,ρ1)=>some ((.ro x,ρ1),T1)
def bw(i:Nat)(it:FI)(body:FS):FS:=fun ρ T=>bnd (it ρ T) fun ds T1=>forL i body ds ρ T1
def bP(c:FT)(body:FS):Nat->FS
 |0=>fun _ _=>none
 |n+1=>fun ρ T=>bnd (c ρ T) fun b T1=>if b=true then bnd (body ρ T1) fun p T2=>match p with
   |(.nx,ρ1)=>bP c body n ρ1 T2
   |(.ct,ρ1)=>bP c body n ρ1 T2
   |(.bk,ρ1)=>some ((.nx,ρ1),T2)
   |(.rt x,ρ1)=>some ((.rt x,ρ1),T2)
   |(.ro x,ρ1)=>some ((.ro x,ρ1),T2)
  else some ((.nx,ρ),T1)
section
variable {X:Cx}{pos:Pos}{st:Stmt}{rest:List Stmt}{f g:FS}{e:Expr}{fe:FE}{c:FT}
theorem aK:DSs X [] aD:=by
 refine⟨?_⟩;refine mP vX fun D σ H=>?_;rintro⟨O₀,H₀,F,ts,O,ρ,T,fl,ρ',T',rs,e,q⟩;cases e;exact q O σ H rs
theorem ax(h1:DS X st f)(h2:DSs X rest g):DSs X (st::rest) (ak f g):=by
 refine⟨?_⟩;refine mP (qc h1.pe h2.pe) fun D σ H=>?_;rintro⟨O₀,H₀,F,ts,O,ρ,T,fl,ρ',T',rs,e,q⟩;obtain⟨⟨fl1,ρ1⟩,T1,e1,e⟩:=aM e;refine⟨O₀,H₀,F,ts,O,ρ,T,fl1,ρ1,T1,rs,e1,?_⟩
 cases fl1 with
 |nx=>exact fun O' σ' H' rs'=>⟨O₀,H₀,F,ts,O',ρ1,T1,fl,ρ',T',rs',e,q⟩
 |rt x=>cases e;exact q
 |ro x=>cases e;exact q
 |bk=>cases e;exact q
 |ct=>cases e;exact q
theorem au(h1:DS X st f):DSs X [st] f:=⟨vW h1.pe⟩
theorem aQ(hN:X.N.Nodup)(he:DE X e fe)(hi:X.N[i]? = some x:=by rfl)(hx:Loc X.env.scope x:=by first|exact Or.inl rfl|exact Or.inr rfl)(hs:swapsWith e (some (.Name x pos')) pos.line X.env=pure false:=by rfl)
  (hf:X.fn x=true\/X.env.scope.names.lookup x=some .local:=by first|exact .inl rfl|exact .inr rfl|assumption):DS X (.Assign [.Name x pos'] e pos) (aG i fe):=by
 refine⟨?_⟩;refine bZ (iI hN hi hx he.pe hs hf) fun D σ H=>?_;rintro⟨O₀,H₀,F,ts,O,ρ,T,fl,ρ',T',rs,e,q⟩;obtain⟨w,T1,e1,e⟩:=aM e;refine⟨O,ts,ρ,T,w,T1,rs.hc,rs.re,e1,fun v H1 s1 hc1 r1=>?_⟩
 cases w with
 |d x=>cases e;exact q O _ _ ((rs.step s1 hc1).set r1 fun _ z=>nomatch z)
 |tp k=>cases e;exact q O _ _ ((rs.step s1 hc1).set r1 fun _ z=>nomatch z)
 |loc xs=>cases e
theorem Fc{i:Nat}{x y:Str}{scope osc:Scope}{N N':List Str}{elt iter:Expr}{ifs:List Expr}{px py spos:Pos}{it:FI}{c:FT}{f:FE}(S:CS osc N x scope N')(hN:X.N.Nodup)(hi:DI X (.Name x px) iter it)
  (he:∀C s0 H0 ex,DE (bQ X x scope C s0 H0 ex N') elt f) (ht:∀C s0 H0 ex,DTs (bQ X x scope C s0 H0 ex N') ifs c) (hi':X.N[i]? = some y:=by rfl) (hy:Loc X.env.scope y:=by first|exact Or.inl rfl|exact Or.inr rfl)
  (hf':X.fn y=true\/X.env.scope.names.lookup y=some .local:=by first|exact .inl rfl|exact .inr rfl|assumption) (hc:X.calm=true:=by rfl) (hs:X.env.scope=osc:=by rfl) (hN':X.N=N:=by rfl)
  (hsw:swapsWith (.ListComp elt [⟨.Name x px,iter,ifs,0⟩] scope pos) (some (.Name y py)) spos.line X.env=pure true:=by rfl) (hf:∀v,foldedSetIterable iter X.env v=pure v:=by intro _;rfl) :
  DS X (.Assign [.Name y py] (.ListComp elt [⟨.Name x px,iter,ifs,0⟩] scope pos) spos) (aG i (bH it c f)):=by
 refine⟨?_⟩;subst hs hN';refine bZ (Ee (wi:=rT X.K it) (tt:=liftT X.K c) (te:=lift X.K f) hc S hN hi' hy hf' hi.pe (fun C s0 H0 ex=>(he C s0 H0 ex).pe) (fun C s0 H0 ex=>(ht C s0 H0 ex).pe) hsw hf) fun D σ H=>?_;rintro⟨O₀,H₀,F,ts,O,ρ,T,fl,ρ',T',rs,e,q⟩;obtain⟨w,T1,e1,e⟩:=aM e;obtain⟨ds,T2,e2,e1⟩:=aM e1;obtain⟨ys,T3,e3,e1⟩:=aM e1;cases e1;cases e;refine⟨O,ts,ρ,T,ds,T2,rs.hc,rs.re,e2,fun J H1 s1 hc1 ok hz=>?_⟩;exact xf hc1 (rs.re.mono rs.hc s1) ok hz e3 fun vs H' s2 hc2 r2 p hp=>q O _ _ ((rs.step (s1.trans (s2.trans (.new hp _))) (hc2.new hp _)).set (hc2.newL hp r2) fun _ z=>nomatch z)
theorem ju{i:Nat}{x:Str}{pos':Pos}{es:List Expr}{lpos:Pos}{g:FA}(hN:X.N.Nodup)(he:DA X es g)(hi:X.N[i]? = some x:=by rfl)(hx:Loc X.env.scope x:=by first|exact Or.inl rfl|exact Or.inr rfl)
  (hs:swapsWith (.List es lpos) (some (.Name x pos')) pos.line X.env=pure false:=by rfl) (hf:X.fn x=true\/X.env.scope.names.lookup x=some .local:=by first|exact .inl rfl|exact .inr rfl|assumption):DS X (.Assign [.Name x pos'] (.List es lpos) pos) (dO i g):=by
 refine⟨?_⟩;refine bZ (iI hN hi hx (rl he.pe) hs hf) fun D σ H=>?_;rintro⟨O₀,H₀,F,ts,O,ρ,T,fl,ρ',T',rs,e,q⟩;obtain⟨ws,T1,e1,e⟩:=aM e;refine⟨O,ts,ρ,T,ws,T1,rs.hc,rs.re,e1,fun vs H1 s1 hc1 r1=>?_⟩;split at e
 .rename_i xs h1
  split at e
  .rename_i h2
   cases e;have rv:=kL r1 h1;exact⟨mS (by rw[rv.length];exact h2),fun p hp=>q _ _ _ ((rs.step s1 hc1).own hp rv)⟩
  .cases e
 .cases e
theorem aI(hc:DT X ce c)(ha:DSs X a f)(hb:DSs X b g):DS X (.If ce a b pos) (fIf c f g):=by
 refine⟨?_⟩;refine bZ (yG hc.pe ha.pe hb.pe) fun D σ H=>?_;rintro⟨O₀,H₀,F,ts,O,ρ,T,fl,ρ',T',rs,e,q⟩;obtain⟨b1,T1,e1,e⟩:=aM e;refine⟨O,ts,ρ,T,b1,T1,rs.hc,rs.re,e1,fun H1 s1 hc1=>?_⟩
 cases b1 with
 |true=>exact gF ⟨O₀,H₀,F,ts,O,ρ,T1,fl,ρ',T',rs.step s1 hc1,by simpa using e,q⟩
 |false=>exact ie ⟨O₀,H₀,F,ts,O,ρ,T1,fl,ρ',T',rs.step s1 hc1,by simpa using e,q⟩
theorem aC(he:DE X e fe):DS X (.Return (some e) pos) (az fe):=by
 refine⟨?_⟩;refine bZ (HX (xy he.pe)) fun D σ H=>?_;rintro⟨O₀,H₀,F,ts,O,ρ,T,fl,ρ',T',rs,e,q⟩;obtain⟨w,T1,e1,e⟩:=aM e;refine rs.frzG.imp fun H0 ⟨same,c0,re0⟩=>?_;refine⟨O₀,ts,bT ρ,T,w,T1,c0,re0,e1,fun v H1 s1 hc1 r1=>?_⟩
 cases w with
 |d x=>cases e;exact q v H1 (same.trans s1) hc1 r1
 |tp k=>cases e
 |loc xs=>cases e
theorem k7(he:DE X e fe)(hN:X.N[i]? = some x:=by rfl)(hv:Vis X.env.scope x:=by first|exact Or.inl rfl|exact Or.inr (Or.inl rfl)|exact Or.inr (Or.inr rfl))(hd:(x == ("__debug__" : Str))=false:=by decide)
  (hcd:(x == ("__classdict__" : Str))=false:=by decide) 
  (hbase:attributeBase (.Name x p) "append" X.env (eval (.Name x p) X.env)=eval (.Name x p) X.env:=by rfl)
  (hfew:((backTo cpos (starEach [e] X.env)).all (fun x=>!x.1)&&(backToKw cpos (keywordEach [] X.env)).all (fun x=>x.1.isSome)
   && decide (([e]:List Expr).length+([]:List Keyword).length+(if ([]:List Keyword).isEmpty then 0 else 1)<30))=true:=by exact oY rfl)
  (hline:(apos.endLine == cpos.line)=true:=by rfl) (hse:starEach [e] X.env=(false,eval e X.env)::starEach [] X.env:=by exact bb rfl) (hplain:(backTo cpos (starEach [] X.env)).any (·.1)=false:=by exact bS rfl)
  (hs:swapsWith (.Call (.Attribute (.Name x p) "append" apos) [e] [] cpos) none pos.line X.env=pure false:=by rfl) :
  DS X (.Expr (.Call (.Attribute (.Name x p) "append" apos) [e] [] cpos) pos) (fu i fe):=by
 refine⟨?_⟩;refine bZ (qD (lh PySem.F.plainAttrs_list PySem.F.slot_list_append PySem.F.type_list_append BE (pv i hN hv hd hcd) (cX he.pe dA hse) hbase hfew hline hse hplain) hs) fun D σ H=>?_;rintro⟨O₀,H₀,F,ts,O,ρ,T,fl,ρ',T',rs,e,q⟩;obtain⟨w,T1,e1,e⟩:=aM e;split at e
 .rename_i x0
  split at e
  .rename_i xs h1
   split at e
   .rename_i h2
    cases e;obtain⟨v,k1,a,rfl,k2,k3,vs,k4,k5⟩:=rs.re i _ h1;refine⟨_,k1,.inl ⟨rfl,vs,SqL.of k4⟩,O,ts,ρ,T,_,_,rs.hc,rs.re,e1,fun u H1 s1 hc1 r1=>?_⟩;have rs1:=rs.step s1 hc1;exact⟨a,vs,u,rfl,rfl,s1 _ _ k3 k4,by rw[k5.length];exact h2,q O _ _ (rs1.put (us:=[]) h1 k1 ((k5.mono (rs.hc.le s1)).append (.cons r1 .nil)))⟩
   .cases e
  .cases e
 .cases e
theorem yi(ho:DE X o fo)(hk:DE X k fk)(he:DE X e fe)(ha:∀v,assign (.Subscript o k tpos) X.env v=(do
   let ov ←holding [v] (eval o X.env)
   let iv ←holding [v,ov] (eval k X.env)
   standAt tpos
   holding [v,ov,iv] (setItem ov iv v)
   release [v,ov,iv] []):=by intro _;rfl)
  (hs:swapsWithSole [.Subscript o k tpos] e pos.line X.env=pure false:=by rfl) (hw:swappedStores [.Subscript o k tpos] e X.env=pure none:=by rfl)
  (h1:(assignEach [.Subscript o k tpos] X.env).map (·.2)=[assign (.Subscript o k tpos) X.env]:=by rfl):DS X (.Assign [.Subscript o k tpos] e pos) (lO fo fk fe):=by
 refine⟨?_⟩;refine bZ (rj he.pe (Gi ho.pe hk.pe set_list ha) hs hw h1) fun D σ H=>?_;rintro⟨O₀,H₀,F,ts,O,ρ,T,fl,ρ',T',rs,e,q⟩;obtain⟨w,T1,e1,e⟩:=aM e;obtain⟨wo,T2,e2,e⟩:=aM e;obtain⟨wk,T3,e3,e⟩:=aM e;refine⟨O,ts,ρ,T,w,T1,rs.hc,rs.re,e1,fun v H1 s1 hc1 r1=>?_⟩;have rs1:=rs.step s1 hc1;refine⟨O,ts,ρ,T1,wo,T2,hc1,rs1.re,e2,fun vo H2 s2 hc2 r2=>?_⟩;have rs2:=rs1.step s2 hc2;refine⟨O,ts,ρ,T2,wk,T3,hc2,rs2.re,e3,fun vk H3 s3 hc3 r3=>?_⟩;have rs3:=rs2.step s3 hc3;split at e
 .split at e
  .rename_i xs h1
   split at e
   .cases e
   .rename_i hn
    split at e
    .rename_i j h2
     cases e;obtain⟨a,k1,rfl⟩:=r2;cases (show Rep X.K O H3 vk (.int _) from r3);obtain⟨vs,k2,k3⟩:=(hc3.tape _ a xs k1 h1).lst (by simpa using hn);refine⟨a,vs,_,j,rfl,rfl,k2,by rw[k3.length];exact h2,q O _ _ (rs3.tape k1 (Reps.set ?_ j k3))⟩;exact Rep.mono ((hc1.le s2).trans (hc2.le s3)) r1
    .cases e
  .cases e
 .cases e
end
section
variable {K:Frag}{O₀:Addr->Prop}{H₀:Hp}{F:List ((Addr->Prop)×Hp)}{ts:List Addr}{O:Addr->Prop}{H H1:Hp}{σ:L2.St}{ρ:Rho}{T T1:Tp}
theorem RS.less(r:RS K O₀ H₀ (f::F) ts O H σ ρ T):RS K O₀ H₀ F ts O H σ ρ T:=⟨r.hc,r.re,r.sub,r.ots,r.same,r.fresh,r.dist,fun f hf=>r.frs f (List.mem_cons_of_mem _ hf),r.len⟩
theorem RS.more(r:RS K O₀ H₀ F ts O H σ ρ T):RS K O₀ H₀ ((O,H)::F) ts O H σ ρ T:=⟨r.hc,r.re,r.sub,r.ots,r.same,r.fresh,r.dist,fun f hf=>by
 rcases List.mem_cons.mp hf with z|z
 .subst z;exact fun a o n e=>⟨n,e⟩
 .exact r.frs f z,r.len⟩
end
section
variable {X:Cx}{pos:Pos}{st:Stmt}{rest:List Stmt}{f g:FS}{e:Expr}{fe:FE}{c:FT}
theorem dC(hN:X.N.Nodup)(hi:DI X (.Name x tpos) iter it)(hb:DSs X body f)(hix:X.N[i]? = some x:=by rfl)(hx:Loc X.env.scope x:=by first|exact Or.inl rfl|exact Or.inr rfl)
  (hf:X.fn x=true\/X.env.scope.names.lookup x=some .local:=by first|exact .inl rfl|exact .inr rfl|assumption) (hp:PassesOwn (model X.prog X.w) X.A X.env X.xe:=by exact PassesOwn.never) (hc:X.calm=true:=by rfl)
  (hs:∀x,foldedSetIterable iter X.env x=pure x:=by intro _;rfl):DS X (.For (.Name x tpos) iter body [] pos) (bw i it f):=by
 refine⟨?_⟩;refine bZ (rh hp hc hi.pe (fF hN hix hx hf) hb.pe hs) fun D σ H=>?_;rintro⟨O₀,H₀,F,ts,O,ρ,T,fl,ρ',T',rs,e,q⟩;obtain⟨ds,T1,e1,e⟩:=aM e;refine⟨O,ts,ρ,T,ds,T1,rs.hc,rs.re,e1,fun J H1 s1 hc1 ok hz=>?_⟩;refine⟨fun k m σ H=>m=ds.length-k/\k<=ds.length/\∃O' ρk Tk,RS X.K O₀ H₀ ((O,H1)::F) ts O' H σ ρk Tk/\forL i f (ds.drop k) ρk Tk=some ((fl,ρ'),T'),⟨_,rfl,Nat.zero_le _,O,ρ,T1,(rs.step s1 hc1).more,e⟩,?_⟩;rintro k m σ2 H2 ⟨rfl,hk,O',ρk,Tk,rs2,ek⟩;obtain⟨k1,k2,k3⟩:=ok O' H2 (rs2.frs _ List.mem_cons_self)
 by_cases hlt:k<ds.length
 .refine .inr ⟨k1 k hlt,fun σ3 H3=>∃O' ρk Tk,RS X.K O₀ H₀ ((O,H1)::F) ts O' H3 σ3 ρk Tk/\forL i f (ds.drop (k+1)) ρk Tk=some ((fl,ρ'),T'),fun σ3 H3 n=>⟨ds.length-(k+1),by omega,rfl,hlt,n⟩,fun v H3 y=>?_⟩
  obtain⟨e2,d,hd,rd⟩:=k3 k v H3 y hlt;subst e2
  have hdr:ds.drop k=d::ds.drop (k+1):=by
   rw[List.drop_eq_getElem_cons hlt];have:=(List.getElem?_eq_some_iff.mp hd).2;rw[this]
  rw[hdr] at ek;obtain⟨⟨fl1,ρ1⟩,T3,e3,ek⟩:=aM ek;refine⟨O₀,H₀,(O,H1)::F,ts,O',_,Tk,fl1,ρ1,T3,rs2.set (i:=i) (w:=.d d) rd (fun _ z=>nomatch z),e3,?_⟩
  cases fl1 with
  |nx=>exact fun O3 σ3 H3 rs3=>⟨O3,ρ1,T3,rs3,ek⟩
  |ct=>exact fun O3 σ3 H3 rs3=>⟨O3,ρ1,T3,rs3,ek⟩
  |bk=>
   cases ek;exact fun O3 σ3 H3 rs3=>q O3 σ3 H3 rs3.less
  |rt x=>
   cases ek;exact q
  |ro x=>
   cases ek;exact q
 .have e:k=ds.length:=by omega
  subst e;rw[List.drop_eq_nil_of_le (Nat.le_refl _)] at ek;cases ek;exact .inl ⟨k2,q O' σ2 H2 rs2.less⟩
theorem mH(n:Nat)(hc:DT X ce c)(hb:DSs X body f)(hp:PassesOwn (model X.prog X.w) X.A X.env X.xe:=by exact PassesOwn.never):DS X (.While ce body [] pos) (bP c f n):=by
 refine⟨?_⟩;refine bZ (CA hp hc.pe hb.pe) fun D σ H=>?_;rintro⟨O₀,H₀,F,ts,O,ρ,T,fl,ρ',T',rs,e,q⟩;refine⟨fun m σ H=>∃O' ρm Tm,RS X.K O₀ H₀ F ts O' H σ ρm Tm/\bP c f m ρm Tm=some ((fl,ρ'),T'),⟨n,O,ρ,T,rs,e⟩,?_⟩;rintro m σ2 H2 ⟨O',ρm,Tm,rs2,em⟩
 cases m with
 |zero=>cases em
 |succ m=>
  obtain⟨b,T3,e3,em⟩:=aM em;refine⟨O',ts,ρm,Tm,b,T3,rs2.hc,rs2.re,e3,fun H3 s3 hc3=>?_⟩;have rs3:=rs2.step s3 hc3
  cases b with
  |false=>
   rw[if_neg Bool.false_ne_true] at em;cases em;exact ie (q O' σ2 H3 rs3)
  |true=>
   rw[if_pos rfl] at em;obtain⟨⟨fl1,ρ1⟩,T4,e4,em⟩:=aM em;refine gF ⟨fun σ3 H3=>∃O' ρm Tm,RS X.K O₀ H₀ F ts O' H3 σ3 ρm Tm/\bP c f m ρm Tm=some ((fl,ρ'),T'),fun σ3 H3 n=>⟨m,Nat.lt_succ_self m,n⟩,O₀,H₀,F,ts,O',ρm,T3,fl1,ρ1,T4,rs3,e4,?_⟩
   cases fl1 with
   |nx=>exact fun O3 σ3 H3 rs3=>⟨O3,ρ1,T4,rs3,em⟩
   |ct=>exact fun O3 σ3 H3 rs3=>⟨O3,ρ1,T4,rs3,em⟩
   |bk=>
    cases em;exact fun O3 σ3 H3 rs3=>q O3 σ3 H3 rs3
   |rt x=>
    cases em;exact q
   |ro x=>
    cases em;exact q
end
abbrev FnM:=List W->Tp->Option (PyData×Tp)
def cK:List W->Bool
 |[]=>true
 |.loc _::_=>false
 |_::r=>cK r
def dE(o:Option ((Fl×Rho)×Tp)):Option (PyData×Tp):=bnd o fun p T=>match p with
 |(.rt x,_)=>some (x,T)
 |(.nx,_)=>some (.none,T)
 |_=>none
def aN(N:Nat)(f:FS):FnM:=fun ws T=>if cK ws=true then dE (f (ws.map some++List.replicate (N-ws.length) none) T) else none
inductive SpMP(K:Frag)(n:Nat)(m:FnM)(vs:List V)(H:Hp)(Q:VK):Prop where
 |mk (O:Addr->Prop) (ts:List Addr) (T:Tp) (ws:List W) (x:PyData) (T':Tp) (hc:HC K O ts H T) (r:fg K O ts H vs ws) (hl:ws.length=n) (e:m ws T=some (x,T')) (q:∀v H',SameX ts H H'->HC K O ts H' T'->Rep K O H' v x->Q v H'):SpMP K n m vs H Q
def spM(K:Frag)(n:Nat)(m:FnM):Sp:=fun vs H Q _=>SpMP K n m vs H Q
theorem l9{K:Frag}{O:Addr->Prop}{ts:List Addr}{H:Hp}:∀{vs:List V}{ws:List W}{i:Nat}{w:W},fg K O ts H vs ws->ws[i]? = some w->∃v,vs[i]? = some v/\RepW K O ts H v w
 |_,_,_,_,.nil,e=>by simp at e
 |_,_,0,_,.cons r _,e=>by simp at e;subst e;exact⟨_,rfl,r⟩
 |_,_,i+1,w,.cons _ t,e=>by
  obtain⟨d,h1,h2⟩:=l9 (i:=i) (w:=w) t (by simpa using e);exact⟨d,by simpa using h1,h2⟩
theorem ku:∀{ws:List W}{xs:PyData},cK ws=true->W.loc xs∉ws
 |[],_,_,h=>by cases h
 |.loc _::_,_,e,_=>by cases e
 |.d _::r,_,e,h=>by
  rcases List.mem_cons.mp h with z|z
  .cases z
  .exact ku (ws:=r) e z
 |.tp _::r,_,e,h=>by
  rcases List.mem_cons.mp h with z|z
  .cases z
  .exact ku (ws:=r) e z
theorem jl{ws:List W}{n i:Nat}{w:W}(e:(ws.map some++List.replicate n none)[i]? = some (some w)):ws[i]? = some w:=by
 by_cases h:i<ws.length
 .rw[List.getElem?_append_left (by simpa using h),List.getElem?_map] at e
  cases q:ws[i]? with
  |none=>rw[q] at e;cases e
  |some u=>rw[q] at e;cases e;rfl
 .rw[List.getElem?_append_right (by simpa using h)] at e
  have:=List.mem_of_getElem? e;rw[List.mem_replicate] at this;cases this.2
theorem dfn{P:Program}{w:World}{K:Frag}{mg:Str->Option Value}{base:Heap}{x qual:Str}{st:Stmt}{f:Addr}{fd:FuncData}{N ps:List Str}{k:Nat}{m:FS}(F:Fun K x qual st f fd)(S:FnScope N ps (a9 st))
  (hbody:∀(cdv:Value) (A:Around) (outer:List Env) (s:Shared) (H:Hp) (E:XK),Room k (A.deeper (envOfC qual (a9 st) s.heap.objs.size f cdv))->DSs (cF CX0 P w K mg base N qual (a9 st) f cdv A outer s H E).nox (bY st) m) :
  FnOk P w K mg base CX0 (k+1) f fd ps (spM K ps.length (aN N.length m)):=by
 refine F.ok S (fun vs H Q E h=>?_) (fun cdv A outer s H vs Q E hr h=>⟨_,(hbody cdv A outer s H E hr).pe,?_⟩)
 .obtain⟨O,ts,T,ws,x,T',hc,rw',hl,_⟩:=h
  rw[←hl];exact Paired.length rw'
 obtain⟨O,ts,T,ws,x,T',hc,rw',hl,e,q⟩:=h;unfold aN at e;split at e
 .rename_i hn
  obtain⟨⟨fl,ρ'⟩,T1,e1,e⟩:=aM e;have hlen:vs.length=ws.length:=Paired.length rw';have noL:∀{i:Nat}{xs:PyData},(ws.map some++List.replicate (N.length-ws.length) none)[i]? = some (some (W.loc xs))->False:=fun {i xs} e=>ku hn (List.mem_of_getElem? (jl e));refine⟨O,H,[],ts,O,_,T,fl,ρ',T1,⟨hc,fun i u e=>?_,fun _ h=>h,hc.own,.refl _ _,fun i xs a e1 _=>(noL e1).elim,fun i j xs ys v e1 _ _ _=>(noL e1).elim,fun f hf=>absurd hf (by simp),by simp[L2.start,hlen]⟩,e1,?_⟩
  .obtain⟨v,h1,h2⟩:=l9 rw' (jl e)
   refine⟨v,?_,h2⟩;unfold L2.start;have hi:i<vs.length:=(List.getElem?_eq_some_iff.mp h1).1;rw[List.getElem?_append_left (by simpa using hi),List.getElem?_map,h1];rfl
  .cases fl with
   |rt y=>cases e;exact fun v H' s1 c1 r1=>q v H' s1 c1 r1
   |nx=>
    cases e;exact fun O' σ' H' rs=>q _ _ rs.same rs.frzH .non
   |bk=>cases e
   |ct=>cases e
   |ro y=>cases e
 .cases e
def ar(m:FnM)(g:FA):FE:=fun ρ T=>bnd (g ρ T) fun ws T1=>bnd (m ws T1) fun x T2=>some (.d x,T2)
def fY(g:FA)(n:Nat):Prop:=∀ρ T ws T',g ρ T=some (ws,T')->ws.length=n
theorem bX:fY ah 0:=fun ρ T ws T' e=>by cases e;rfl
theorem a7(h:fY g n):fY (ae f g) (n+1):=fun ρ T ws T' e=>by
 obtain⟨w1,T1,e1,e⟩:=aM e;obtain⟨ws,T2,e2,e⟩:=aM e;cases e;rw[List.length_cons,h _ _ _ _ e2]
theorem kU(F:Fn X.prog X.w X.K X.mg X.base name ps k (spM X.K ps.length m))(hr:Room k X.A)(hg:Gl X name)(ha:DA X (e::es) g)(hl:fY g ps.length)(hdb:(name == ("__debug__" : Str))=false:=by decide)
  (he:starEach (e::es) X.env=(false,eval e X.env)::starEach es X.env:=by exact bb rfl) (hpl:(backTo pos (starEach es X.env)).any (·.1)=false:=by exact bS rfl):DE X (.Call (.Name name p) (e::es) [] pos) (ar m g):=by
 refine⟨?_⟩;refine bu (lc F hr hg ha.pe hdb he hpl) fun σ H Q=>?_;rintro⟨O,ts,ρ,T,w,T',hc,re,e,q⟩;obtain⟨ws,T1,e1,e⟩:=aM e;obtain⟨x,T2,e2,e⟩:=aM e;cases e;refine⟨O,ts,ρ,T,ws,T1,hc,re,e1,fun vs H1 s1 hc1 r1=>?_⟩;refine⟨O,ts,T1,ws,x,_,hc1,by rw[List.append_nil];exact r1,hl _ _ _ _ e1,e2,fun v H2 s2 hc2 r2=>q v H2 (s1.trans s2) hc2 r2⟩
noncomputable def iop(g:Int->Int->Option PyData):PyData->PyData->Option PyData
 |.int i,.int j=>g i j
 |_,_=>none
def fh:PyData->PyData->Option PyData:=iop fun i j=>some (.int (i-j))
def gD:PyData->PyData->Option PyData:=iop fun i j=>if 0<j then some (.int (i % j)) else none
def IU:PyData->PyData->Option PyData:=iop fun i j=>if 0<j/\j<1073741824 then some (.int (i / j)) else none
def fj:PyData->PyData->Option PyData:=iop fun i j=>if 0<=j/\j<=1000000/\i.natAbs<2^64 then some (.int (i^j.toNat)) else none
def ltD:PyData->PyData->Option PyData:=iop fun i j=>some (.bool (decide (i<j)))
def leD:PyData->PyData->Option PyData:=iop fun i j=>some (.bool (decide (i<=j)))
def gtD:PyData->PyData->Option PyData:=iop fun i j=>some (.bool (decide (j<i)))
def geD:PyData->PyData->Option PyData:=iop fun i j=>some (.bool (decide (j<=i)))
theorem x6(e:iop g x y=some d):∃i j,x=.int i/\y=.int j/\g i j=some d:=by
 unfold iop at e;split at e
 .exact⟨_,_,rfl,rfl,e⟩
 .cases e
theorem q8{K:Frag}{C:Int->Int->Prop}{g:Int->Int->V}{gd:Int->Int->Option PyData}(h:∀i j d,gd i j=some d->C i j/\∀O H,Rep K O H (g i j) d):ip K (rI C g) (iop gd):=fun O ts H T v1 v2 x y d Q hc h1 h2 e q=>by
 obtain⟨i,j,rfl,rfl,e⟩:=x6 e;obtain⟨c,r⟩:=h i j d e;exact⟨i,j,h1.int,h2.int,c,q _ H (.refl _ _) hc (r O H)⟩
theorem kM{K:Frag}{g:Int->Int->V}{gd:Int->Int->Option PyData}(h:∀i j d,gd i j=some d->∀O H,Rep K O H (g i j) d):ip K (rI0 g) (iop gd):=fun O ts H T v1 v2 x y d Q hc h1 h2 e q=>by
 obtain⟨i,j,rfl,rfl,e⟩:=x6 e;exact⟨i,j,h1.int,h2.int,q _ H (.refl _ _) hc (h i j d e O H)⟩
section
variable {X:Cx}
theorem iY:OpD X (binaryOp .Sub) fh:=⟨_,Gs,kM fun i j d e O H=>by cases e;exact .int _⟩
theorem iZ:OpD X (binaryOp .Mod) gD:=⟨_,Gw,q8 fun i j d e=>by
 split at e
 .rename_i h;cases e;exact⟨h,fun _ _=>.int _⟩
 .cases e⟩
theorem jK:OpD X (binaryOp .Pow) fj:=⟨_,Gu,q8 fun i j d e=>by
 split at e
 .rename_i h;cases e;exact⟨h,fun _ _=>.int _⟩
 .cases e⟩
theorem dH:OpD X (compareOp .Lt) ltD:=⟨_,Ih,kM fun i j d e O H=>by cases e;exact .bl _⟩
theorem dS:OpD X (compareOp .LtE) leD:=⟨_,Ii,kM fun i j d e O H=>by cases e;exact .bl _⟩
theorem ic:OpD X (compareOp .Gt) gtD:=⟨_,Ij,kM fun i j d e O H=>by cases e;exact .bl _⟩
theorem Jv:OpD X (compareOp .GtE) geD:=⟨_,Ik,kM fun i j d e O H=>by cases e;exact .bl _⟩
def aS:PyData->PyData->Option PyData
 |.int i,.int j=>some (.int (i+j))
 |.str x,.str y=>if x.length+y.length<=sizeLine then some (.str (x++y)) else none
 |.tuple xs,.tuple ys=>if xs.length+ys.length<=sizeLine then some (.tuple (xs++ys)) else none
 |.list xs,.list ys=>if xs.length+ys.length<=sizeLine then some (.list (xs++ys)) else none
 |_,_=>none
def HV(K:Frag):R2:=fun x y H Q=>∃l b xs zs,x=.ref l/\y=.ref b/\SqL K H l xs/\SqL K H b zs/\xs.length+zs.length<=sizeLine/\∀p,H p=none->Q (.ref p) (upd H p (.lst (xs++zs)))
theorem v4:OpR X (binaryOp .Add) (HV X.K):=by
 intro pins s σ H x y v u Q I rx ry h;obtain⟨l,b,xs,zs,rfl,rfl,hH,hB,hz,q⟩:=h;cases rx;cases ry;obtain⟨its,r,p1,_⟩:=I.list hH;obtain⟨its2,r2,p2,_⟩:=I.list hB;have hl:=r.length;have hl2:=r2.length;obtain⟨⟨cls,dd,data,sl⟩,ho,hc,n,hd⟩:=id p1.isList;obtain⟨⟨cls2,dd2,data2,sl2⟩,ho2,hc2,n2,hd2⟩:=id p2.isList;simp only at hc hd hc2 hd2;subst hc hd hc2 hd2
 have ea:its.toArray++its2.toArray=(its++its2).toArray:=by simp
 refine concat_meets ⟨_,ho,rfl⟩ ⟨_,ho2,rfl⟩ noFill_list_add seq_list_add PySem.F.slot_list_add PySem.F.entry_list_add (PySem.F.args_list_add_2 _ _) (list_addW l b its.toArray its2.toArray n n2 dd dd2 sl sl2 (by rw[List.size_toArray,List.size_toArray];omega)) ⟨ho,ho2,?_⟩;rw[ea];exact⟨.ref _,_,I.lnew (t':=s.toks) (r.append r2) (by rw[List.length_append];omega),rfl,q _ I.fresh⟩
theorem bj:OpD X (binaryOp .Add) aS:=by
 refine⟨_,op_add.or (op_add_str.or (op_catG.or v4)),fun O ts H T v1 v2 x y d Q hc h1 h2 e q=>?_⟩;unfold aS at e;split at e
 .cases e
  exact .inl ⟨_,_,h1.int,h2.int,q _ H (.refl _ _) hc (.int _)⟩
 .split at e
  .rename_i hz
   cases e;exact .inr (.inl ⟨_,_,h1.str,h2.str,hz,q _ H (.refl _ _) hc (.str _)⟩)
  .cases e
 .split at e
  .rename_i xs ys hz
   cases e;obtain⟨a,vs,rfl,t1,r1⟩:=h1.tup;obtain⟨b,us,rfl,t2,r2⟩:=h2.tup;refine .inr (.inr (.inl ⟨a,b,vs,us,rfl,rfl,t1.sq,t2.sq,by rw[r1.length,r2.length];exact hz,fun z=>?_,fun _ z=>?_,fun _ _ p hp=>?_⟩))
   .subst z
    cases r1;exact q _ H (.refl _ _) hc (.tup t2 r2)
   .subst z
    cases r2;rw[List.append_nil] at q;exact q _ H (.refl _ _) hc (.tup t1 r1)
   .exact q _ _ (.new hp _) (hc.new hp _) (hc.newT hp (r1.append r2))
  .cases e
 .split at e
  .rename_i xs ys hz
   cases e;obtain⟨a,vs,rfl,t1,r1⟩:=h1.lst;obtain⟨b,us,rfl,t2,r2⟩:=h2.lst;exact .inr (.inr (.inr ⟨a,b,vs,us,rfl,rfl,t1,t2,by rw[r1.length,r2.length];exact hz,fun p hp=>q _ _ (.new hp _) (hc.new hp _) (hc.newL hp (r1.append r2))⟩))
  .cases e
 .cases e
theorem zY:fillsNumberSlot (.type "tuple") "mul"=pure false:=PySem.fillsNumberSlot_seq (id:="tuple.__mul__") (r:=some (.builtin "tuple.__rmul__")) PySem.F.slot_tuple_mul.lookup (by decide +kernel) PySem.F.slot_tuple_rmul.lookup (by decide +kernel)
theorem Au:seqRepeat? (.type "tuple")=pure (some (.builtin "tuple.__mul__")):=by
 unfold seqRepeat?;rw[PySem.seqSlot_of (T:="tuple") (name:="__mul__") (id:="tuple.__mul__") PySem.F.slot_tuple_mul.lookup (by decide +kernel),PySem.seqSlot_of (T:="tuple") (name:="__rmul__") (id:="tuple.__rmul__") PySem.F.slot_tuple_rmul.lookup (by decide +kernel)];rfl
theorem Aa(a:Int)(t:Tok)(l:Addr)(items:Array Value)(n:Nat)(dd:Option Addr)(sl:Array (Option Value)) :
  Meets (Builtin.«int.__rmul__» ⟨[.int a t,.ref l],[]⟩) (fun _ R s=>s.heap.get? l=some { cls:=.type "tuple",dict:=dd,data:=.seq items n,slots:=sl }/\R (.ok (.ret Value.notImplemented)) s):=.of_wp fun prog w A R s h=>by obtain⟨hp,g,d,tk,os⟩:=s;obtain⟨hl,h⟩:=h;wp_walk;exact⟨_,rfl,h⟩
theorem A0(l:Addr)(items:Array Value)(n:Nat)(dd:Option Addr)(sl:Array (Option Value))(k:Int)(t:Tok)(h1:2<=k)(h2:k<=1000)(h3:items.isEmpty=false)(h4:items.size<=1000) :
  Meets (Builtin.«tuple.__mul__» ⟨[.ref l,.int k t],[]⟩) (fun _ R s=>s.heap.get? l=some { cls:=.type "tuple",dict:=dd,data:=.seq items n,slots:=sl }/\R (.ok (.ret (Value.ref s.heap.objs.size))) { s with heap:=s.heap.push { cls:=Value.type "tuple",data:=Data.seq (List.foldl (fun x1 x2=>x1++x2) #[] (List.replicate k.toNat items)) },toks:=s.toks }):=
 .of_wp fun prog w A R s h=>by
  obtain⟨hp,g,d,tk,os⟩:=s;obtain⟨hl,h⟩:=h
  have hc0:¬(decide (k < -(2^63))||decide (k>=2^63))=true:=by simp;omega
  have hc1:¬(items.isEmpty||k == 1)=true:=by rw[h3];simp;omega
  have hc2:¬(decide (k<=0)||items.isEmpty)=true:=by rw[h3];simp;omega
  have hm:items.size*k.toNat<=1000*1000:=Nat.mul_le_mul h4 (by omega)
  have hm':(items.size:Int)*k<=1000000:=by
   have e:((items.size*k.toNat:Nat):Int)=(items.size:Int)*k:=by rw[Int.natCast_mul,Int.toNat_of_nonneg (by omega)]
   omega
  have hc3:¬(items.size:Int)*k>(2^63-1) / 8:=by
   have:(1000000:Int)<=(2^63-1) / 8:=by decide
   omega
  have hc4:¬Builtin.Tuple.tupleTooMany ((items.size:Int)*k)=true:=by
   unfold Builtin.Tuple.tupleTooMany
   have:sizeLine=16777216:=by decide
   simp;omega
  have ht:IsTup hp l items:=⟨_,hl,rfl,n,rfl⟩;wp_walk;rw[if_neg hc0];dsimp only;refine wpAny_bind (tupleItemsOf_ ht ?_);rw[if_neg hc1,if_neg hc2,if_neg hc3,if_neg hc4]
  have fit:sizeOk (.seq (List.foldl (fun x1 x2=>x1++x2) #[] (List.replicate k.toNat items))):=by
   show (List.foldl (fun x1 x2=>x1++x2) #[] (List.replicate k.toNat items)).size<=sizeLine;have q:=foldl_rep items.toList k.toNat [];rw[List.nil_append] at q
   have q':List.foldl (fun x1 x2=>x1++x2) #[] (List.replicate k.toNat items)=(List.replicate k.toNat items.toList).flatten.toArray:=by simpa using q
   rw[q',List.size_toArray,len_rep]
   have:sizeLine=16777216:=by decide
   rw[Array.length_toList,Nat.mul_comm];omega
  first
  |exact wpAny_bind (m:=Builtin.Tuple.tupleExact _) (wpAny_newObj_type (wpAny_pure ⟨_,rfl,h⟩) fit)
  |exact wpAny_bind (m:=Builtin.Tuple.tupleExact _) (wpAny_newObj_type (wpAny_bind (wpAny_pure (wpAny_pure ⟨_,rfl,h⟩))) fit)
theorem Er:OpR X (binaryOp .Mult) (fun x y H Q=>∃a k xs,x=.ref a/\y=.int k/\SqT X.K H a xs/\2<=k/\k<=1000/\xs≠[]/\xs.length<=1000/\∀p,H p=none->Q (.ref p) (upd H p (.tup (List.replicate k.toNat xs).flatten))):=by
 intro pins s σ H x y v u Q I rx ry h;obtain⟨a,k,xs,rfl,rfl,hq,h1,h2,h3,h4,q⟩:=h;cases rx;obtain⟨t,rfl⟩:=ry;obtain⟨its,r,p1,_⟩:=I.tuple hq;have hl:=r.length;have hv:its≠[]:=fun z=>h3 (r.nil_iff.mp z);obtain⟨⟨cls,dd,data,sl⟩,ho,hc,n,hd⟩:=id p1;simp only at hc hd;subst hc hd
 have hnew:List.foldl (fun x1 x2=>x1++x2) #[] (List.replicate k.toNat its.toArray)=(List.replicate k.toNat its).flatten.toArray:=by
  have q:=foldl_rep its k.toNat [];rw[List.nil_append] at q;exact q
 have he:its.toArray.isEmpty=false:=by
  cases its with
  |nil=>exact absurd rfl hv
  |cons _ _=>simp
 refine wpAny_binaryOp_repeat_ref (T:="tuple") (U:="int") (by decide) ⟨_,ho,rfl⟩ (fun s'=>typeIs_int s' k t) zY F.fills_int_mul F.slot_int_rmul Au F.slot_int_index.lookup
  (call_meets F.slot_int_rmul (typeIs_int s k t) F.entry_int_rmul (F.args_int_rmul_2 _ _) (Aa k t a its.toArray n dd sl)
   ⟨ho,rfl,⟨_,ho,rfl⟩,call_meets PySem.F.slot_tuple_mul ⟨_,ho,rfl⟩ PySem.F.entry_tuple_mul (PySem.F.args_tuple_mul_2 _ _) (A0 a its.toArray n dd sl k t h1 h2 he (by rw[List.size_toArray];omega)) ⟨ho,?_⟩⟩)
 rw[hnew];refine⟨.ref s.heap.objs.size,_,I.laid (t':=s.toks) (o:=.tup (List.replicate k.toNat xs).flatten) (fun b ob q=>Heap.get?_push_of_some _ q) (Nat.le_refl _) ?_,rfl,q _ (I.hok.fresh (Nat.le_refl _))⟩;refine⟨?_,_,r.rep k.toNat,IsTup.new _ _⟩;rw[len_rep];have:k.toNat*xs.length<=1000*1000:=Nat.mul_le_mul (by omega) h4
 have:sizeLine=16777216:=by decide
 omega
def eA:PyData->PyData->Option PyData
 |.int i,.int j=>if (-(2^64)<i/\i<2^64)\/(-(2^64)<j/\j<2^64) then some (.int (i*j)) else none
 |.str z,.int k=>if 0<=k/\k<=2000/\z.length<=1000 then some (.str (Txt.mul z k)) else none
 |.tuple xs,.int k=>if 2<=k/\k<=1000/\xs.isEmpty=false/\xs.length<=1000 then some (.tuple (List.replicate k.toNat xs).flatten) else none
 |_,_=>none
theorem jM:OpD X (binaryOp .Mult) eA:=by
 refine⟨_,op_mul.or (op_mulS.or Er),fun O ts H T v1 v2 x y d Q hc h1 h2 e q=>?_⟩;unfold eA at e;split at e
 .split at e
  .rename_i hz
   cases e;exact .inl ⟨_,_,h1.int,h2.int,hz,q _ H (.refl _ _) hc (.int _)⟩
  .cases e
 .split at e
  .rename_i hz
   cases e;exact .inr (.inl ⟨_,_,h1.str,h2.int,hz.1,hz.2.1,hz.2.2,q _ H (.refl _ _) hc (.str _)⟩)
  .cases e
 .split at e
  .rename_i xs k hz
   cases e;obtain⟨a,vs,rfl,t1,r1⟩:=h1.tup;exact .inr (.inr ⟨a,_,vs,rfl,h2.int,t1.sq,hz.1,hz.2.1,fun z=>by subst z;cases r1;exact absurd hz.2.2.1 (by simp),by rw[r1.length];exact hz.2.2.2,fun p hp=>q _ _ (.new hp _) (hc.new hp _) (hc.newT hp (r1.rep _))⟩)
  .cases e
 .cases e
def eqS:PyData->PyData->Option Bool
 |.int i,.int j=>some (decide (i=j))
 |.str x,.str y=>some (decide (x=y))
 |.bool a,.bool b=>some (decide (a=b))
 |.none,.none=>some true
 |.none,.int _=>some false | .int _,.none=>some false | .none,.bool _=>some false | .bool _,.none=>some false | .none,.str _=>some false | .str _,.none=>some false
 |.int _,.str _=>some false | .str _,.int _=>some false | .bool _,.str _=>some false | .str _,.bool _=>some false
 |_,_=>none
theorem yh{K:Frag}{O:Addr->Prop}{H:Hp}{v1 v2:V}{x y:PyData}{b:Bool}(h1:Vw K O H v1 x)(h2:Vw K O H v2 y)(e:eqS x y=some b):sv v1 v2=true/\decide (v1=v2)=b:=by
 unfold eqS at e;split at e
 all_goals first|(cases e;done)|skip
 .cases h1.int;cases h2.int;cases e;exact⟨rfl,by simp⟩
 .cases h1.str;cases h2.str;cases e;exact⟨rfl,by simp⟩
 .cases h1.bl;cases h2.bl;cases e;exact⟨rfl,by simp⟩
 .cases h1.non;cases h2.non;cases e;exact⟨rfl,by simp⟩
 .cases h1.non;cases h2.int;cases e;exact⟨rfl,by simp⟩
 .cases h1.int;cases h2.non;cases e;exact⟨rfl,by simp⟩
 .cases h1.non;cases h2.bl;cases e;exact⟨rfl,by simp⟩
 .cases h1.bl;cases h2.non;cases e;exact⟨rfl,by simp⟩
 .cases h1.non;cases h2.str;cases e;exact⟨rfl,by simp⟩
 .cases h1.str;cases h2.non;cases e;exact⟨rfl,by simp⟩
 .cases h1.int;cases h2.str;cases e;exact⟨rfl,by simp⟩
 .cases h1.str;cases h2.int;cases e;exact⟨rfl,by simp⟩
 .cases h1.bl;cases h2.str;cases e;exact⟨rfl,by simp⟩
 .cases h1.str;cases h2.bl;cases e;exact⟨rfl,by simp⟩
def eqD(x y:PyData):Option PyData:=(eqS x y).map .bool
def neD(x y:PyData):Option PyData:=(eqS x y).map fun b=>.bool (!b)
theorem aU:OpD X (compareOp .Eq) eqD:=⟨_,Il,fun O ts H T v1 v2 x y d Q hc h1 h2 e q=>by
 unfold eqD at e;obtain⟨b,e1,rfl⟩:=Option.map_eq_some_iff.mp e;obtain⟨k1,k2⟩:=yh h1 h2 e1
 exact⟨k1,by rw[k2];exact q _ H (.refl _ _) hc (.bl _)⟩⟩
theorem ia:OpD X (compareOp .NotEq) neD:=⟨_,Ig,fun O ts H T v1 v2 x y d Q hc h1 h2 e q=>by
 unfold neD at e;obtain⟨b,e1,rfl⟩:=Option.map_eq_some_iff.mp e;obtain⟨k1,k2⟩:=yh h1 h2 e1
 exact⟨k1,by rw[k2];exact q _ H (.refl _ _) hc (.bl _)⟩⟩
def isNone:PyData->Bool
 |.none=>true
 |_=>false
theorem uv{K:Frag}{O:Addr->Prop}{H:Hp}{v:V}{x:PyData}(h:Vw K O H v x):decide (v=.non)=isNone x:=by
 cases h with
 |rep h=>cases h <;> rfl
 |raw _ _=>rfl
 |rawD _ _=>rfl
def isD:PyData->PyData->Option PyData
 |x,.none=>some (.bool (isNone x))
 |_,_=>none
theorem sA:OpD X (compareOp .Is) isD:=⟨_,Gx,fun O ts H T v1 v2 x y d Q hc h1 h2 e q=>by
 unfold isD at e;split at e
 .cases e
  exact⟨h2.non,by rw[uv h1];exact q _ H (.refl _ _) hc (.bl _)⟩
 .cases e⟩
def eP:PyData->PyData->Option PyData
 |x,.none=>some (.bool (!isNone x))
 |.bool a,.bool b=>some (.bool (a != b))
 |_,_=>none
theorem v5:OpD X (compareOp .IsNot) eP:=⟨_,op_notN.or By,fun O ts H T v1 v2 x y d Q hc h1 h2 e q=>by
 unfold eP at e;split at e
 .cases e
  exact .inl ⟨h2.non,by rw[uv h1];exact q _ H (.refl _ _) hc (.bl _)⟩
 .cases e
  exact .inr ⟨_,_,h1.bl,h2.bl,q _ H (.refl _ _) hc (.bl _)⟩
 .cases e⟩
def cz:PyData->Bool
 |.none=>true | .bool _=>true | .int _=>true | .str _=>true
 |_=>false
def eqF:PyData->PyData->Bool
 |.none,.none=>true
 |.bool a,.bool b=>a == b
 |.bool a,.int b=>(if a then 1 else 0) == b
 |.int a,.bool b=>a == (if b then 1 else 0)
 |.int a,.int b=>a == b
 |.str a,.str b=>a == b
 |_,_=>false
def jX(y x:Str):Bool:=!(Builtin.Str.occurrences y x 0 y.length 1).isEmpty
def inS:PyData->PyData->Option Bool
 |.str x,.str y=>some (jX y x)
 |x,.list ys=>if cz x&&ys.all cz then some (ys.any fun y=>eqF y x) else none
 |x,.tuple ys=>if cz x&&ys.all cz then some (ys.any fun y=>eqF y x) else none
 |_,_=>none
theorem qK{K:Frag}{O:Addr->Prop}{H:Hp}{v:V}{x:PyData}(h:Rep K O H v x)(e:cz x=true):fO v=true:=by cases h <;> first|rfl|cases e
theorem Hg{K:Frag}{O:Addr->Prop}{H:Hp}{v u:V}{x y:PyData}(h:Rep K O H v x)(g:Rep K O H u y)(ex:cz x=true)(ey:cz y=true):eqV v u=eqF x y:=by cases h <;> cases g <;> first|rfl|cases ex|cases ey
theorem ql{K:Frag}{O:Addr->Prop}{H:Hp}:∀{vs:List V}{xs:List PyData},Reps K O H vs xs->xs.all cz=true->vs.all fO=true
 |_,_,.nil,_=>rfl
 |_,_,.cons r t,e=>by
  rw[List.all_cons,Bool.and_eq_true] at e;rw[List.all_cons,qK r e.1,ql t e.2];rfl
theorem qV{K:Frag}{O:Addr->Prop}{H:Hp}{v:V}{x:PyData}(h:Rep K O H v x)(ex:cz x=true):∀{vs:List V}{xs:List PyData},Reps K O H vs xs->xs.all cz=true->(vs.any fun y=>eqV y v)=xs.any fun y=>eqF y x
 |_,_,.nil,_=>rfl
 |_,_,.cons r t,e=>by
  rw[List.all_cons,Bool.and_eq_true] at e;rw[List.any_cons,List.any_cons,Hg r h e.1 ex,qV h ex t e.2]
theorem Vw.flat{K:Frag}{O:Addr->Prop}{H:Hp}{v:V}{x:PyData}(h:Vw K O H v x)(e:cz x=true):Rep K O H v x:=by
 cases h with
 |rep h=>exact h
 |raw _ _=>cases e
 |rawD _ _=>cases e
def inD(x y:PyData):Option PyData:=(inS x y).map .bool
def fJ(x y:PyData):Option PyData:=(inS x y).map fun b=>.bool (!b)
theorem nu{K:Frag}(neg:Bool):ip K (fun x y H Q=>(∃i j,x=.str i/\y=.str j/\Q (.bl (if neg then !(jX j i) else jX j i)) H)\/rIn K neg x y H Q) (fun x y=>(inS x y).map fun b=>.bool (if neg then !b else b)):=fun O ts H T v1 v2 x y d Q hc h1 h2 e q=>by
 obtain⟨b,e1,rfl⟩:=Option.map_eq_some_iff.mp e;unfold inS at e1;split at e1
 .cases e1
  exact .inl ⟨_,_,h1.str,h2.str,q _ H (.refl _ _) hc (.bl _)⟩
 .split at e1
  .rename_i hf
   cases e1;rw[Bool.and_eq_true] at hf;obtain⟨a,vs,rfl,t,r⟩:=h2.lst;have r1:=h1.flat hf.1;refine .inr ⟨a,vs,rfl,.inl t,qK r1 hf.1,ql r hf.2,?_⟩;have z:inV v1 vs=_:=qV r1 hf.1 r hf.2;rw[z];exact q _ H (.refl _ _) hc (.bl _)
  .cases e1
 .split at e1
  .rename_i hf
   cases e1;rw[Bool.and_eq_true] at hf;obtain⟨a,vs,rfl,t,r⟩:=h2.tup;have r1:=h1.flat hf.1;refine .inr ⟨a,vs,rfl,.inr t.sq,qK r1 hf.1,ql r hf.2,?_⟩;have z:inV v1 vs=_:=qV r1 hf.1 r hf.2;rw[z];exact q _ H (.refl _ _) hc (.bl _)
  .cases e1
 .cases e1
theorem jV:OpD X (compareOp .In) inD:=⟨_,op_in_str.or ur,nu false⟩
theorem Eu:OpD X (compareOp .NotIn) fJ:=⟨_,op_notin_str.or sU,nu true⟩
def fW:PyData->Option PyData
 |.int i=>some (.int (-i))
 |_=>none
theorem rK(ha:DE X a fa):DE X (.UnaryOp .USub a pos) (fUn fW fa):=I0 FR (fun O ts H T v x d Q hc h e q=>by
 unfold fW at e;split at e
 .cases e
  exact⟨_,h.int,q _ H (.refl _ _) hc (.int _)⟩
 .cases e) ha
def ixD:PyData->PyData->Option PyData
 |.list xs,.int i=>atI xs i
 |.tuple xs,.int i=>atI xs i
 |.str z,.int i=>if z.length<=sizeLine then (atI z.cps.toList i).map fun c=>.str ⟨#[c]⟩ else none
 |_,_=>none
theorem vQ{K:Frag}{O:Addr->Prop}{H:Hp}{vs:List V}{xs:List PyData}{i:Int}{d:PyData}(r:Reps K O H vs xs)(e:atI xs i=some d):∃v,atI vs i=some v/\Rep K O H v d:=by
 unfold atI at e ⊢;rw[r.length]
 cases h:ixN xs.length i with
 |none=>rw[h] at e;cases e
 |some j=>
  rw[h] at e;exact r.getD e
theorem aq:IxD X ixD:=⟨_,GS,fun O ts H T v1 v2 x y d Q hc h1 h2 e q=>by
 unfold ixD at e;split at e
 .obtain⟨a,vs,rfl,t,r⟩:=h1.lst
  obtain⟨v,k1,k2⟩:=vQ r e;exact .inl ⟨a,vs,_,v,rfl,h2.int,t,k1,q _ H (.refl _ _) hc k2⟩
 .obtain⟨a,vs,rfl,t,r⟩:=h1.tup
  obtain⟨v,k1,k2⟩:=vQ r e;exact .inr (.inl ⟨a,vs,_,v,rfl,h2.int,t.sq,k1,q _ H (.refl _ _) hc k2⟩)
 .split at e
  .rename_i hz
   obtain⟨c,k1,rfl⟩:=Option.map_eq_some_iff.mp e;exact .inr (.inr ⟨_,_,c,h1.str,h2.int,hz,k1,q _ H (.refl _ _) hc (.str _)⟩)
  .cases e
 .cases e⟩
end
theorem zV{prog:Program}{w:World}{A:Around}{E:Value->Shared->Prop}{s:Shared}{t sl:Addr}{items:Array Value}{vl vu:Value}{lo hi:Option Int}{Q:Value->Shared->Prop}(ht:IsTup s.heap t items)(hs:s.heap.IsSliceOf sl vl vu .none)(pl:IsPart vl lo)(pu:IsPart vu hi)
  (hw:HT.sIx items.size 0 lo=0/\HT.sIx items.size items.size hi=items.size) (h:Q (.ref t) s):wpAny (model prog w) A (getItem (.ref t) (.ref sl)) Q E s:=by
 obtain⟨os,hos,hcs,hds⟩:=id hs;have hTs:s.TypeIs (.ref sl) "slice":=⟨os,hos,hcs⟩;unfold getItem
 try with_reducible refine wpAny_holding ?_
 first|refine wpAny_bind (wpAny_pure ?_)|skip
 refine wpAny_bind (wpAny_sequenceKey ht.typeIs (by decide) ?_)
 refine wpAny_bind (wpAny_callSpecial?_slot (name:=Str.ofString "__getitem__") ht.typeIs PyProof.Rows.slot_tuple_getitem
  (wpAny_call_entry PyProof.Rows.slot_tuple_getitem ht.typeIs entry_tuple_getitem ?_ (args_tuple_getitem _ _)))
 show wpAny _ _ (Builtin.Tuple.tupleItemsOf (.ref t) >>= _) _ _ s;refine wpAny_bind (tupleItemsOf_ ht ?_);refine wpAny_bind (wpAny_typeOf hTs ?_);rw[if_pos (by decide)];refine wpAny_bind (HT.sO hs pl pu ?_)
 have hyes:((((HT.sIx items.size 0 lo:Nat):Int) == 0&&(1:Int) == 1&&(HT.sIx items.size items.size hi-HT.sIx items.size 0 lo) == items.size)=true):=by
  rw[hw.1,hw.2];simp
 show wpAny _ _ (if (((HT.sIx items.size 0 lo:Nat):Int) == 0&&(1:Int) == 1&&(HT.sIx items.size items.size hi-HT.sIx items.size 0 lo) == items.size)=true then _ else _) _ _ s;rw[if_pos hyes];refine wpAny_bind (m:=Builtin.Tuple.tupleIsExact (.ref t)) (wpAny_bind (wpAny_typeOf ht.typeIs (wpAny_pure ?_)))
 first
 |exact wpAny_bind (wpAny_rule (wpAny_bind (wpAny_pure ⟨_,rfl,wpAny_pure h⟩)))
 |(simp only[beq_self_eq_true,if_true];exact wpAny_bind (wpAny_rule (wpAny_pure ⟨_,rfl,wpAny_pure h⟩)))
def cG{α:Type}(xs:List α)(lo hi:Option Int):List α:=(xs.drop (HT.sIx xs.length 0 lo)).take (HT.sIx xs.length xs.length hi-HT.sIx xs.length 0 lo)
theorem Reps.cut{K:Frag}{O:Addr->Prop}{H:Hp}{vs:List V}{ds:List PyData}(r:Reps K O H vs ds)(lo hi:Option Int):Reps K O H (gJ vs lo hi) (cG ds lo hi):=by
 unfold gJ cG;rw[r.length];exact(r.drop _).take _
theorem Cc{α:Type}{xs:List α}{lo hi:Option Int}(h:HT.sIx xs.length 0 lo=0/\HT.sIx xs.length xs.length hi=xs.length):cG xs lo hi=xs:=by
 unfold cG;rw[h.1,h.2];simp
section
variable {X:Cx}
theorem sl_tupA:SlR X (fun x lo hi H Q=>∃a xs,x=.ref a/\SqT X.K H a xs/\((HT.sIx xs.length 0 lo=0/\HT.sIx xs.length xs.length hi=xs.length)->Q (.ref a) H) /\
  (¬(HT.sIx xs.length 0 lo=0/\HT.sIx xs.length xs.length hi=xs.length)->∀p,H p=none->Q (.ref p) (upd H p (.tup (gJ xs lo hi))))):=by
 intro pins s σ H x v vl vu lo hi sl Q I rx hs pl pu h;obtain⟨a,xs,rfl,hx,q1,q2⟩:=h
 by_cases hw:HT.sIx xs.length 0 lo=0/\HT.sIx xs.length xs.length hi=xs.length
 .cases rx
  obtain⟨its,r,ht,hz⟩:=I.tuple hx
  have hlen:its.toArray.size=xs.length:=by rw[List.size_toArray];exact r.length.symm
  refine⟨"tuple",_,PyProof.Rows.slot_tuple_getitem.lookup,ht.typeIs,?_⟩;exact zV ht hs pl pu (by rw[hlen];exact hw) ⟨.ref a,H,I,rfl,q1 hw⟩
 .exact F8 pins s σ H _ v vl vu lo hi sl Q I rx hs pl pu ⟨a,xs,rfl,hx,hw,q2 hw⟩
def jy(x:PyData)(lo hi:Option Int):Option PyData:=match x with
 |.list xs=>some (.list (cG xs lo hi))
 |.tuple xs=>some (.tuple (cG xs lo hi))
 |.str z=>if z.length<=sizeLine then some (.str (Txt.slice z lo hi)) else none
 |_=>none
abbrev FO:=Rho->Tp->Option (Option Int×Tp)
def cQ:FO:=fun _ T=>some (none,T)
def fP(f:FE):FO:=fun ρ T=>bnd (f ρ T) fun w T1=>match w with
 |.d (.int i)=>some (some i,T1)
 |_=>none
inductive LiftOP(K:Frag)(f:FO)(σ:L2.St)(H:Hp)(Q:Option Int->Hp->Prop):Prop where
 |mk (O:Addr->Prop) (ts:List Addr) (ρ:Rho) (T:Tp) (o:Option Int) (T':Tp) (hc:HC K O ts H T) (re:RelE K O ts H σ ρ) (e:f ρ T=some (o,T')) (q:∀H',SameX ts H H'->HC K O ts H' T'->Q o H'):LiftOP K f σ H Q
def IF(K:Frag)(f:FO):TO:=fun σ H Q=>LiftOP K f σ H Q
structure DO(X:Cx)(e:Option Expr)(f:FO):Prop where
 pe:PO X e (IF X.K f)
theorem xB(h:PO X e t)(i:∀σ H Q,t' σ H Q->t σ H Q):PO X e t':=fun pins s σ H Q I q=>h pins s σ H Q I (i σ H Q q)
theorem fH:DO X none cQ:=by
 refine⟨?_⟩;refine xB Ei fun σ H Q=>?_;rintro⟨O,ts,ρ,T,o,T',hc,re,e,q⟩;cases e;exact q H (.refl _ _) hc
theorem fG(h:DE X e f):DO X (some e) (fP f):=by
 refine⟨?_⟩;refine xB (Eg h.pe) fun σ H Q=>?_;rintro⟨O,ts,ρ,T,o,T',hc,re,e,q⟩;obtain⟨w1,T1,e1,e⟩:=aM e;refine⟨O,ts,ρ,T,w1,T1,hc,re,e1,fun v1 H1 s1 hc1 r1=>?_⟩;split at e
 .cases e
  cases (show Rep X.K O H1 v1 _ from r1);exact⟨_,rfl,q H1 s1 hc1⟩
 .cases e
def fSl(f:FE)(l u:FO):FE:=fun ρ T=>bnd (f ρ T) fun w T1=>bnd (l ρ T1) fun lo T2=>bnd (u ρ T2) fun hi T3=>op1 (fun x=>jy x lo hi) T3 w
theorem fR{e:Expr}{lo hi:Option Expr}{f:FE}{l u:FO}{pos p2:Pos}(he:DE X e f)(hl:DO X lo l)(hu:DO X hi u):DE X (.Subscript e (.Slice lo hi none p2) pos) (fSl f l u):=by
 refine⟨?_⟩;refine bu (CG (sl_list.or (sl_tupA.or F9)) he.pe hl.pe hu.pe) fun σ H Q=>?_;rintro⟨O,ts,ρ,T,w,T',hc,re,e,q⟩;obtain⟨w1,T1,e1,e⟩:=aM e;obtain⟨o1,T2,e2,e⟩:=aM e;obtain⟨o2,T3,e3,e⟩:=aM e;obtain⟨x,d,h1,h3,rfl,rfl⟩:=rm e;refine⟨O,ts,ρ,T,w1,T1,hc,re,e1,fun v1 H1 s1 hc1 r1=>?_⟩;refine⟨O,ts,ρ,T1,o1,T2,hc1,re.mono hc s1,e2,fun H2 s2 hc2=>?_⟩;refine⟨O,ts,ρ,T2,o2,T',hc2,re.mono hc (s1.trans s2),e3,fun H3 s3 hc3=>?_⟩;have vw:=hc3.view (r1.mono hc1 (s2.trans s3)) h1;have q':∀v H',SameX ts H3 H'->HC X.K O ts H' T'->Rep X.K O H' v d->Q v H':=fun v H' s c r=>q v H' (s1.trans (s2.trans (s3.trans s))) c r;clear q
 cases x with
 |list xs=>
  cases h3;obtain⟨a,vs,rfl,t,r⟩:=vw.lst;exact .inl ⟨a,vs,rfl,t,fun p hp=>q' _ _ (.new hp _) (hc3.new hp _) (hc3.newL hp (r.cut _ _))⟩
 |tuple xs=>
  cases h3;obtain⟨a,vs,rfl,t,r⟩:=vw.tup;refine .inr (.inl ⟨a,vs,rfl,t.sq,fun hw=>?_,fun hw p hp=>?_⟩)
  .rw[r.length] at hw
   rw[Cc hw] at q';exact q' _ H3 (.refl _ _) hc3 vw.tupR
  .exact q' _ _ (.new hp _) (hc3.new hp _) (hc3.newT hp (r.cut _ _))
 |str z=>
  have h3':(if z.length<=sizeLine then some (PyData.str (Txt.slice z o1 o2)) else none)=some d:=h3;split at h3'
  .rename_i hz
   cases h3';exact .inr (.inr ⟨z,vw.str,hz,q' _ H3 (.refl _ _) hc3 (.str _)⟩)
  .cases h3'
 |_=>cases h3
end
inductive Kd where
 |non|bl|int|str|tup|lst|dct
 deriving DecidableEq
def Kd.name:Kd->String
 |.non=>"NoneType" | .bl=>"bool" | .int=>"int" | .str=>"str" | .tup=>"tuple" | .lst=>"list" | .dct=>"dict"
def kd:PyData->Kd
 |.none=>.non | .bool _=>.bl | .int _=>.int | .str _=>.str | .list _=>.lst | .tuple _=>.tup | .dict _=>.dct
def b9(a b:Kd):Bool:=decide (a=b)||(decide (a=.bl)&&decide (b=.int))
def Jw(t c:String):Option Bool:=if (Value.type t == Value.type c)=true then some true else if PySem.W.kitMeta c=true then (fastBuiltinMro t).map (·.contains (.type c)) else none
theorem iG(a b:Kd):b≠.non->Jw a.name b.name=some (b9 a b):=by cases a <;> cases b <;> first|(intro h;exact absurd rfl h)|(intro _;decide +kernel)
section
variable {X:Cx}
theorem Dy:CallR X (.builtin "isinstance") (fun xs H Q=>∃(x:V) (c:Kd) (O:Addr->Prop) (d:PyData),xs=[x,.ty c.name]/\Vw X.K O H x d/\c≠.non/\Q (.bl (b9 (kd d) c)) H):=by
 intro pins s σ H xs us Q I r h;obtain⟨x,c,O,d,rfl,vw,hc,q⟩:=h;obtain⟨u,w',rfl,ru,rw'⟩:=vals2 r;cases (show w'=Value.type c.name from rw');have fin:∀tk,EP X pins σ Q (.bool (b9 (kd d) c)) { s with toks:=tk }:=fun tk=>⟨.bl _,H,I.tok _,rfl,q⟩
 cases d with
 |none=>cases vw.non;exact mi I ru .non (show PySem.W.kitOne X.K (.type (Kd.name .non)) (.type c.name)=some _ from iG .non c hc) fin
 |bool b=>cases vw.bl;exact mi I ru (.bl b) (show PySem.W.kitOne X.K (.type (Kd.name .bl)) (.type c.name)=some _ from iG .bl c hc) fin
 |int i=>cases vw.int;exact mi I ru (.int i) (show PySem.W.kitOne X.K (.type (Kd.name .int)) (.type c.name)=some _ from iG .int c hc) fin
 |str z=>cases vw.str;exact mi I ru (.str z) (show PySem.W.kitOne X.K (.type (Kd.name .str)) (.type c.name)=some _ from iG .str c hc) fin
 |list ds=>
  obtain⟨a,vs,rfl,t,r⟩:=vw.lst;cases (show u=Value.ref a from ru);obtain⟨its,_,pl,_⟩:=I.list t;obtain⟨o,n,e,c1,_⟩:=pl;exact PySem.W.kia_one PySem.W.kitx_list I.kIn ⟨o,e,c1⟩ (show PySem.W.kitOne X.K (.type (Kd.name .lst)) (.type c.name)=some _ from iG .lst c hc) (fun z=>nomatch z) fin
 |tuple ds=>
  obtain⟨a,vs,rfl,t,r⟩:=vw.tup;cases (show u=Value.ref a from ru);obtain⟨its,_,pl,_⟩:=I.tuple t.sq;obtain⟨o,e,c1,_⟩:=pl;exact PySem.W.kia_one PySem.W.kitx_tuple I.kIn ⟨o,e,c1⟩ (show PySem.W.kitOne X.K (.type (Kd.name .tup)) (.type c.name)=some _ from iG .tup c hc) (fun z=>nomatch z) fin
 |dict ds=>
  obtain⟨a,vs,rfl,t,r⟩:=vw.dct;cases (show u=Value.ref a from ru);obtain⟨_,_,_,_,o,_,_,e,c1,_⟩:=dP I.hok t;exact PySem.W.kia_one PySem.W.kitx_dict I.kIn ⟨o,e,c1.1⟩ (show PySem.W.kitOne X.K (.type (Kd.name .dct)) (.type c.name)=some _ from iG .dct c hc) (fun z=>nomatch z) fin
def bz(c:Kd)(x:PyData):Option PyData:=some (.bool (b9 (kd x) c))
theorem bK(c:Kd)(hi:X.mg "isinstance"=none)(he:DE X e f)(hm:X.mg T=none)(hb:bootBuiltins T=some (.type c.name))(hcn:c≠.non:=by decide)(hg:Gl X "isinstance":=by rfl)(hT:Gl X T:=by rfl)(hn:T≠"__name__":=by decide)(hdb:(T == ("__debug__" : Str))=false:=by decide)
  (hs:starEach [e,.Name T p] X.env=(false,eval e X.env)::starEach [.Name T p] X.env:=by exact bb rfl) (hs2:starEach [.Name T p] X.env=(false,eval (.Name T p) X.env)::starEach [] X.env:=by exact bb rfl)
  (hpl:(backTo pos (starEach [.Name T p] X.env)).any (·.1)=false:=by exact bS rfl):DE X (.Call (.Name "isinstance" p') [e,.Name T p] [] pos) (fUn (bz c) f):=by
 refine⟨?_⟩;refine bu (uX Dy hg hi PyProof.Rows.boot_isinstance (cX he.pe (cX (Eo (v:=.ty c.name) hT hm hb rfl hn hdb) dA hs2) hs) (by decide) (by decide) hs hpl) fun σ H Q=>?_;rintro⟨O,ts,ρ,T,w,T',hc,re,e,q⟩;obtain⟨w1,T1,e1,e⟩:=aM e;obtain⟨x,d,h1,h3,rfl,rfl⟩:=rm e;cases h3;refine⟨O,ts,ρ,T,w1,T',hc,re,e1,fun v1 H1 s1 hc1 r1=>?_⟩;exact⟨v1,c,O,x,rfl,hc1.view r1 h1,hcn,q _ H1 s1 hc1 (.bl _)⟩
def a8:List PyData->Option PyData
 |[.list xs]=>some (.int xs.length)
 |[.tuple xs]=>some (.int xs.length)
 |[.str z]=>if z.length<=sizeLine then some (.int z.length) else none
 |[.dict kvs]=>some (.int kvs.length)
 |_=>none
theorem dm{K:Frag}{O:Addr->Prop}{H:Hp}{vs:List V}{x:PyData}(h:Vws K O H vs [x]):∃v,vs=[v]/\Vw K O H v x:=by cases h with|cons h t=>cases t;exact⟨_,rfl,h⟩
theorem uU{K:Frag}{O:Addr->Prop}{H:Hp}:∀{kvs:List (Key×V)}{ds:List (PyData×PyData)},RepK K O H kvs ds->kvs.length=ds.length
 |_,_,.nil=>rfl
 |_,_,.cons _ t=>congrArg (· + 1) (uU t)
theorem Cf:CallR X (.builtin "len") (fun xs H Q=>∃a kvs,xs=[V.ref a]/\Rd H a (.dK kvs)/\Q (.int kvs.length) H):=by
 intro pins s σ H xs us Q I r h;obtain⟨a,kvs,rfl,ha,q⟩:=h;obtain⟨u,rfl,ru⟩:=vals1 r;cases ru;exact Jd I ha fun t s' I'=>⟨.int kvs.length,H,I',⟨t,rfl⟩,q⟩
theorem bI:fU X (.builtin "len") a8:=⟨_,call_len_seq.or (call_len_str.or Cf),fun O ts H T vs xs d Q hc h e q=>by
 unfold a8 at e;split at e
 .cases e
  obtain⟨v,rfl,g⟩:=dm h;obtain⟨a,vs,rfl,t,r⟩:=g.lst;exact .inl ⟨a,vs,rfl,.inl t,by rw[r.length];exact q _ H (.refl _ _) hc (.int _)⟩
 .cases e
  obtain⟨v,rfl,g⟩:=dm h;obtain⟨a,vs,rfl,t,r⟩:=g.tup;exact .inl ⟨a,vs,rfl,.inr t.sq,by rw[r.length];exact q _ H (.refl _ _) hc (.int _)⟩
 .split at e
  .rename_i hz
   cases e;obtain⟨v,rfl,g⟩:=dm h;cases g.str;exact .inr (.inl ⟨_,rfl,hz,q _ H (.refl _ _) hc (.int _)⟩)
  .cases e
 .cases e
  obtain⟨v,rfl,g⟩:=dm h;obtain⟨a,kvs,rfl,t,r⟩:=g.dct;exact .inr (.inr ⟨a,kvs,rfl,t,by rw[uU r];exact q _ H (.refl _ _) hc (.int _)⟩)
 .cases e⟩
def lT:List PyData->Option PyData
 |[.int i]=>some (.int (if i<0 then -i else i))
 |_=>none
theorem y9:fU X (.builtin "abs") lT:=⟨_,DB,fun O ts H T vs xs d Q hc h e q=>by
 unfold lT at e;split at e
 .cases e
  obtain⟨v,rfl,g⟩:=dm h;cases g.int;exact⟨_,rfl,q _ H (.refl _ _) hc (.int _)⟩
 .cases e⟩
def IB:List PyData->Option PyData
 |[.int i,.int j]=>some (.int (if j>i then j else i))
 |_=>none
def IA:List PyData->Option PyData
 |[.int i,.int j]=>some (.int (if j<i then j else i))
 |_=>none
def iU:List PyData->Option (List Bool)
 |[]=>some []
 |.bool b::r=>(iU r).map (b::·)
 |_=>none
def gy:List PyData->Option (List Int)
 |[]=>some []
 |.int b::r=>(gy r).map (b::·)
 |_=>none
def d9:List PyData->Option (List Str)
 |[]=>some []
 |.str b::r=>(d9 r).map (b::·)
 |_=>none
theorem vD{K:Frag}{O:Addr->Prop}{H:Hp}:∀{vs:List V}{xs:List PyData}{bs:List Bool},Reps K O H vs xs->iU xs=some bs->vs=bs.map V.bl
 |_,_,_,.nil,e=>by cases e;rfl
 |_,x::r,bs,.cons h t,e=>by
  cases x with
  |bool b=>
   obtain⟨cs,e1,rfl⟩:=Option.map_eq_some_iff.mp (show (iU r).map (b::·)=some bs from e);cases h;rw[vD t e1];rfl
  |_=>cases e
theorem qi{K:Frag}{O:Addr->Prop}{H:Hp}:∀{vs:List V}{xs:List PyData}{bs:List Int},Reps K O H vs xs->gy xs=some bs->vs=bs.map V.int
 |_,_,_,.nil,e=>by cases e;rfl
 |_,x::r,bs,.cons h t,e=>by
  cases x with
  |int b=>
   obtain⟨cs,e1,rfl⟩:=Option.map_eq_some_iff.mp (show (gy r).map (b::·)=some bs from e);cases h;rw[qi t e1];rfl
  |_=>cases e
theorem mM{K:Frag}{O:Addr->Prop}{H:Hp}:∀{vs:List V}{xs:List PyData}{bs:List Str},Reps K O H vs xs->d9 xs=some bs->vs=bs.map V.str
 |_,_,_,.nil,e=>by cases e;rfl
 |_,x::r,bs,.cons h t,e=>by
  cases x with
  |str b=>
   obtain⟨cs,e1,rfl⟩:=Option.map_eq_some_iff.mp (show (d9 r).map (b::·)=some bs from e);cases h;rw[mM t e1];rfl
  |_=>cases e
def j6:List PyData->Option PyData
 |[.list xs]=>(iU xs).map fun bs=>.bool (bs.all id)
 |_=>none
theorem sk(hc:X.calm=true:=by rfl):fU X (.builtin "all") j6:=⟨_,Dz hc,fun O ts H T vs xs d Q hc h e q=>by
 unfold j6 at e;split at e
 .obtain⟨bs,e1,rfl⟩:=Option.map_eq_some_iff.mp e
  obtain⟨v,rfl,g⟩:=dm h;obtain⟨a,vs,rfl,t,r⟩:=g.lst;rw[vD r e1] at t;exact⟨a,bs,rfl,t,q _ H (.refl _ _) hc (.bl _)⟩
 .cases e⟩
def jT:List PyData->Option PyData
 |[.list xs]=>(gy xs).map fun bs=>.int bs.sum
 |_=>none
theorem y8(hc:X.calm=true:=by rfl):fU X (.builtin "sum") jT:=⟨_,Dx hc,fun O ts H T vs xs d Q hc h e q=>by
 unfold jT at e;split at e
 .obtain⟨bs,e1,rfl⟩:=Option.map_eq_some_iff.mp e
  obtain⟨v,rfl,g⟩:=dm h;obtain⟨a,vs,rfl,t,r⟩:=g.lst;rw[qi r e1] at t;exact⟨a,bs,rfl,t,q _ H (.refl _ _) hc (.int _)⟩
 .cases e⟩
def lm:PyData->PyData->Option PyData
 |.list xs,.int d=>(gy xs).map fun bs=>.int (K1.cE d bs)
 |_,_=>none
theorem Fe(hm:X.mg "max"=none)(ha:DE X e f)(hd:DE X ed fd)(hc:X.calm=true:=by rfl)(hg:Gl X "max":=by rfl)(hs:starEach [e] X.env=(false,eval e X.env)::starEach [] X.env:=by exact bb rfl)
  (h1:backTo pos (starEach [e] X.env)=(false,eval e X.env)::backTo pos (starEach [] X.env):=by exact ui rfl)
  (h2:(backTo pos (starEach [e] X.env)).any (·.1)=false:=by exact bS rfl) (h3:(backToKw pos (keywordEach [⟨some "default",ed,kpos⟩] X.env)).all (·.1.isSome)=true:=by rfl)
  (h4:(backToKw pos (keywordEach [⟨some "default",ed,kpos⟩] X.env)).any (·.1.isNone)=false:=by rfl) (h5:(backToKw pos (keywordEach [⟨some "default",ed,kpos⟩] X.env)).filterMap (·.1)=[Str.ofString "default"]:=by rfl) :
  DE X (.Call (.Name "max" p) [e] [⟨some "default",ed,kpos⟩] pos) (af lm f fd):=by
 refine⟨?_⟩;refine bu (Ek hc hg hm ha.pe hd.pe hs h1 h2 h3 h4 h5) fun σ H Q=>?_;rintro⟨O,ts,ρ,T,w,T',hc,re,e,q⟩;obtain⟨w1,T1,e1,e⟩:=aM e;obtain⟨w2,T2,e2,e⟩:=aM e;obtain⟨x,y,d,h1,h2,h3,rfl,rfl⟩:=jA e;refine⟨O,ts,ρ,T,w1,T1,hc,re,e1,fun v1 H1 s1 hc1 r1=>⟨v1,rfl,?_⟩⟩;refine⟨O,ts,ρ,T1,w2,T',hc1,re.mono hc s1,e2,fun v2 H2 s2 hc2 r2=>?_⟩;have k1:=hc2.view (r1.mono hc1 s2) h1;have k2:=hc2.view r2 h2;unfold lm at h3;split at h3
 .obtain⟨bs,e4,rfl⟩:=Option.map_eq_some_iff.mp h3
  obtain⟨a,vs,rfl,t,r⟩:=k1.lst;rw[qi r e4] at t;exact⟨a,bs,_,rfl,k2.int,t,q _ H2 (s1.trans s2) hc2 (.int _)⟩
 .cases h3
def fV:List PyData->Option PyData
 |[.int i]=>if i.natAbs.log2<1920 then some (.str (toString i)) else none
 |_=>none
theorem jS:fU X (.type "str") fV:=⟨_,AD,fun O ts H T vs xs d Q hc h e q=>by
 unfold fV at e;split at e
 .split at e
  .rename_i hz
   cases e;obtain⟨v,rfl,g⟩:=dm h;cases g.int;exact⟨_,rfl,hz,q _ H (.refl _ _) hc (.str _)⟩
  .cases e
 .cases e⟩
def bE:List PyData->Option PyData
 |[.list xs]=>some (.tuple xs)
 |[.tuple xs]=>some (.tuple xs)
 |_=>none
theorem gq:fU X (.type "tuple") bE:=⟨_,Aq,fun O ts H T vs xs d Q hc h e q=>by
 unfold bE at e;split at e
 .cases e
  obtain⟨v,rfl,g⟩:=dm h;obtain⟨a,vs,rfl,t,r⟩:=g.lst;exact⟨a,vs,rfl,.inl ⟨t,fun p hp=>q _ _ (.new hp _) (hc.new hp _) (hc.newT hp r)⟩⟩
 .cases e
  obtain⟨v,rfl,g⟩:=dm h;obtain⟨a,vs,e1,t,r⟩:=g.tup;subst e1;exact⟨a,vs,rfl,.inr ⟨t.sq,q _ H (.refl _ _) hc (.tup t r)⟩⟩
 .cases e⟩
def gx:List PyData->Option PyData
 |[.list xs]=>some (.list xs)
 |[.tuple xs]=>some (.list xs)
 |_=>none
theorem yo:fU X (.type "list") gx:=⟨_,AE,fun O ts H T vs xs d Q hc h e q=>by
 unfold gx at e;split at e
 .cases e
  obtain⟨v,rfl,g⟩:=dm h;obtain⟨a,vs,rfl,t,r⟩:=g.lst;exact⟨a,vs,rfl,.inl t,fun p hp=>q _ _ (.new hp _) (hc.new hp _) (hc.newL hp r)⟩
 .cases e
  obtain⟨v,rfl,g⟩:=dm h;obtain⟨a,vs,rfl,t,r⟩:=g.tup;exact⟨a,vs,rfl,.inr t.sq,fun p hp=>q _ _ (.new hp _) (hc.new hp _) (hc.newL hp r)⟩
 .cases e⟩
theorem mt_joinG:MtR X "str.join" (fun x vs H Q=>∃(z:Str) (l:Addr) (ys:List Str),x=.str z/\vs=[.ref l]/\SqL X.K H l (ys.map V.str)/\(ys.map (·.length)).sum+ys.length*z.length<=16777216/\Q (.str (Str.join z ys)) H):=by
 intro pins s σ H x vs v us Q I rx rv h;obtain⟨z,l,ys,rfl,rfl,hq,hz,q⟩:=h;obtain⟨t,rfl⟩:=rx;obtain⟨u,rfl,ru⟩:=vals1 rv;cases ru;obtain⟨its,rw',pl,_⟩:=I.list hq;refine join_list (ys:=ys) pl.isList (by simpa using tw rw') hz fun t' k=>⟨.str _,H,I.tok _,⟨t',?_⟩,q⟩;show Value.str (Builtin.Str.glued z ys) t'=_;rw[StrLaws.glued_eq_join]
def lz:PyData->PyData->Option PyData
 |.str z,.list xs=>match d9 xs with
  |some ys=>if (ys.map (·.length)).sum+ys.length*z.length<=16777216 then some (.str (Str.join z ys)) else none
  |none=>none
 |_,_=>none
theorem w4(ho:DE X o fo)(he:DE X e fe)
  (hbase:attributeBase o "join" X.env (eval o X.env)=eval o X.env:=by rfl)
  (hfew:((backTo cpos (starEach [e] X.env)).all (fun x=>!x.1)&&(backToKw cpos (keywordEach [] X.env)).all (fun x=>x.1.isSome)
   && decide (([e]:List Expr).length+([]:List Keyword).length+(if ([]:List Keyword).isEmpty then 0 else 1)<30))=true:=by exact oY rfl)
  (hline:(apos.endLine == cpos.line)=true:=by rfl) (hse:starEach [e] X.env=(false,eval e X.env)::starEach [] X.env:=by exact bb rfl) (hplain:(backTo cpos (starEach [] X.env)).any (·.1)=false:=by exact bS rfl) :
  DE X (.Call (.Attribute o "join" apos) [e] [] cpos) (af lz fo fe):=by
 refine⟨?_⟩;refine bu (lh PySem.F.plainAttrs_str PySem.F.slot_str_join PySem.F.type_str_join mt_joinG ho.pe (cX he.pe dA hse) hbase hfew hline hse hplain) fun σ H Q=>?_;rintro⟨O,ts,ρ,T,w,T',hc,re,e,q⟩;obtain⟨w1,T1,e1,e⟩:=aM e;obtain⟨w2,T2,e2,e⟩:=aM e;obtain⟨x,y,d,h1,h2,h3,rfl,rfl⟩:=jA e;unfold lz at h3;split at h3
 .rename_i z xs
  split at h3
  .rename_i ys hy
   split at h3
   .rename_i hz
    cases h3;refine⟨O,ts,ρ,T,w1,T1,hc,re,e1,fun v1 H1 s1 hc1 r1=>?_⟩
    have ev:v1=.str z:=by
     cases w1 with
     |d x=>cases h1;cases (show Rep X.K O H1 v1 _ from r1);rfl
     | tp k=>exact(by
       have h1':(T'[k]?).bind jU=some (PyData.str z):=h1
       cases hk:T'[k]? with
       |none=>rw[hk] at h1';cases h1'
       |some xs=>
        rw[hk] at h1';have e2:(if isO xs=true then none else some (PyData.list xs))=some (PyData.str z):=h1'
        split at e2 <;> cases e2)
     |loc zs=>cases zs <;> cases h1
    subst ev;refine⟨rfl,O,ts,ρ,T1,w2,T',hc1,re.mono hc s1,e2,fun v2 H2 s2 hc2 r2=>?_⟩;obtain⟨a,vs,rfl,t,r⟩:=(hc2.view r2 h2).lst;rw[mM r hy] at t;exact⟨z,a,ys,rfl,rfl,t,hz,q _ H2 (s1.trans s2) hc2 (.str _)⟩
   .cases h3
  .cases h3
 .cases h3
end
mutual
def jN:PyData->Bool
 |.list _=>false
 |.tuple ds=>nI ds
 |.dict kvs=>nJ kvs
 |.none | .bool _ | .int _ | .str _=>true
def nI:List PyData->Bool
 |[]=>true
 |d::r=>jN d&&nI r
def nJ:List (PyData×PyData)->Bool
 |[]=>true
 |(_,v)::r=>jN v&&nJ r
end
section
variable {X:Cx}{pins:List (Addr×Obj)}{σ:L2.St}{H:Hp}{s:Shared}{O:Addr->Prop}
theorem BP(e:eW k v=true):Reads h v (gE k) []:=by
 rcases dX e with⟨i,t,rfl,rfl⟩|⟨x,t,rfl,rfl⟩
 .exact .int i t
 .exact .str x t
mutual
theorem Rep.reads(I:Inv X pins σ H s):∀{v:V}{d:PyData}{u:Value},Rep X.K O H v d->RelV v u->∃as,Reads s.heap u d as/\(jN d=true->sysModules∉as)
 |_,_,_,.non,r=>by cases r;exact⟨_,.none,fun _=>by simp⟩
 |_,_,_,.bl b,r=>by cases r;exact⟨_,.bool b,fun _=>by simp⟩
 |_,_,_,.int i,r=>by obtain⟨t,rfl⟩:=r;exact⟨_,.int i t,fun _=>by simp⟩
 |_,_,_,.str x,r=>by obtain⟨t,rfl⟩:=r;exact⟨_,.str x t,fun _=>by simp⟩
 |_,_,_,.tup (a:=a) (vs:=vs) h rs,r=>by
  cases r;obtain⟨its,rv,⟨o,e,c,n,dd⟩,_⟩:=I.tuple h.sq;obtain⟨as,q,f⟩:=Reps.reads I rs rv;exact⟨as,.tuple e c dd (by simpa using q),f⟩
 |_,_,_,.lst (a:=a) (vs:=vs) h rs,r=>by
  cases r;obtain⟨its,rv,pl,_⟩:=I.list h.sq;obtain⟨o,n,e,c,_,dd⟩:=pl;obtain⟨as,q,f⟩:=Reps.reads I rs rv;exact⟨_,.list e c dd (by simpa using q),fun z=>by cases z⟩
 |_,_,_,.dct (a:=a) (kvs:=kvs) (ds:=ds) _ h rk,r=>by
  cases r;obtain⟨z,y,vs,kv,o,es,ep,e,ed,dd,_,ek,_⟩:=(show ObjOk X.prog X.w H s.heap a (.dK kvs) from(I.hok a _ h).2);obtain⟨bs,q1,q2,f⟩:=RepK.reads I rk kv ek;refine⟨_,.dict (kvs:=ds) (as:=[]) (bs:=bs) e ed.1 dd q1 q2,fun zz hm=>?_⟩
  rcases List.mem_cons.mp (by simpa using hm:sysModules∈a::bs) with q|q
  .rw[q] at y
   simp at y
  .exact f zz q
theorem Reps.reads(I:Inv X pins σ H s):∀{vs:List V}{ds:List PyData}{us:List Value},Reps X.K O H vs ds->Vals vs us->∃as,ReadsAll s.heap us ds as/\(nI ds=true->sysModules∉as)
 |_,_,_,.nil,r=>by cases r;exact⟨_,.nil,fun _=>by simp⟩
 |_,_,_,.cons (d:=d) (ds:=ds) q t,r=>by
  cases r with
  |cons r1 r2=>
   obtain⟨as,h1,f1⟩:=Rep.reads I q r1;obtain⟨bs,h2,f2⟩:=Reps.reads I t r2;refine⟨as++bs,.cons h1 h2,fun z=>?_⟩;have z':(jN d&&nI ds)=true:=z;rw[Bool.and_eq_true] at z';intro hm
   rcases List.mem_append.mp hm with hm|hm
   .exact f1 z'.1 hm
   .exact f2 z'.2 hm
theorem RepK.reads(I:Inv X pins σ H s):∀{kvs:List (Key×V)}{ds:List (PyData×PyData)}{vs:List (Key×Value)}{es:List DictEntry},RepK X.K O H kvs ds->KV kvs vs->Pairs (bx X.prog X.w) es vs ->
  ∃bs,ReadsAll s.heap (es.map (·.key)) (ds.map (·.1)) []/\ReadsAll s.heap (es.map (·.val)) (ds.map (·.2)) bs/\(nJ ds=true->sysModules∉bs)
 |_,_,_,_,.nil,r,ek=>by
  cases r;cases ek;exact⟨[],.nil,.nil,fun _=>by simp⟩
 |_,_,_,_,.cons (k:=k) (d:=d) (ds:=ds) q t,r,ek=>by
  cases r with
  |cons r1 r2=>
   cases ek with
   |cons e1 e1' e2=>
    obtain⟨as,h1,f1⟩:=Rep.reads I q r1.2;obtain⟨bs,h2,h3,f2⟩:=RepK.reads I t r2 e2;rw[←e1'] at h1;have k1:=BP (h:=s.heap) (show eW _ _=true from e1);rw[←r1.1] at k1;refine⟨as++bs,.cons (as:=[]) (bs:=[]) k1 h2,.cons h1 h3,fun z=>?_⟩;have z':(jN d&&nJ ds)=true:=z;rw[Bool.and_eq_true] at z';intro hm
    rcases List.mem_append.mp hm with hm|hm
    .exact f1 z'.1 hm
    .exact f2 z'.2 hm
end
end
def IK(d:PyData):Bool:=d.showable&&d.leavesShort 200&&decide (d.depth<=60)&&decide (d.weight<=60000)&&(!d.hasDict||jN d)
section
variable {X:Cx}
def yE(T:Tp)(w:W):Option (W×Tp):=match w with
 |.d x=>if IK x=true then some (.d (.str x.shown),T) else none
 |_=>none
def IV(f:FE):FE:=fun ρ T=>bnd (f ρ T) fun w T1=>yE T1 w
end
structure Df(K:Frag)(name:Str)(st:Stmt):Prop where
 ex:∃(f:Addr) (oc:Value) (od an:Option Addr) (sl:Array (Option Value)) (kV dc pm cd ct:Value),PySem.W.nsIn K mainGlobals name=some (some (.ref f)) /\
  K.lookup f=some ⟨oc,od,.func (PySem.W.fnOf name name (dz st) (bY st) (a9 st) .none kV dc pm an cd ct),sl⟩/\PySem.W.codeIn K cd name=true/\PySem.W.keepIn K (.ref f)=true
theorem IZ{K:Frag}{name:Str}{st:Stmt}{f:Addr}{oc:Value}{od an:Option Addr}{sl:Array (Option Value)}{kV dc pm cd ct:Value}(a:PySem.W.nsIn K mainGlobals name=some (some (.ref f)))
  (l:K.lookup f=some ⟨oc,od,.func (PySem.W.fnOf name name (dz st) (bY st) (a9 st) .none kV dc pm an cd ct),sl⟩) (c:PySem.W.codeIn K cd name=true) (k:PySem.W.keepIn K (.ref f)=true):Df K name st:=⟨f,oc,od,an,sl,kV,dc,pm,cd,ct,a,l,c,k⟩
theorem Df.fn{P:Program}{w:World}{K:Frag}{mg:Str->Option Value}{base h:Heap}{name:Str}{st:Stmt}{ps:List Str}{k:Nat}{sp:Sp}(d:Df K name st)(X:K.In h)(G:h.Ns mainGlobals mg)
  (hb:∀(kV doc pm:Value) (an:Option Addr) (cdv ct:Value) (us:List Value),us.length=ps.length->bindArgs (PySem.W.fnOf name name (dz st) (bY st) (a9 st) .none kV doc pm an cdv ct) ⟨us,[]⟩=pure (ps.zip us))
  (ok:∀f fd,Fun K name name st f fd->FnOk P w K mg base CX0 k f fd ps sp):Fn P w K mg base name ps k sp:=by
 obtain⟨f,oc,od,an,sl,kV,dc,pm,cd,ct,a,l,c,kp⟩:=d.ex;have F:=rC (st:=st) l c kp;exact⟨f,_,ok f _ F,F.binds hb,kp,PySem.W.mg_of X G a⟩
theorem EY{P:Program}{w:World}{K:Frag}{mg:Str->Option Value}{base:Heap}{k n:Nat}{f:Addr}{fd:FuncData}{ps:List Str}:FnOk P w K mg base CX0 k f fd ps (spM K n fun _ _=>none):=by
 have no:∀vs H Q E,¬spM K n (fun _ _=>none) vs H Q E:=fun vs H Q E h=>by
  obtain⟨O,ts,T,ws,x,T',_,_,_,e,_⟩:=h;cases e
 exact⟨fun vs H Q E h=>absurd h (no vs H Q E),fun A outer s H args us vs Q E _ _ _ _ h=>absurd h (no vs H Q E)⟩
def ot(K:Frag):Sp:=fun vs H Q _=>∃(a:Addr) (ns:List Int),vs=[.ref a]/\SqL K H a (ns.map V.int)/\ns.length<=63/\∀H',Q (.bl true) H'
def jz(ns:List Int):PyData:=.list (ns.map .int)
theorem um{K:Frag}{O:Addr->Prop}{H:Hp}:∀ns:List Int,Reps K O H (ns.map V.int) (ns.map PyData.int)
 |[]=>.nil
 |_::r=>.cons (.int _) (um r)
section
variable {α β:Type}{ρ:Rho}{T:Tp}{f g:FE}{c c':FT}{s s':FS}{a:FA}{w w':W}{x y:PyData}
@[simp] theorem fL:bnd (some (b,T)) k=k b T:=rfl
@[simp] theorem LM:bnd none k=none:=rfl
@[simp] theorem LN[Decidable p]:bnd (if p then u else v) k=if p then bnd u k else bnd v k:=by split <;> rfl
@[simp] theorem oI:aN N s ws T=if cK ws=true then dE (s (ws.map some++List.replicate (N-ws.length) none) T) else none:=rfl
@[simp] theorem mr:cK []=true:=rfl
@[simp] theorem mq:cK (.d x::r)=cK r:=rfl
@[simp] theorem uy:cK (.tp i::r)=cK r:=rfl
@[simp] theorem LD:dE (some ((.rt x,r),T))=some (x,T):=rfl
@[simp] theorem LG:dE (some ((.nx,r),T))=some (.none,T):=rfl
@[simp] theorem LH[Decidable p]:dE (if p then u else v)=if p then dE u else dE v:=by split <;> rfl
def i7(s':FS)(p:Fl×Rho)(T:Tp):Option ((Fl×Rho)×Tp):=match p with
 |(.nx,ρ1)=>s' ρ1 T
 |(fl,ρ1)=>some ((fl,ρ1),T)
@[simp] theorem G9:ak s s' ρ T=bnd (s ρ T) (i7 s'):=rfl
@[simp] theorem KR:i7 s' (.nx,ρ1) T=s' ρ1 T:=rfl
@[simp] theorem KQ:i7 s' (.rt x,ρ1) T=some ((.rt x,ρ1),T):=rfl
@[simp] theorem KW:i7 s' (.bk,ρ1) T=some ((.bk,ρ1),T):=rfl
@[simp] theorem KU:i7 s' (.ct,ρ1) T=some ((.ct,ρ1),T):=rfl
@[simp] theorem La:aD ρ T=some ((.nx,ρ),T):=rfl
def ifK(s s':FS)(ρ:Rho)(b:Bool)(T1:Tp):Option ((Fl×Rho)×Tp):=if b=true then s ρ T1 else s' ρ T1
@[simp] theorem IW:fIf c s s' ρ T=bnd (c ρ T) (ifK s s' ρ):=rfl
@[simp] theorem Hb:ifK s s' ρ b T=if b=true then s ρ T else s' ρ T:=rfl
def zu(ρ:Rho):W->Tp->Option ((Fl×Rho)×Tp):=fun w T1=>match w with
 |.d x=>some ((.rt x,ρ),T1)
 |_=>none
@[simp] theorem Mb:az f ρ T=bnd (f (bT ρ) T) (zu ρ):=rfl
@[simp] theorem K2:zu ρ (.d x) T=some ((.rt x,ρ),T):=rfl
@[simp] theorem LB:bT []=[]:=rfl
@[simp] theorem Ly:bT (none::r)=none::bT r:=rfl
@[simp] theorem LA:bT (some (.d x)::r)=some (.d x)::bT r:=rfl
@[simp] theorem Lx:bT (some (.tp i)::r)=some (.tp i)::bT r:=rfl
@[simp] theorem Lz:bT (some (.loc x)::r)=some (.d x)::bT r:=rfl
def su(i:Nat)(ρ:Rho):W->Tp->Option ((Fl×Rho)×Tp):=fun w T1=>match w with
 |.d x=>some ((.nx,ρ.set i (some (.d x))),T1)
 |.tp k=>some ((.nx,ρ.set i (some (.tp k))),T1)
 |.loc _=>none
@[simp] theorem nU:aG i f ρ T=bnd (f ρ T) (su i ρ):=rfl
@[simp] theorem wK:su i ρ (.d x) T=some ((.nx,ρ.set i (some (.d x))),T):=rfl
@[simp] theorem KN:su i ρ (.tp k) T=some ((.nx,ρ.set i (some (.tp k))),T):=rfl
def yD(i:Nat)(ρ:Rho)(T:Tp):Option (List PyData)->Option ((Fl×Rho)×Tp)
 |some xs=>if xs.length<=1000 then some ((.nx,ρ.set i (some (.loc (.list xs)))),T) else none
 |none=>none
@[simp] theorem KO:dO i a ρ T=bnd (a ρ T) fun ws T1=>yD i ρ T1 (dQ ws):=rfl
@[simp] theorem Kg:yD i ρ T (some xs)=if xs.length<=1000 then some ((.nx,ρ.set i (some (.loc (.list xs)))),T) else none:=rfl
def zO(i:Nat)(ρ:Rho)(x:PyData)(T:Tp)(o:Option (Option W)):Option ((Fl×Rho)×Tp):=match o with
 |some (some (.loc (.list xs)))=>if xs.length<sizeLine then some ((.nx,ρ.set i (some (.loc (.list (xs++[x]))))),T) else none
 |_=>none
def zN(i:Nat)(ρ:Rho):W->Tp->Option ((Fl×Rho)×Tp):=fun w T1=>match w with
 | .d x=>(match ρ[i]? with
  |some (some (.loc (.list xs)))=>if xs.length<sizeLine then some ((.nx,ρ.set i (some (.loc (.list (xs++[x]))))),T1) else none
  | _=>none)
 |_=>none
@[simp] theorem MP:fu i f ρ T=bnd (f ρ T) (zN i ρ):=rfl
@[simp] theorem LO:zN i ρ (.d x) T=zO i ρ x T ρ[i]?:=rfl
@[simp] theorem LP:zO i ρ x T (some (some (.loc (.list xs))))=if xs.length<sizeLine then some ((.nx,ρ.set i (some (.loc (.list (xs++[x]))))),T) else none:=rfl
@[simp] theorem MV:fSl f l u ρ T=bnd (f ρ T) fun w T1=>bnd (l ρ T1) fun lo T2=>bnd (u ρ T2) fun hi T3=>op1 (fun x=>jy x lo hi) T3 w:=rfl
@[simp] theorem Mh:cQ ρ T=some (none,T):=rfl
def pK:W->Tp->Option (Option Int×Tp):=fun w T1=>match w with
 |.d (.int i)=>some (some i,T1)
 |_=>none
@[simp] theorem Nj:fP f ρ T=bnd (f ρ T) pK:=rfl
@[simp] theorem MW:pK (.d (.int i)) T=some (some i,T):=rfl
@[simp] theorem L9{z:Str}{lo hi:Option Int}:jy (.str z) lo hi=if z.length<=sizeLine then some (.str (Txt.slice z lo hi)) else none:=rfl
@[simp] theorem L8{xs:List PyData}{lo hi:Option Int}:jy (.tuple xs) lo hi=some (.tuple (cG xs lo hi)):=rfl
@[simp] theorem Ma{xs:List PyData}{lo hi:Option Int}:jy (.list xs) lo hi=some (.list (cG xs lo hi)):=rfl
@[simp] theorem mX:aa 0 (some o::r) T=some (o,T):=rfl
@[simp] theorem d6:aa (i+1) (o::r) T=aa i r T:=rfl
@[simp] theorem mW:aa 1 (o::r) T=aa 0 r T:=d6
@[simp] theorem mV:aa 2 (o::r) T=aa 1 r T:=d6
@[simp] theorem mU:aa 3 (o::r) T=aa 2 r T:=d6
@[simp] theorem qO:aa 4 (o::r) T=aa 3 r T:=d6
@[simp] theorem qN:aa 5 (o::r) T=aa 4 r T:=d6
@[simp] theorem qM:aa 6 (o::r) T=aa 5 r T:=d6
@[simp] theorem EZ:aa 7 (o::r) T=aa 6 r T:=d6
@[simp] theorem KH:aa 8 (o::r) T=aa 7 r T:=d6
@[simp] theorem KG:aa 9 (o::r) T=aa 8 r T:=d6
@[simp] theorem zK:fC x ρ T=some (.d x,T):=rfl
@[simp] theorem KF:view T (.d x)=some x:=rfl
@[simp] theorem J9:view T (.tp i)=(T[i]?).bind jU:=rfl
@[simp] theorem KY:jU xs=if isO xs=true then none else some (.list xs):=rfl
@[simp] theorem KE:isO (.list xs::r)=false:=rfl
@[simp] theorem Ka:view T (.loc (.list xs))=some (.list xs):=rfl
@[simp] theorem ev_viewLD:view T (.loc (.dict xs))=some (.dict xs):=rfl
noncomputable def mkD(T:Tp)(o:Option PyData):Option (W×Tp):=match o with
 |some d=>some (.d d,T)
 |none=>none
@[simp] theorem nX:mkD T (some x)=some (.d x,T):=rfl
@[simp] theorem Lc:mkD T none=none:=rfl
@[simp] theorem Lf[Decidable p]:mkD T (if p then u else v)=if p then mkD T u else mkD T v:=by split <;> rfl
def zM(o:PyData->PyData->Option PyData)(g:FE)(ρ:Rho)(w1:W)(T1:Tp):Option (W×Tp):=bnd (g ρ T1) fun w2 T2=>op2 o T2 w1 w2
@[simp] theorem nY:af o f g ρ T=bnd (f ρ T) (zM o g ρ):=rfl
@[simp] theorem mZ:zM o g ρ w T=bnd (g ρ T) fun w2 T2=>op2 o T2 w w2:=rfl
@[simp] theorem nV:op2 o T (.d x) (.d y)=mkD T (o x y):=rfl
@[simp] theorem K6:op2 o ((.list zs::xs)::r) (.tp 0) (.d y)=mkD ((.list zs::xs)::r) (o (.list (.list zs::xs)) y):=rfl
@[simp] theorem MU:fUn o f ρ T=bnd (f ρ T) fun w1 T1=>op1 o T1 w1:=rfl
@[simp] theorem Mg:op1 o T (.d x)=mkD T (o x):=rfl
@[simp] theorem MO:asB (.d (.bool b))=some b:=rfl
def zk:W->Tp->Option (Bool×Tp):=fun w T1=>match asB w with
 |some b=>some (b,T1)
 |none=>none
@[simp] theorem G8:ay f ρ T=bnd (f ρ T) zk:=rfl
@[simp] theorem E3:zk (.d (.bool b)) T=some (b,T):=rfl
@[simp] theorem L4:bf f ρ T=bnd (f ρ T) fun w T1=>oU T1 w:=rfl
def zm(T:Tp)(o:Option Bool):Option (Bool×Tp):=match o with
 |some b=>some (b,T)
 |none=>none
@[simp] theorem KL:oU T (.d x)=zm T (oS x):=rfl
@[simp] theorem KI:zm T (some b)=some (b,T):=rfl
@[simp] theorem KJ:oS (.bool b)=some b:=rfl
def zd(c':FT)(ρ:Rho)(b:Bool)(T1:Tp):Option (Bool×Tp):=if b=true then c' ρ T1 else some (false,T1)
@[simp] theorem LR:bU c c' ρ T=bnd (c ρ T) (zd c' ρ):=rfl
@[simp] theorem KB:zd c' ρ b T=if b=true then c' ρ T else some (false,T):=rfl
def zB(c':FT)(ρ:Rho)(b:Bool)(T1:Tp):Option (Bool×Tp):=if b=true then some (true,T1) else c' ρ T1
@[simp] theorem Me:dU c c' ρ T=bnd (c ρ T) (zB c' ρ):=rfl
@[simp] theorem K5:zB c' ρ b T=if b=true then some (true,T) else c' ρ T:=rfl
@[simp] theorem K8:cB c ρ T=bnd (c ρ T) fun b T1=>some (!b,T1):=rfl
@[simp] theorem Kf:bF ρ T=some (true,T):=rfl
def zP(g:FE)(ρ:Rho)(w:W)(T:Tp):Option (W×Tp):=match asB w with
 |some b=>if b=true then g ρ T else some (.d (.bool false),T)
 |none=>none
@[simp] theorem LQ:gC f g ρ T=bnd (f ρ T) (zP g ρ):=rfl
@[simp] theorem LS:zP g ρ (.d (.bool b)) T=if b=true then g ρ T else some (.d (.bool false),T):=rfl
def orK(g:FE)(ρ:Rho)(w:W)(T:Tp):Option (W×Tp):=match asB w with
 |some b=>if b=true then some (.d (.bool true),T) else g ρ T
 |none=>none
@[simp] theorem Md:JE f g ρ T=bnd (f ρ T) (orK g ρ):=rfl
@[simp] theorem Mf:orK g ρ (.d (.bool b)) T=if b=true then some (.d (.bool true),T) else g ρ T:=rfl
def zF(w:W)(T:Tp):Option (W×Tp):=match asB w with
 |some b=>some (.d (.bool (!b)),T)
 |none=>none
@[simp] theorem K7:r8 f ρ T=bnd (f ρ T) zF:=rfl
@[simp] theorem K9:zF (.d (.bool b)) T=some (.d (.bool (!b)),T):=rfl
def zH(f g:FE)(ρ:Rho)(b:Bool)(T1:Tp):Option (W×Tp):=if b=true then f ρ T1 else g ρ T1
@[simp] theorem ME:bW c f g ρ T=bnd (c ρ T) (zH f g ρ):=rfl
@[simp] theorem Lu:zH f g ρ b T=if b=true then f ρ T else g ρ T:=rfl
def chK(o':PyData->PyData->Option PyData)(h:FE)(ρ:Rho)(w2 w:W)(T:Tp):Option (W×Tp):=match asB w with
 |some b=>if b=true then bnd (h ρ T) fun w3 T4=>op2 o' T4 w2 w3 else some (.d (.bool false),T)
 |none=>none
@[simp] theorem Kz:gY o o' f g h ρ T=bnd (f ρ T) fun w1 T1=>bnd (g ρ T1) fun w2 T2=>bnd (op2 o T2 w1 w2) (chK o' h ρ w2):=rfl
@[simp] theorem ML:chK o' h ρ w (.d (.bool b)) T=if b=true then bnd (h ρ T) fun w3 T4=>op2 o' T4 w w3 else some (.d (.bool false),T):=rfl
@[simp] theorem nW:ah ρ T=some ([],T):=rfl
def y0(a:FA)(ρ:Rho)(w:W)(T1:Tp):Option (List W×Tp):=bnd (a ρ T1) fun ws T2=>some (w::ws,T2)
@[simp] theorem mY:ae f a ρ T=bnd (f ρ T) (y0 a ρ):=rfl
@[simp] theorem mG:y0 a ρ w T=bnd (a ρ T) fun ws T2=>some (w::ws,T2):=rfl
@[simp] theorem JP:views T []=some []:=rfl
def lJ(x:PyData)(o:Option (List PyData)):Option (List PyData):=match o with
 |some xs=>some (x::xs)
 |none=>none
@[simp] theorem Ky:lJ x (some xs)=some (x::xs):=rfl
@[simp] theorem J8:views T (.d x::r)=lJ x (views T r):=rfl
@[simp] theorem JO:views T (.loc (.list xs)::r)=lJ (.list xs) (views T r):=rfl
@[simp] theorem J7:dQ []=some []:=rfl
@[simp] theorem Kx:dQ (.d x::r)=lJ x (dQ r):=rfl
def sqK(mk:List PyData->PyData)(T:Tp):Option (List PyData)->Option (W×Tp)
 |some xs=>if xs.length<=1000 then some (.d (mk xs),T) else none
 |none=>none
@[simp] theorem KS:av mk a ρ T=bnd (a ρ T) fun ws T1=>sqK mk T1 (dQ ws):=rfl
@[simp] theorem L7:sqK mk T (some xs)=if xs.length<=1000 then some (.d (mk xs),T) else none:=rfl
def cbK(o:List PyData->Option PyData)(T:Tp)(v:Option (List PyData)):Option (W×Tp):=match v with
 | some xs=>(match o xs with
  |some d=>some (.d d,T)
  | none=>none)
 |none=>none
@[simp] theorem M4:fCB o a ρ T=bnd (a ρ T) fun ws T1=>cbK o T1 (views T1 ws):=rfl
@[simp] theorem MM:cbK o T (some xs)=mkD T (o xs):=rfl
@[simp] theorem wL:ar m a ρ T=bnd (a ρ T) fun ws T1=>bnd (m ws T1) fun x T2=>some (.d x,T2):=rfl
@[simp] theorem LL:bH it c f ρ T=bnd (it ρ T) fun ds T1=>bnd (bC c f ρ ds T1) fun ys T2=>some (.d (.list ys),T2):=rfl
def itK(T:Tp)(o:Option (List PyData)):Option (List PyData×Tp):=match o with
 |some xs=>some (xs,T)
 |none=>none
def itW:W->Tp->Option (List PyData×Tp):=fun w T1=>match w with
 | .d x=>(match iN x with
  |some xs=>some (xs,T1)
  | none=>none)
 |_=>none
@[simp] theorem Lo:bc f ρ T=bnd (f ρ T) itW:=rfl
@[simp] theorem MA:itW (.d x) T=itK T (iN x):=rfl
@[simp] theorem MB:itK T (some xs)=some (xs,T):=rfl
@[simp] theorem J3:iN (.list xs)=some xs:=rfl
@[simp] theorem J4:iN (.dict ds)=some (ds.map (·.1)):=rfl
@[simp] theorem J1:iN (.tuple xs)=some xs:=rfl
@[simp] theorem J2:iN (.str z)=if z.length<=sizeLine then some (signs z) else none:=rfl
def zt:W->Tp->Option (List PyData×Tp):=fun w T1=>match w with
 |.d (.int j)=>if eS j=true then some (cy 0 j.toNat,T1) else none
 |_=>none
@[simp] theorem K0:dF f ρ T=bnd (f ρ T) zt:=rfl
@[simp] theorem KZ:zt (.d (.int j)) T=if eS j=true then some (cy 0 j.toNat,T) else none:=rfl
@[simp] theorem yf:bw i it s ρ T=bnd (it ρ T) fun ds T1=>forL i s ds ρ T1:=rfl
@[simp] theorem L6:fh (.int i) (.int j)=some (.int (i-j)):=rfl
@[simp] theorem Mn:gD (.int i) (.int j)=if 0<j then some (.int (i % j)) else none:=rfl
@[simp] theorem LC:IU (.int i) (.int j)=if 0<j/\j<1073741824 then some (.int (i / j)) else none:=rfl
@[simp] theorem Mc:fj (.int i) (.int j)=if 0<=j/\j<=1000000/\i.natAbs<2^64 then some (.int (i^j.toNat)) else none:=rfl
@[simp] theorem MX:ltD (.int i) (.int j)=some (.bool (decide (i<j))):=rfl
@[simp] theorem MY:leD (.int i) (.int j)=some (.bool (decide (i<=j))):=rfl
@[simp] theorem M0:gtD (.int i) (.int j)=some (.bool (decide (j<i))):=rfl
@[simp] theorem M3:geD (.int i) (.int j)=some (.bool (decide (j<=i))):=rfl
@[simp] theorem wM:aS (.int i) (.int j)=some (.int (i+j)):=rfl
@[simp] theorem E5:aS (.str u) (.str v)=if u.length+v.length<=sizeLine then some (.str (u++v)) else none:=rfl
@[simp] theorem LU:aS (.tuple u) (.tuple v)=if u.length+v.length<=sizeLine then some (.tuple (u++v)) else none:=rfl
@[simp] theorem LV:aS (.list u) (.list v)=if u.length+v.length<=sizeLine then some (.list (u++v)) else none:=rfl
@[simp] theorem Lb:eA (.int i) (.int j)=if (-(2^64)<i/\i<2^64)\/(-(2^64)<j/\j<2^64) then some (.int (i*j)) else none:=rfl
@[simp] theorem E4:eA (.str z) (.int k)=if 0<=k/\k<=2000/\z.length<=1000 then some (.str (Txt.mul z k)) else none:=rfl
@[simp] theorem Hd:eqD (.int i) (.int j)=some (.bool (decide (i=j))):=rfl
@[simp] theorem MJ:eqD (.str i) (.str j)=some (.bool (decide (i=j))):=rfl
@[simp] theorem MK:eqD (.bool i) (.bool j)=some (.bool (decide (i=j))):=rfl
@[simp] theorem Ml:neD (.int i) (.int j)=some (.bool (!decide (i=j))):=rfl
@[simp] theorem Mj:neD (.str i) (.str j)=some (.bool (!decide (i=j))):=rfl
@[simp] theorem Mm:neD (.bool i) (.bool j)=some (.bool (!decide (i=j))):=rfl
@[simp] theorem MZ:isD x .none=some (.bool (isNone x)):=by cases x <;> rfl
@[simp] theorem Ku:eP (.bool i) (.bool j)=some (.bool (i != j)):=rfl
@[simp] theorem Mi:fW (.int i)=some (.int (-i)):=rfl
@[simp] theorem MC:bz k x=some (.bool (b9 (kd x) k)):=rfl
@[simp] theorem Mz:ixD (.list xs) (.int i)=atI xs i:=rfl
@[simp] theorem My:ixD (.tuple xs) (.int i)=atI xs i:=rfl
@[simp] theorem Ha:ixD (.str z) (.int i)=if z.length<=sizeLine then (atI z.cps.toList i).map (fun c=>.str ⟨#[c]⟩) else none:=rfl
@[simp] theorem Ll:a8 [.list xs]=some (.int xs.length):=rfl
@[simp] theorem Lj:a8 [.tuple xs]=some (.int xs.length):=rfl
@[simp] theorem Lk:a8 [.str z]=if z.length<=sizeLine then some (.int z.length) else none:=rfl
@[simp] theorem MR:lT [.int i]=some (.int (if i<0 then -i else i)):=rfl
@[simp] theorem Mq:IB [.int i,.int j]=some (.int (if j>i then j else i)):=rfl
@[simp] theorem Mp:IA [.int i,.int j]=some (.int (if j<i then j else i)):=rfl
@[simp] theorem JR:bE [.list xs]=some (.tuple xs):=rfl
@[simp] theorem JQ:bE [.tuple xs]=some (.tuple xs):=rfl
@[simp] theorem Kr:gx [.list xs]=some (.list xs):=rfl
@[simp] theorem Kq:gx [.tuple xs]=some (.list xs):=rfl
@[simp] theorem Mv:kd (.int i)=.int:=rfl
@[simp] theorem Mx:kd (.bool i)=.bl:=rfl
@[simp] theorem Ms:kd (.str i)=.str:=rfl
@[simp] theorem Mr:kd (.tuple i)=.tup:=rfl
@[simp] theorem Mu:kd (.list i)=.lst:=rfl
@[simp] theorem Mw:kd (.dict i)=.dct:=rfl
@[simp] theorem Mt:kd .none=.non:=rfl
end
theorem at0{α:Type}{a b c:α}:atI [a,b,c] 0=some a:=rfl
theorem at1{α:Type}{a b c:α}:atI [a,b,c] 1=some b:=rfl
theorem at2{α:Type}{a b c:α}:atI [a,b,c] 2=some c:=rfl
theorem ix1:ixN 3 1=some 1:=rfl
theorem ix2:ixN 3 2=some 2:=rfl
theorem eO:∀{ds:List PyData},(∀d∈ds,e (some (.d d)::ρ) T=some (.d (g d),T))->bC bF e ρ ds T=some (ds.map g,T)
 |[],_=>rfl
 |d::r,h=>by
  have ih:=eO (ds:=r) fun x hx=>h x (List.mem_cons_of_mem _ hx);have h0:=h d List.mem_cons_self;unfold bC;simp[h0,ih]
theorem sW:∀{ds:List PyData},(∀d∈ds,c (some (.d d)::ρ) T=some (p d,T))->bC c (aa 0) ρ ds T=some (ds.filter p,T)
 |[],_=>rfl
 |d::r,h=>by
  have ih:=sW (ds:=r) fun x hx=>h x (List.mem_cons_of_mem _ hx);have h0:=h d List.mem_cons_self;unfold bC
  cases hp:p d with
  |false=>simp[h0,hp,ih]
  |true=>simp[h0,hp,ih]
theorem t6{α:Type}(p:α->Bool):∀l:List α,iU (l.map fun d=>.bool (p d))=some (l.map p)
 |[]=>rfl
 |d::r=>by
  show (iU (r.map fun d=>.bool (p d))).map (p d::·)=_;rw[t6 p r];rfl
theorem pS{α:Type}(p:α->Int):∀l:List α,gy (l.map fun d=>.int (p d))=some (l.map p)
 |[]=>rfl
 |d::r=>by
  show (gy (r.map fun d=>.int (p d))).map (p d::·)=_;rw[pS p r];rfl
theorem l7{α:Type}(p:α->Str):∀l:List α,d9 (l.map fun d=>.str (p d))=some (l.map p)
 |[]=>rfl
 |d::r=>by
  show (d9 (r.map fun d=>.str (p d))).map (p d::·)=_;rw[l7 p r];rfl
@[simp] theorem MQ{α:Type}(p:α->Bool)(l:List α):j6 [.list (l.map fun d=>.bool (p d))]=some (.bool (l.all p)):=by
 show (iU _).map (fun bs=>PyData.bool (bs.all id))=_;rw[t6,Option.map_some,List.all_map];rfl
@[simp] theorem L5{α:Type}(p:α->Int)(l:List α):jT [.list (l.map fun d=>.int (p d))]=some (.int (l.map p).sum):=by
 show (gy _).map (fun bs=>PyData.int bs.sum)=_;rw[pS,Option.map_some]
@[simp] theorem Lg{α:Type}(p:α->Int)(l:List α)(k:Int):lm (.list (l.map fun d=>.int (p d))) (.int k)=some (.int (K1.cE k (l.map p))):=by
 show (gy _).map (fun bs=>PyData.int (K1.cE k bs))=_;rw[pS,Option.map_some]
def kX(y:Str):PyData->Bool
 |.str z=>jX y z
 |_=>false
theorem C4(y:Str)(c:Nat):jX y ⟨#[c]⟩=decide (c∈y.cps.toList):=StrLaws.found_one ..
@[simp] theorem MD:inD (.str x) (.str y)=some (.bool (jX y x)):=rfl
theorem uj(h:d∈D.signs x):∃c,c∈x.cps.toList/\d=.str ⟨#[c]⟩:=by
 obtain⟨c,hc,rfl⟩:=List.mem_map.mp h;exact⟨c,hc,rfl⟩
section
variable {X:Cx}
def DZ:PyData->PyData->Option PyData
 |.str z,.str y=>some (.bool (Txt.startswith z y))
 |_,_=>none
theorem Cg:CallR X (.type "int") (fun xs H Q=>∃x n,xs=[.str x]/\PySem.intText? x=some n/\x.length<=640/\Q (.int n) H):=by
 intro pins s σ H xs us Q I r h;obtain⟨x,n,rfl,hn,hl,q⟩:=h;obtain⟨u,rfl,ru⟩:=vals1 r;obtain⟨t,rfl⟩:=ru;exact PySem.W.KIN.call_text hn hl ⟨.int n,H,I.tok _,⟨_,rfl⟩,q⟩
def intD:List PyData->Option PyData
 |[.int i]=>some (.int i)
 |[.bool b]=>some (.int (if b then 1 else 0))
 |[.str x]=>if x.length<=640 then (PySem.intText? x).map .int else none
 |_=>none
theorem sj:fU X (.type "int") intD:=⟨_,call_int1.or Cg,fun O ts H T vs xs d Q hc h e q=>by
 unfold intD at e;split at e
 .cases e
  obtain⟨v,rfl,g⟩:=dm h;cases g.int;exact .inl (.inl ⟨_,rfl,q _ H (.refl _ _) hc (.int _)⟩)
 .cases e
  obtain⟨v,rfl,g⟩:=dm h;cases g.bl;exact .inl (.inr ⟨_,rfl,q _ H (.refl _ _) hc (.int _)⟩)
 .split at e
  .rename_i hz
   obtain⟨n,e1,rfl⟩:=Option.map_eq_some_iff.mp e;obtain⟨v,rfl,g⟩:=dm h;cases g.str;exact .inr ⟨_,n,rfl,e1,hz,q _ H (.refl _ _) hc (.int _)⟩
  .cases e
 .cases e⟩
end
@[simp] theorem JS:DZ (.str z) (.str y)=some (.bool (Txt.startswith z y)):=rfl
@[simp] theorem Lp:intD [.str x]=if x.length<=640 then (PySem.intText? x).map .int else none:=rfl
@[simp] theorem Lq:intD [.int i]=some (.int i):=rfl
@[simp] theorem Lr:intD [.bool b]=some (.int (if b then 1 else 0)):=rfl
def eqG(x y:PyData):Option PyData:=if SeqAt.shaped x=true/\SeqAt.shaped y=true then some (.bool (PyData.eqv x y)) else none
def neG(x y:PyData):Option PyData:=if SeqAt.shaped x=true/\SeqAt.shaped y=true then some (.bool (!PyData.eqv x y)) else none
section
variable {X:Cx}
theorem Vw.reads(I:Inv X pins σ H s)(h:Vw X.K O H v d)(r:RelV v u):∃as,Reads s.heap u d as:=by
 cases h with
 |rep h=>obtain⟨as,rd,_⟩:=h.reads I r;exact⟨as,rd⟩
 |raw h hs=>
  cases r;obtain⟨its,rv,pl,_⟩:=I.list (SqL.of h);obtain⟨o,n,e,c,_,dd⟩:=pl;obtain⟨as,rd,_⟩:=hs.reads I rv;exact⟨_,.list e c dd (by simpa using rd)⟩
 |rawD h rk=>
  cases r;obtain⟨z,y,vs,kv,o,es,ep,e,ed,dd,_,ek,_⟩:=(show ObjOk X.prog X.w H s.heap _ (.dK _) from I.hok _ _ h);obtain⟨bs,q1,q2,f⟩:=RepK.reads I rk kv ek;exact⟨_,.dict (as:=[]) (bs:=bs) e ed.1 dd q1 q2⟩
theorem GA(hr:Room k X.A):OpR X (compareOp .Eq) (fun x y H Q=>∃O d1 d2,Vw X.K O H x d1/\Vw X.K O H y d2/\SeqAt.shaped d1=true/\SeqAt.shaped d2=true/\Q (.bl (PyData.eqv d1 d2)) H):=by
 intro pins s σ H x y v u Q I rx ry h;obtain⟨O,d1,d2,h1,h2,s1,s2,q⟩:=h;obtain⟨as,r1⟩:=h1.reads I rx;obtain⟨bs,r2⟩:=h2.reads I ry;exact SeqAt.compareEq_shaped r1 r2 s1 s2 (by have:=hr.un;omega) ⟨.bl _,H,I,rfl,q⟩
theorem Gv(hr:Room k X.A):OpR X (compareOp .NotEq) (fun x y H Q=>∃O d1 d2,Vw X.K O H x d1/\Vw X.K O H y d2/\SeqAt.shaped d1=true/\SeqAt.shaped d2=true/\Q (.bl (!PyData.eqv d1 d2)) H):=by
 intro pins s σ H x y v u Q I rx ry h;obtain⟨O,d1,d2,h1,h2,s1,s2,q⟩:=h;obtain⟨as,r1⟩:=h1.reads I rx;obtain⟨bs,r2⟩:=h2.reads I ry;exact SeqAt.compareNe_shaped r1 r2 s1 s2 (by have:=hr.un;omega) ⟨.bl _,H,I,rfl,q⟩
theorem yK(hr:Room k X.A):OpD X (compareOp .Eq) eqG:=⟨_,GA hr,fun O ts H T v1 v2 x y d Q hc h1 h2 e q=>by
 unfold eqG at e;split at e
 .rename_i h
  cases e;exact⟨O,x,y,h1,h2,h.1,h.2,q _ H (.refl _ _) hc (.bl _)⟩
 .cases e⟩
theorem jL(hr:Room k X.A):OpD X (compareOp .NotEq) neG:=⟨_,Gv hr,fun O ts H T v1 v2 x y d Q hc h1 h2 e q=>by
 unfold neG at e;split at e
 .rename_i h
  cases e;exact⟨O,x,y,h1,h2,h.1,h.2,q _ H (.refl _ _) hc (.bl _)⟩
 .cases e⟩
open Classical in
def lS(h:Heap)(x:PyData)(v:Value):Bool:=if e:∃p:PyData×List Addr,Reads h v p.1 p.2 then PyData.eqv e.choose.1 x else false
theorem wR(r:Reads h v d as):lS h x v=PyData.eqv d x:=by
 have e:∃p:PyData×List Addr,Reads h v p.1 p.2:=⟨(d,as),r⟩;unfold lS;rw[dif_pos e];have:=(PySem.Reads.unique e.choose_spec d as r).1;rw[this]
theorem vi:∀{vs:List Value}{ds:List PyData}{as:List Addr},ReadsAll h vs ds as->vs.any (lS h x)=ds.any fun d=>PyData.eqv d x
 |_,_,_,.nil=>rfl
 |_,_,_,.cons r rs=>by rw[List.any_cons,List.any_cons,wR r,vi rs]
theorem readsAll_mem:∀{vs:List Value}{ds:List PyData}{as:List Addr}{v:Value},ReadsAll h vs ds as->v∈vs->∃d bs,d∈ds/\Reads h v d bs
 |_,_,_,_,.cons r rs,hm=>by
  rcases List.mem_cons.mp hm with z|z
  .subst z;exact⟨_,_,List.mem_cons_self,r⟩
  .obtain⟨d,bs,h1,h2⟩:=readsAll_mem rs z
   exact⟨d,bs,List.mem_cons_of_mem _ h1,h2⟩
def inG:PyData->PyData->Option PyData
 |x,.tuple ys=>if SeqAt.shaped x=true/\ys.all SeqAt.shaped=true then some (.bool (ys.any fun y=>PyData.eqv y x)) else none
 |_,_=>none
theorem Gy(hr:Room k X.A):OpR X (compareOp .In) (fun x y H Q=>∃O d1 a vs ds,Vw X.K O H x d1/\y=.ref a/\SqT X.K H a vs/\Reps X.K O H vs ds/\SeqAt.shaped d1=true/\ds.all SeqAt.shaped=true/\Q (.bl (ds.any fun y=>PyData.eqv y d1)) H):=by
 intro pins s σ H x y v u Q I rx ry h;obtain⟨O,d1,a,vs,ds,h1,rfl,h2,h3,s1,s2,q⟩:=h;cases ry;obtain⟨as,r1⟩:=h1.reads I rx;obtain⟨its,rv,p1,_⟩:=I.tuple h2;obtain⟨bs,r2,_⟩:=h3.reads I rv;refine SeqAt.in_tupleAt (lS s.heap d1) p1 (fun y hy=>?_) ?_
 .obtain⟨d,cs,hd,rd⟩:=readsAll_mem r2 (by simpa using hy)
  rw[wR rd];have sd:=List.all_eq_true.mp s2 d hd;refine SeqAt.eqAt_reads d d1 _ s y v _ _ rd r1 (SeqAt.canLay_of_shaped sd) (SeqAt.canLay_of_shaped s1) (SeqAt.room_of_shaped sd ?_);have:=hr.un;show X.A.in1.units+64<cLine
  have e:X.A.in1.units<=X.A.units+1:=by simp[Around.in1]
  omega
 .have e:its.toArray.any (lS s.heap d1)=ds.any fun y=>PyData.eqv y d1:=by
   rw[←vi r2];simp
  rw[e];exact⟨.bl _,H,I,rfl,q⟩
theorem yJ(hr:Room k X.A):OpD X (compareOp .In) inG:=⟨_,Gy hr,fun O ts H T v1 v2 x y d Q hc h1 h2 e q=>by
 unfold inG at e;split at e
 .split at e
  .rename_i h
   cases e;obtain⟨a,vs,rfl,t,r⟩:=h2.tup;exact⟨O,x,a,vs,_,h1,rfl,t.sq,r,h.1,h.2,q _ H (.refl _ _) hc (.bl _)⟩
  .cases e
 .cases e⟩
end
theorem BJ(l:Addr)(items:Array Value)(n:Nat)(b:Addr)(items2:Array Value)(n2:Nat)(dd:Option Addr)(sl:Array (Option Value))(hc0:¬(!items.isEmpty&&Builtin.List.listTooLong (items.size+items2.size))=true)(hc1:items.size<=sizeLine)(hs2:items.size+items2.size<=sizeLine+1) :
  Meets (Builtin.«list.extend» ⟨[.ref l,.ref b],[]⟩) (fun _ R s=>s.heap.get? l=some { cls:=.type "list",dict:=none,data:=.seq items n,slots:=#[] }/\s.heap.get? b=some { cls:=.type "list",dict:=dd,data:=.seq items2 n2,slots:=sl }/\R (.ok (.ret Value.none)) { s with heap:=s.heap.update l (Obj.mapSeq fun x=>x++items2),toks:=s.toks }):=
 .of_wp fun prog w A R s h=>by
  obtain⟨hp,g,d,tk,os⟩:=s;obtain⟨hl,hb,h⟩:=h;have f1:=AutoSeq1.idx_int;have f2:=AutoSeq1.sub_tuple_tuple;have f3:=AutoSeq1.sub_list_list;have f4:=AutoSeq1.sub_tuple_list;have f5:=AutoSeq1.sub_list_tuple
  have hz':(items++items2).size<=sizeLine+1:=by rw[Array.size_append];exact hs2
  wp_walk using(wpAny_updateSeq hl rfl (hz:=hc1) (_hz':=hz')),wpAny_loadPart' hl,wpAny_loadPart' hb;exact⟨_,rfl,h⟩
section
variable {X:Cx}
theorem GJ:MtM X "list.extend" (fun x vs H Q=>∃l b xs zs,x=.ref l/\vs=[.ref b]/\H l=some (.lst xs)/\SqL X.K H b zs/\xs.length+zs.length<=sizeLine/\Q .non (upd H l (.lst (xs++zs)))):=by
 intro pins s σ H x vs v us Q I rx rv h;obtain⟨l,b,xs,zs,rfl,rfl,hH,hB,hz,q⟩:=h;cases rx;obtain⟨u,rfl,ru⟩:=rv.one;cases ru;obtain⟨z,its,n,r,hl,e⟩:=I.lstM hH;obtain⟨its2,r2,pl,_⟩:=I.list hB;obtain⟨⟨cls2,dd2,data2,sl2⟩,n2,e2,c2,_,d2⟩:=pl;simp only at c2 d2;subst c2 d2;have hl2:=r2.length
 have hsz:its.toArray.size+its2.toArray.size<=sizeLine:=by rw[List.size_toArray,List.size_toArray];omega
 have hlong:¬(!its.toArray.isEmpty&&Builtin.List.listTooLong (its.toArray.size+its2.toArray.size))=true:=by
  rw[CP hsz,Bool.and_false];exact Bool.false_ne_true
 refine call_meets F.slot_list_extend ⟨_,e,rfl⟩ F.entry_list_extend (F.args_list_extend_2 _ _)
  (BJ l its.toArray n b its2.toArray n2 dd2 sl2 hlong (by rw[List.size_toArray];omega) (by omega)) ⟨e,e2,?_⟩
 refine⟨.non,_,I.lset (its':=its++its2) hH e (by simp) (r.append r2) ?_,rfl,q⟩;rw[List.length_append];omega
variable {pos:Pos}{e:Expr}{fe:FE}
def ig(i:Nat)(f:FE):FS:=fun ρ T=>bnd (f ρ T) fun w T1=>match w,ρ[i]? with
 |.d (.list ys),some (some (.loc (.list xs)))=>if xs.length+ys.length<=sizeLine then some ((.nx,ρ.set i (some (.loc (.list (xs++ys))))),T1) else none
 |_,_=>none
theorem yj(he:DE X e fe)(hN:X.N[i]? = some x:=by rfl)(hv:Vis X.env.scope x:=by first|exact Or.inl rfl|exact Or.inr (Or.inl rfl)|exact Or.inr (Or.inr rfl))(hd:(x == ("__debug__" : Str))=false:=by decide)
  (hcd:(x == ("__classdict__" : Str))=false:=by decide) 
  (hbase:attributeBase (.Name x p) "extend" X.env (eval (.Name x p) X.env)=eval (.Name x p) X.env:=by rfl)
  (hfew:((backTo cpos (starEach [e] X.env)).all (fun x=>!x.1)&&(backToKw cpos (keywordEach [] X.env)).all (fun x=>x.1.isSome)
   && decide (([e]:List Expr).length+([]:List Keyword).length+(if ([]:List Keyword).isEmpty then 0 else 1)<30))=true:=by exact oY rfl)
  (hline:(apos.endLine == cpos.line)=true:=by rfl) (hse:starEach [e] X.env=(false,eval e X.env)::starEach [] X.env:=by exact bb rfl) (hplain:(backTo cpos (starEach [] X.env)).any (·.1)=false:=by exact bS rfl)
  (hs:swapsWith (.Call (.Attribute (.Name x p) "extend" apos) [e] [] cpos) none pos.line X.env=pure false:=by rfl) :
  DS X (.Expr (.Call (.Attribute (.Name x p) "extend" apos) [e] [] cpos) pos) (ig i fe):=by
 refine⟨?_⟩;refine bZ (qD (lh PySem.F.plainAttrs_list PySem.F.slot_list_extend PySem.F.type_list_extend GJ (pv i hN hv hd hcd) (cX he.pe dA hse) hbase hfew hline hse hplain) hs) fun D σ H=>?_;rintro⟨O₀,H₀,F,ts,O,ρ,T,fl,ρ',T',rs,e,q⟩;obtain⟨w,T1,e1,e⟩:=aM e;split at e
 .rename_i ys xs h1
  split at e
  .rename_i h2
   cases e;obtain⟨v,k1,a,rfl,k2,k3,vs,k4,k5⟩:=rs.re i _ h1;refine⟨_,k1,.inl ⟨rfl,vs,SqL.of k4⟩,O,ts,ρ,T,_,_,rs.hc,rs.re,e1,fun u H1 s1 hc1 r1=>?_⟩;have rs1:=rs.step s1 hc1;have r1':Rep X.K O H1 u (.list ys):=r1
   cases r1' with
   |lst t r=>
    rename_i b us;exact⟨a,b,vs,us,rfl,rfl,s1 _ _ k3 k4,t.sq,by rw[k5.length,r.length];exact h2,q O _ _ (rs1.put (us:=[]) h1 k1 ((k5.mono (rs.hc.le s1)).append r))⟩
  .cases e
 .cases e
end
section
variable {X:Cx}{pos:Pos}{e:Expr}{f:FE}{x:Str}{p:Pos}{B:List (Str×Int)}
end
end D
namespace L2
open PySem PySem.Spec PyProof.Rows
open K1 (dy cE)
section
variable {prog:Program}{w:World}{A:Around}{R:Result->Shared->Prop}{it S:Addr}{fp wr:List Addr}{P:Nat->Value->Prop}{St:Nat->Heap->Prop}{ns:List Int}{kw:List (Str×Value)}
end
section
variable {X:Cx}
end
end L2
namespace D
open PySem PySem.Spec PyProof.Rows L2
section
variable {X:Cx}{pos:Pos}{e:Expr}{f:FE}{x:Str}{p:Pos}
variable {B:List (Str×Int)}
def mN:List Value->List Str->Bool
 |[],[]=>true
 |.str x _::r,y::s=>decide (x=y)&&mN r s
 |_,_=>false
def jr(look:Addr->Option Obj)(a:Addr)(ss:List Str):Bool:=match look a with
 |some ⟨.type n,_,.seq its _,_⟩=>decide (n="tuple")&&mN its.toList ss
 |_=>false
def sF(K:Frag)(mg:Str->Option Value)(x:Str)(ss:List Str):Prop:=∃a,mg x=some (.ref a)/\jr (fun b=>K.lookup b) a ss=true
theorem ug:∀{vs:List Value}{ss:List Str},mN vs ss=true->Vals (ss.map V.str) vs
 |[],[],_=>.nil
 |.str x t::r,y::s,h=>by
  have h':(decide (x=y)&&mN r s)=true:=h;rw[Bool.and_eq_true] at h';exact .cons ⟨t,by rw[of_decide_eq_true h'.1]⟩ (ug h'.2)
theorem ul{K:Frag}{O:Addr->Prop}{H:Hp}:∀ss:List Str,Reps K O H (ss.map V.str) (ss.map PyData.str)
 |[]=>.nil
 |x::r=>.cons (.str x) (ul r)
theorem qr(hg:Gl X x)(ht:sF X.K X.mg x ss)(hz:ss.length<=sizeLine:=by decide)(hd:(x == ("__debug__" : Str))=false:=by decide):DE X (.Name x p) (fC (.tuple (ss.map PyData.str))):=by
 obtain⟨a,hx,hl⟩:=ht;refine⟨?_⟩;refine bu (qE (v:=.ref a) hg hx rfl hd) (iL fun O H=>?_);unfold jr at hl;split at hl
 .rename_i n dd its c sl hk
  rw[Bool.and_eq_true] at hl;have rv:=ug hl.2;have hn:=of_decide_eq_true hl.1;subst hn;refine .tup (vs:=ss.map V.str) (.inr (.inr ⟨_,its,c,hk,rfl,rfl,?_,rv⟩)) (ul ss);have:=rv.length;rw[List.length_map] at this;have e2:its.toList.length=its.size:=Array.length_toList;omega
 .cases hl
def oQ(o:Obj)(ss:List Str):Bool:=jr (fun _=>some o) 0 ss
theorem ud{K:Frag}(h:K.lookup a=some o)(g:oQ o ss=true):jr (fun b=>K.lookup b) a ss=true:=by
 unfold oQ jr at g;unfold jr;dsimp only;rw[h];exact g
end
mutual
def aZ:PyData->Bool
 |.tuple ds=>bi ds
 |.list _=>false
 |.dict _=>false
 |_=>true
def bi:List PyData->Bool
 |[]=>true
 |d::r=>aZ d&&bi r
end
section
variable {K:Frag}{O:Addr->Prop}{H:Hp}
theorem TupAt.own(hm:∀b,O b->Mut (H b))(t:TupAt K (fun _=>False) H a vs):TupAt K O H a vs:=by
 rcases t with⟨_,t⟩|t
 .refine .inl ⟨fun z=>?_,t⟩
  rcases hm a z with⟨us,e⟩|⟨us,e⟩|⟨C,dx,us,e⟩ <;> rcases t with t|⟨o,t⟩ <;> (rw[e] at t;cases t)
 .exact .inr t
mutual
theorem Rep.own(hm:∀b,O b->Mut (H b)):∀{v:V}{d:PyData},Rep K (fun _=>False) H v d->aZ d=true->Rep K O H v d
 |_,_,.non,_=>.non
 |_,_,.bl b,_=>.bl b
 |_,_,.int i,_=>.int i
 |_,_,.str x,_=>.str x
 |_,_,.tup t r,h=>.tup (t.own hm) (Reps.own hm r (by simpa[aZ] using h))
 |_,_,.lst t r,h=>by simp[aZ] at h
 |_,_,.dct n t r,h=>by simp[aZ] at h
theorem Reps.own(hm:∀b,O b->Mut (H b)):∀{vs:List V}{ds:List PyData},Reps K (fun _=>False) H vs ds->bi ds=true->Reps K O H vs ds
 |_,_,.nil,_=>.nil
 |_,_,.cons (d:=d) (ds:=ds) r t,h=>by
  have h':(aZ d&&bi ds)=true:=by simpa[bi] using h
  rw[Bool.and_eq_true] at h';exact .cons (Rep.own hm r h'.1) (Reps.own hm t h'.2)
end
end
def lL:List W->Bool
 |[]=>true
 |.tp _::_=>false
 |.loc (.dict _)::_=>false
 |_::r=>lL r
theorem sC{K:Frag}{O:Addr->Prop}{ts:List Addr}{H:Hp}:∀{vs:List V}{ws:List W},fg K O ts H vs ws->lL ws=true->fg K (fun _=>False) [] H vs (ws.map jY)
 |_,[],.nil,_=>.nil
 |_,.d x::r,.cons h t,e=>.cons (show Rep K (fun _=>False) H _ x from Rep.mono (fun a o n e=>⟨fun z=>z,e⟩) h) (sC t e)
 |_,.tp _::_,.cons _ _,e=>by cases e
 |_,.loc x::r,.cons h t,e=>by
  have le:Le O H (fun _=>False) H:=fun a o n e=>⟨fun z=>z,e⟩;obtain⟨a,rfl,_,_,h3⟩:=h
  cases x with
  |list xs=>obtain⟨vs,h1,h2⟩:=h3;exact .cons (.lst (.inl ⟨fun z=>z,.inl h1⟩) (h2.mono le)) (sC t e)
  |dict xs=>cases e
  |_=>cases h3
def g7(m:FnM)(g:FA):FE:=fun ρ T=>bnd (g ρ T) fun ws T1=>if lL ws=true then (match m (ws.map jY) [] with
 |some (x,_)=>if aZ x=true then some (.d x,T1) else none
 | none=>none) else none
theorem qt(F:Fn X.prog X.w X.K X.mg X.base name ps k (spM X.K ps.length m))(hr:Room k X.A)(hg:Gl X name)(ha:DA X (e::es) g)(hl:fY g ps.length)(hdb:(name == ("__debug__" : Str))=false:=by decide)
  (he:starEach (e::es) X.env=(false,eval e X.env)::starEach es X.env:=by exact bb rfl) (hpl:(backTo pos (starEach es X.env)).any (·.1)=false:=by exact bS rfl):DE X (.Call (.Name name p) (e::es) [] pos) (g7 m g):=by
 refine⟨?_⟩;refine bu (lc F hr hg ha.pe hdb he hpl) fun σ H Q=>?_;rintro⟨O,ts,ρ,T,w,T',hc,re,e,q⟩;obtain⟨ws,T1,e1,e⟩:=aM e;split at e
 .rename_i hn
  split at e
  .rename_i x T2 e2
   split at e
   .rename_i hx
    cases e;refine⟨O,ts,ρ,T,ws,_,hc,re,e1,fun vs H1 s1 hc1 r1=>?_⟩;refine⟨fun _=>False,[],[],ws.map jY,x,T2,⟨fun b hb=>(by cases hb),fun b hb=>hb.elim,List.nodup_nil,rfl,fun i a xs e1 _=>by simp at e1⟩,by rw[List.append_nil];exact sC r1 hn,by rw[List.length_map];exact hl _ _ _ _ e1,e2,fun v H2 s2 hc2 r2=>?_⟩;have s2':SameX ts H1 H2:=fun b o _ q=>s2 b o (by simp) q
    have hm:∀b,O b->Mut (H2 b):=fun b hb=>by
     exact(hc1.trk b hb).to fun u z=>s2 b _ (by simp) z
    have hc2':=hc1.step s2' fun b hb=>by
     obtain⟨u,z⟩:=(hc1.trk b (hc1.own b hb)).ex;rw[z];exact s2 b _ (by simp) z
    exact q v H2 (s1.trans s2') hc2' (Rep.own hm r2 hx)
   .cases e
  .cases e
 .cases e
def aA(ds:List (PyData×PyData))(s:Str):Option PyData:=match ds with
 |[]=>none
 |(.str k,d)::r=>if k=s then some d else aA r s
 |_::r=>aA r s
theorem gT{K:Frag}{O:Addr->Prop}{H:Hp}{s:Str}:∀{kvs:List (Key×V)}{ds:List (PyData×PyData)},RepK K O H kvs ds->(aA ds s=none/\bJ kvs (Sum.inr s:Key)=none)\/∃v d,aA ds s=some d/\bJ kvs (Sum.inr s:Key)=some v/\Rep K O H v d
 |_,_,.nil=>.inl ⟨rfl,rfl⟩
 |_,_,.cons (k:=.inl i) (v:=v) (d:=d) (kvs:=kvs) (ds:=ds) r t=>by
  have e:bJ (((Sum.inl i:Key),v)::kvs) (Sum.inr s:Key)=bJ kvs (Sum.inr s:Key):=by simp[bJ,List.find?_cons]
  rw[e];show (aA ds s=none/\_)\/∃v d,aA ds s=some d/\_;exact gT (s:=s) t
 |_,_,.cons (k:=.inr k) (v:=v) (d:=d) (kvs:=kvs) (ds:=ds) r t=>by
  by_cases hk:k=s
  .subst hk
   exact .inr ⟨v,d,by show (if k=k then some d else aA ds k)=some d;rw[if_pos rfl],by simp[bJ,List.find?_cons],r⟩
  .have e:bJ (((Sum.inr k:Key),v)::kvs) (Sum.inr s:Key)=bJ kvs (Sum.inr s:Key):=by simp[bJ,List.find?_cons,hk]
   have e2:aA ((gE (Sum.inr k:Key),d)::ds) s=aA ds s:=by show (if k=s then some d else aA ds s)=_;rw[if_neg hk]
   rw[e,e2];exact gT (s:=s) t
theorem DGet.rd(e:Rd H a (.dK kvs)):DGet H a (kV k) (bJ kvs k):=.inl ⟨kvs,k,e,rfl,rfl⟩
section
variable {X:Cx}{pos:Pos}{k:Nat}
theorem lA(hr:Room k A):A.units+1<cLine:=by have:=hr.un;omega
end
section
variable {K:Frag}{O₀:Addr->Prop}{H₀:Hp}{F:List ((Addr->Prop)×Hp)}{ts:List Addr}{O:Addr->Prop}{H H1:Hp}{σ:L2.St}{ρ:Rho}{T T1:Tp}
end
section
variable {X:Cx}{pos:Pos}
def bN(ds:List (PyData×PyData))(s:Str)(x:PyData):List (PyData×PyData):=match ds with
 |[]=>[]
 |(.str k,d)::r=>if k=s then (.str k,x)::bN r s x else (.str k,d)::bN r s x
 |p::r=>p::bN r s x
theorem pP{K:Frag}{O:Addr->Prop}{H:Hp}{s:Str}{v:V}{x:PyData}(rx:Rep K O H v x):∀{kvs:List (Key×V)}{ds:List (PyData×PyData)},RepK K O H kvs ds->RepK K O H (kvs.map fun kv=>if kv.1=(Sum.inr s:Key) then (kv.1,v) else kv) (bN ds s x)
 |_,_,.nil=>.nil
 |_,_,.cons (k:=.inl i) r t=>by
  rw[List.map_cons];rw[if_neg (by intro z;cases z)];exact .cons (k:=.inl i) r (pP rx t)
 |_,_,.cons (k:=.inr k) (v:=u) (d:=d) (kvs:=kvs) (ds:=ds) r t=>by
  rw[List.map_cons];have ih:=pP (s:=s) rx t;show RepK K O H _ (if k=s then (.str k,x)::bN ds s x else (.str k,d)::bN ds s x)
  by_cases hk:k=s
  .rw[if_pos hk,if_pos (by rw[hk])]
   exact .cons (k:=.inr k) rx ih
  .rw[if_neg hk,if_neg (fun z=>hk (Sum.inr.inj z))]
   exact .cons (k:=.inr k) r ih
theorem mC{K:Frag}{O:Addr->Prop}{H:Hp}:∀{kvs:List (Key×V)}{ds:List (PyData×PyData)},RepK K O H kvs ds->kvs.length=ds.length
 |_,_,.nil=>rfl
 |_,_,.cons _ t=>congrArg (· + 1) (mC t)
theorem Bm{kvs:List (Key×V)}(h:(bJ kvs k).isSome=true):(kvs.any fun kv=>decide (kv.1=k))=true:=by
 unfold bJ at h;rw[Option.isSome_map] at h;rw[List.any_eq_true];obtain⟨p,hp⟩:=Option.isSome_iff_exists.mp h;exact⟨p,List.mem_of_find?_eq_some hp,by have:=List.find?_some hp;simpa using this⟩
end
section
variable {X:Cx}{pos:Pos}{e:Expr}{f:FE}{x:Str}{p:Pos}{B:List (Str×Str)}
def cC(i j:Nat)(f:FE):FS:=fun ρ T=>bnd (f ρ T) fun w T1=>match w with
 |.d (.tuple [x,y])=>some ((.nx,(ρ.set i (some (.d x))).set j (some (.d y))),T1)
 |_=>none
theorem rG(hN:X.N.Nodup)(he:DE X e f)(hi:X.N[i]? = some x:=by rfl)(hj:X.N[j]? = some y:=by rfl)(hx:Loc X.env.scope x:=by first|exact Or.inl rfl|exact Or.inr rfl)(hy:Loc X.env.scope y:=by first|exact Or.inl rfl|exact Or.inr rfl)
  (hf:X.fn x=true\/X.env.scope.names.lookup x=some .local:=by first|exact .inl rfl|exact .inr rfl|assumption) (hf':X.fn y=true\/X.env.scope.names.lookup y=some .local:=by first|exact .inl rfl|exact .inr rfl|assumption) (hc:X.calm=true:=by rfl)
  (hs:swapsWithSole [.Tuple [.Name x px,.Name y py] k tp] e pos.line X.env=pure false:=by rfl) (hw:swappedStores [.Tuple [.Name x px,.Name y py] k tp] e X.env=pure none:=by rfl)
  (h1:(assignEach [.Tuple [.Name x px,.Name y py] k tp] X.env).map (·.2)=[assign (.Tuple [.Name x px,.Name y py] k tp) X.env]:=by rfl):DS X (.Assign [.Tuple [.Name x px,.Name y py] k tp] e pos) (cC i j f):=by
 refine⟨?_⟩;refine bZ (rj he.pe (nF hc (gk (fF hN hi hx hf) (gk (fF hN hj hy hf') mQ))) hs hw h1) fun D σ H=>?_;rintro⟨O₀,H₀,F,ts,O,ρ,T,fl,ρ',T',rs,e,q⟩;obtain⟨w,T1,e1,e⟩:=aM e;refine⟨O,ts,ρ,T,w,T1,rs.hc,rs.re,e1,fun v H1 s1 hc1 r1=>?_⟩;split at e
 .rename_i a b
  cases e;have rs1:=rs.step s1 hc1;have r1':Rep X.K O H1 v (.tuple [a,b]):=r1
  cases r1' with
  |tup t r=>
   cases r with
   |cons ra r=>
    cases r with
    |cons rb r=>
     cases r;exact⟨_,_,rfl,t.sq,rfl,_,_,rfl,_,_,rfl,rfl,q O _ _ ((rs1.set (w:=.d a) ra fun _ z=>nomatch z).set (w:=.d b) rb fun _ z=>nomatch z)⟩
 .cases e
end
section
variable {K:Frag}{O:Addr->Prop}{ts:List Addr}{H H':Hp}{T:Tp}{n:Nat}{a C:Addr}{ps:List PyData}
end
section
variable {X:Cx}{C:Addr}{o e:Expr}{f m:Str}{pos pos' apos:Pos}{fo fe:FE}
structure Mth(P:Program)(w:World)(K:Frag)(mg:Str->Option Value)(base:Heap)(C:Addr)(m:Str)(ps:List Str)(k:Nat)(sp:Sp):Prop where
 ex:∃f fd,FnOk P w K mg base CX0 k f fd ps sp/\Binds K fd ps []/\Meth K C m f
variable {ps:List Str}{k:Nat}{mm:FnM}{g:FA}{es:List Expr}{pl:Sem Bool}
def yW:FS:=fun _ _=>none
theorem Fd{st:Stmt}:DS X st yW:=⟨fun _ _ _ _ _ _ h=>by
 obtain⟨O₀,H₀,F,ts,O,ρ,T,fl,ρ',T',rs,e,q⟩:=h
 cases e⟩
end
def rW(T:Tp):Option (Tp×List PyData):=match T.getLast? with
 |some xs=>some (T.dropLast,xs)
 |none=>none
theorem C1(h:rW T=some (T1,ys)):T=T1++[ys]:=by
 unfold rW at h;split at h
 .rename_i xs e
  cases h;obtain⟨zs,hl⟩:=List.getLast?_eq_some_iff.mp e;rw[hl];simp
 .cases h
section
variable {X:Cx}{C f:Addr}{e:Expr}{fe:FE}{fr:FS}{rest:List Stmt}{cn x:Str}{p pos pos' cpos:Pos}{ps:List Str}{k i:Nat}{m:FnM}{fd:FuncData}
end
end D
namespace L2
open PySem PySem.Spec PyProof.Rows
section
variable {X:Cx}
end
end L2
namespace D
open PySem PySem.Spec PyProof.Rows L2
section
variable {X:Cx}{pos:Pos}
def jJ(i:Nat)(ρ:Rho)(x y:Option PyData)(T:Tp):Option ((Fl×Rho)×Tp):=match x,y with
 |some (.list xs),some (.list ys)=>if xs.length+ys.length<=sizeLine then some ((.nx,ρ.set i (some (.loc (.list (xs++ys))))),T) else none
 |_,_=>none
def gA(i:Nat)(fa fb:FE):FS:=fun ρ T=>bnd (fa ρ T) fun w1 T1=>bnd (fb ρ T1) fun w2 T2=>jJ i ρ (view T2 w1) (view T2 w2) T2
theorem wW(hN:X.N.Nodup)(ha:DE X a fa)(hb:DE X b fb)(hi:X.N[i]? = some x:=by rfl)(hx:Loc X.env.scope x:=by first|exact Or.inl rfl|exact Or.inr rfl)(hs:swapsWith (.BinOp a .Add b bpos) (some (.Name x pos')) pos.line X.env=pure false:=by rfl)
  (hf:X.fn x=true\/X.env.scope.names.lookup x=some .local:=by first|exact .inl rfl|exact .inr rfl|assumption):DS X (.Assign [.Name x pos'] (.BinOp a .Add b bpos) pos) (gA i fa fb):=by
 refine⟨?_⟩;refine bZ (iI hN hi hx (yH v4 ha.pe hb.pe) hs hf) fun D σ H=>?_;rintro⟨O₀,H₀,F,ts,O,ρ,T,fl,ρ',T',rs,e,q⟩;obtain⟨w1,T1,e1,e⟩:=aM e;obtain⟨w2,T2,e2,e⟩:=aM e;refine⟨O,ts,ρ,T,w1,T1,rs.hc,rs.re,e1,fun v1 H1 s1 hc1 r1=>?_⟩;have rs1:=rs.step s1 hc1;refine⟨O,ts,ρ,T1,w2,T2,hc1,rs1.re,e2,fun v2 H2 s2 hc2 r2=>?_⟩;have rs2:=rs1.step s2 hc2;unfold jJ at e;split at e
 .rename_i xs ys h1 h2
  split at e
  .rename_i hz
   cases e;obtain⟨a1,vs,rfl,t1,q1⟩:=(hc2.view (r1.mono hc1 s2) h1).lst;obtain⟨b1,us,rfl,t2,q2⟩:=(hc2.view r2 h2).lst;exact⟨a1,b1,vs,us,rfl,rfl,t1,t2,by rw[q1.length,q2.length];exact hz,fun p hp=>q _ _ _ (rs2.own hp (q1.append q2))⟩
  .cases e
 .cases e
structure Ini(P:Program)(w:World)(K:Frag)(mg:Str->Option Value)(base:Heap)(C:Addr)(ps:List Str)(k:Nat)(sp:Sp):Prop where
 ex:∃f fd,FnOk P w K mg base CX0 k f fd ps sp/\L2.Binds K fd ps []/\Mk K C f
structure DfM(K:Frag)(C:Addr)(name qual:Str)(st:Stmt):Prop where
 ex:∃(f:Addr) (oc:Value) (od an:Option Addr) (sl:Array (Option Value)) (kV dc pm cd ct:Value),PySem.W.findIn K (.ref C) name=some (some (.ref f)) /\
  K.lookup f=some ⟨oc,od,.func (PySem.W.fnOf name qual (dz st) (bY st) (a9 st) .none kV dc pm an cd ct),sl⟩/\PySem.W.codeIn K cd qual=true/\PySem.W.keepIn K (.ref f)=true/\PySem.W.isFn K (.ref f)=true
def yR(ds:List (PyData×PyData)):List PyData:=ds.map (·.1)
def ID:List PyData->Option PyData
 |[.list xs]=>some (.list xs)
 |[.tuple xs]=>some (.list xs)
 |[.dict ds]=>some (.list (yR ds))
 |_=>none
theorem GX(r:Rd H a (.dK kvs)):IsD H a:=.inl ⟨kvs,r⟩
end
theorem BZ(h:Q (PySem.reduceHash 4238894112) { s with toks:=s.toks+1 }):wpAny (model prog w) A (pyHash .none) Q E s:=by
 show wpAny (model prog w) A (pyHashByItsType .none) Q E s;refine PySem.W.pyHash_slot (T:="NoneType") (by first|rfl|trivial|exact⟨_,rfl⟩|simp[Shared.TypeIs]) PySem.F.slot_NoneType_hash PySem.F.entry_NoneType_hash (PySem.F.args_NoneType_hash_1 _) rfl (.inl rfl) ?_;unfold PySem.Builtin.«NoneType.__hash__»;refine wpAny_bind ?_;unfold slotArgs;simp only[];rw[if_neg (by decide),if_neg (by decide)];refine wpAny_pure ?_;unfold retInt;refine wpAny_bind ?_
 first
  |exact wpAny_mkInt (wpAny_pure ⟨_,_,rfl,h⟩)
  |exact wpAny_mkInt (wpAny_ret ⟨_,_,rfl,h⟩)
def zE:Option Key->Value->Bool
 |none,.none=>true
 |none,_=>false
 |some k,v=>eW k v
def okH(w:World):Option Key->Int
 |none=>PySem.reduceHash 4238894112
 |some k=>zG w k
theorem eL(h:zE k v=true):(k=none/\v=.none)\/(∃i t,k=some (.inl i)/\v=.int i t)\/∃x t,k=some (.inr x)/\v=.str x t:=by
 cases k with
 |none=>cases v <;> first|exact .inl ⟨rfl,rfl⟩|cases h
 |some k=>
  rcases dX (show eW k v=true from h) with⟨i,t,rfl,rfl⟩|⟨x,t,rfl,rfl⟩
  .exact .inr (.inl ⟨i,t,rfl,rfl⟩)
  .exact .inr (.inr ⟨x,t,rfl,rfl⟩)
theorem vq(k:Key):decide ((none:Option Key)=some k)=false:=decide_eq_false (fun q=>nomatch q)
theorem uB(k:Key):decide (some k=(none:Option Key))=false:=decide_eq_false (fun q=>nomatch q)
theorem mI(a b:Key):decide (some a=some b)=decide (a=b):=by
 by_cases h:a=b
 .subst h;simp
 .rw[decide_eq_false h,decide_eq_false (fun q=>h (Option.some.inj q))]
def qF(prog:Program)(w:World):PySem.KeyKind prog w (Option Key) where
 is:=zE
 hash:=okH w
 inj:=fun v a b ha hb=>by
  rcases eL ha with⟨rfl,rfl⟩|⟨i,t,rfl,rfl⟩|⟨x,t,rfl,rfl⟩
  .rcases eL hb with⟨rfl,_⟩|⟨j,u,rfl,e⟩|⟨y,u,rfl,e⟩
   .rfl
   .exact nomatch e
   .exact nomatch e
  .rcases eL hb with⟨rfl,e⟩|⟨j,u,rfl,e⟩|⟨y,u,rfl,e⟩
   .exact nomatch e
   .injection e with e1 _;rw[e1]
   .exact nomatch e
  .rcases eL hb with⟨rfl,e⟩|⟨j,u,rfl,e⟩|⟨y,u,rfl,e⟩
   .exact nomatch e
   .exact nomatch e
   .injection e with e1 _;rw[e1]
 byValue:=fun k v h=>by
  rcases eL h with⟨rfl,rfl⟩|⟨i,t,rfl,rfl⟩|⟨x,t,rfl,rfl⟩ <;> rfl
 pyHash:=fun hv h=>by
  rcases eL hv with⟨rfl,rfl⟩|⟨i,t,rfl,rfl⟩|⟨x,t,rfl,rfl⟩
  .exact BZ h
  .exact wpAny_pyHash_int h
  .exact wpAny_pyHash_str h
 eqBool:=fun hu hv h=>by
  rcases eL hu with⟨rfl,rfl⟩|⟨i,t,rfl,rfl⟩|⟨x,t,rfl,rfl⟩
  .rcases eL hv with⟨rfl,rfl⟩|⟨j,u,rfl,rfl⟩|⟨y,u,rfl,rfl⟩
   .rw[show decide ((none:Option Key)=none)=true by simp] at h;exact SeqAt.EqAt.same .none _ _ _ _ h
   .rw[vq] at h;exact SeqAt.EqAt.none_int j u _ _ _ _ h
   .rw[vq] at h;exact SeqAt.EqAt.none_str y u _ _ _ _ h
  .rcases eL hv with⟨rfl,rfl⟩|⟨j,u,rfl,rfl⟩|⟨y,u,rfl,rfl⟩
   .rw[uB] at h;exact SeqAt.EqAt.int_none i t _ _ _ _ h
   .rw[mI,xX] at h;exact wpAny_eqBool_int h
   .rw[mI,xV] at h;exact SeqAt.EqAt.int_str i t y u _ _ _ _ h
  .rcases eL hv with⟨rfl,rfl⟩|⟨j,u,rfl,rfl⟩|⟨y,u,rfl,rfl⟩
   .rw[uB] at h;exact SeqAt.EqAt.str_none x t _ _ _ _ h
   .rw[mI,xU] at h;exact SeqAt.EqAt.str_int x t j u _ _ _ _ h
   .rw[mI,xT] at h;exact wpAny_eqBool_str h
 «strs»:=fun k x t v h=>by
  rcases eL h with⟨rfl,e⟩|⟨i,u,rfl,e⟩|⟨y,u,rfl,e⟩
  .exact nomatch e
  .exact nomatch e
  .injection e with e1 _
   subst e1
   cases v <;> rfl
theorem uq:∀{es:List DictEntry}{vs:List (Key×Value)},Pairs (bx P w) es vs->Pairs (qF P w) es (vs.map fun p=>(some p.1,p.2))
 |_,_,.nil=>.nil
 |_,_,.cons h1 h2 t=>.cons h1 h2 (uq t)
theorem Do{h:Heap}{vs:List (Key×Value)}(d:h.DictOf (bx P w) a vs):h.DictOf (qF P w) a (vs.map fun p=>(some p.1,p.2)):=by
 obtain⟨o,es,ep,e1,e2,e3,e4,e5,e6⟩:=d;refine⟨o,es,ep,e1,e2,e3,fun e he=>?_,uq e5,?_⟩
 .obtain⟨k,k1,k2⟩:=e4 e he
  exact⟨some k,k1,k2⟩
 .rw[List.map_map]
  show (vs.map fun p=>some p.1).Nodup
  have:(vs.map fun p=>some p.1)=(vs.map (·.1)).map some:=by rw[List.map_map];rfl
  rw[this];exact List.pairwise_map.mpr (List.Pairwise.imp (fun h q=>h (Option.some.inj q)) e6)
theorem uL:∀(vs:List (Key×Value)),valueAt (vs.map fun p=>((some p.1:Option Key),p.2)) none=none
 |[]=>rfl
 |p::r=>by
  have:=uL r;unfold valueAt at this ⊢;rw[List.map_cons,List.find?_cons];simpa using this
section
variable {X:Cx}
theorem A3:OpR X (compareOp .In) (fun x y H Q=>∃a kvs,x=.non/\y=.ref a/\Rd H a (.dK kvs)/\Q (.bl false) H):=by
 intro pins s σ H x y v u Q I rx ry h;obtain⟨a,kvs,rfl,rfl,e,q⟩:=h;cases (show v=Value.none from rx);cases (show u=Value.ref a from ry);obtain⟨z,hd,vs,rel,dd⟩:=dP I.hok e;refine wpAny_in_of (knd:=qF X.prog X.w) (k:=none) rfl hd (Do dd).mapOf ?_;rw[uL];exact⟨.bl false,H,I.tok _,rfl,q⟩
theorem GB(hr:Room k X.A):OpR X (compareOp .In) (fun x y H Q=>∃a kvs s,x=.str s/\y=.ref a/\Rd H a (.dK kvs)/\Q (.bl (bJ kvs (Sum.inr s:Key)).isSome) H):=by
 intro pins s σ H x y v u Q I rx ry h;obtain⟨a,kvs,z,rfl,rfl,e,q⟩:=h;cases (show u=Value.ref a from ry);exact JH (lA hr) I (DGet.rd (k:=Sum.inr z) e) (show RelV (kV (Sum.inr z)) v from rx) fun s' I'=>⟨.bl _,H,I',rfl,q⟩
theorem BA(hr:Room k X.A):OpR X (compareOp .NotIn) (fun x y H Q=>∃a kvs s,x=.str s/\y=.ref a/\Rd H a (.dK kvs)/\Q (.bl (!(bJ kvs (Sum.inr s:Key)).isSome)) H):=by
 intro pins s σ H x y v u Q I rx ry h;obtain⟨a,kvs,z,rfl,rfl,e,q⟩:=h;cases (show u=Value.ref a from ry);exact Fi (lA hr) I (DGet.rd (k:=Sum.inr z) e) (show RelV (kV (Sum.inr z)) v from rx) fun s' I'=>⟨.bl _,H,I',rfl,q⟩
theorem GT(hr:Room k X.A):IxR X (fun x y H Q=>∃a kvs s v,x=.ref a/\y=.str s/\Rd H a (.dK kvs)/\bJ kvs (Sum.inr s:Key)=some v/\Q v H):=by
 intro value slice pins s σ H x y v u Q I rx ry h hs;obtain⟨a,kvs,z,v0,rfl,rfl,e,l,q⟩:=h;cases (show v=Value.ref a from rx)
 have g:DGet H a (kV (Sum.inr z)) (some v0):=by rw[←l];exact DGet.rd e
 unfold subscriptTail;refine wpAny_bind ?_;rw[getitemInPython_of_ne (tj I g).not_modules];refine wpAny_bind (wpAny_specialOf (tj I g) PySem.F.slot_dict_getitem.lookup ?_)
 have fin:wpAny (model X.prog X.w) X.A (subscripted slice false (Value.ref a) u) (fun r s₃=>wpAny (model X.prog X.w) X.A (letTemporaryGo value (Value.ref a) r >>= fun _=>pure r) (EP X pins σ Q) X.xe s₃) X.xe s:=by
  rw[hs];exact wpAny_operating (Cb (lA hr) I g (show RelV (kV (Sum.inr z)) u from ry) fun w' s' I' rw'=>wpAny_bind (wpAny_letTemporaryGo (wpAny_pure ⟨v0,H,I',rw',q⟩)))
 first
  |exact wpAny_pure (wpAny_bind fin)
  |exact wpAny_bind (wpAny_pure (wpAny_bind fin))
  |exact wpAny_bind fin
def inK(s:PyData)(ds:List (PyData×PyData)):Option Bool:=match s with
 |.str s=>some (aA ds s).isSome
 |.none=>some false
 |_=>none
def inB(x y:PyData):Option Bool:=match y with
 |.dict ds=>inK x ds
 |y=>inS x y
def inA(x y:PyData):Option PyData:=(inB x y).map .bool
def c4(x y:PyData):Option PyData:=match x,y with
 |.str s,.dict ds=>some (.bool (!(aA ds s).isSome))
 |_,.dict _=>none
 |x,y=>(inS x y).map fun b=>.bool (!b)
theorem i3(hr:Room k X.A):OpD X (compareOp .In) inA:=⟨_,(op_in_str.or ur).or ((GB hr).or A3),fun O ts H T v1 v2 x y d Q hc h1 h2 e q=>by
 unfold inA at e
 by_cases hd:∃ds,y=.dict ds
 .obtain⟨ds,rfl⟩:=hd
  obtain⟨a,kvs,rfl,t,r⟩:=h2.dct;obtain⟨b,hb,rfl⟩:=Option.map_eq_some_iff.mp e;have hb':inK x ds=some b:=hb;unfold inK at hb';split at hb'
  .rename_i s
   cases hb';cases h1.str;refine .inr (.inl ⟨a,kvs,s,rfl,rfl,t,?_⟩)
   have e:(bJ kvs (Sum.inr s:Key)).isSome=(aA ds s).isSome:=by
    rcases gT (s:=s) r with⟨z1,z2⟩|⟨v,d,z1,z2,_⟩ <;> rw[z1,z2] <;> rfl
   rw[e];exact q _ H (.refl _ _) hc (.bl _)
  .cases hb'
   cases h1.non;exact .inr (.inr ⟨a,kvs,rfl,rfl,t,q _ H (.refl _ _) hc (.bl _)⟩)
  .cases hb'
 .have e':(inS x y).map .bool=some d:=by
   cases y with
   |dict ds=>exact absurd ⟨ds,rfl⟩ hd
   |_=>exact e
  exact .inl (nu false O ts H T v1 v2 x y d Q hc h1 h2 e' q)⟩
theorem iE(hr:Room k X.A):OpD X (compareOp .NotIn) c4:=⟨_,(op_notin_str.or sU).or (BA hr),fun O ts H T v1 v2 x y d Q hc h1 h2 e q=>by
 by_cases hd:∃ds,y=.dict ds
 .obtain⟨ds,rfl⟩:=hd
  obtain⟨a,kvs,rfl,t,r⟩:=h2.dct
  cases x with
  |str s=>
   cases e;cases h1.str;refine .inr ⟨a,kvs,s,rfl,rfl,t,?_⟩
   have e:(bJ kvs (Sum.inr s:Key)).isSome=(aA ds s).isSome:=by
    rcases gT (s:=s) r with⟨z1,z2⟩|⟨v,d,z1,z2,_⟩ <;> rw[z1,z2] <;> rfl
   rw[e];exact q _ H (.refl _ _) hc (.bl _)
  |_=>cases e
 .have e':((inS x y).map fun b=>.bool (!b))=some d:=by
   cases y with
   |dict ds=>exact absurd ⟨ds,rfl⟩ hd
   |_=>cases x <;> exact e
  exact .inl (nu true O ts H T v1 v2 x y d Q hc h1 h2 e' q)⟩
def ixA(x y:PyData):Option PyData:=match x,y with
 |.dict ds,.str s=>aA ds s
 |.dict _,_=>none
 |x,y=>ixD x y
theorem b8(hr:Room k X.A):IxD X ixA:=by
 obtain⟨r0,h0,s0⟩:=aq (X:=X);refine⟨_,h0.or (GT hr),fun O ts H T v1 v2 x y d Q hc h1 h2 e q=>?_⟩
 by_cases hd:∃ds,x=.dict ds
 .obtain⟨ds,rfl⟩:=hd
  obtain⟨a,kvs,rfl,t,r⟩:=h1.dct
  cases y with
  |str s=>
   have e':aA ds s=some d:=e;cases h2.str
   rcases gT (s:=s) r with⟨z1,z2⟩|⟨v,d',z1,z2,rv⟩
   .rw[z1] at e';cases e'
   .rw[z1] at e'
    cases e';exact .inr ⟨a,kvs,s,v,rfl,rfl,t,z2,q _ H (.refl _ _) hc rv⟩
  |_=>cases e
 .refine .inl (s0 O ts H T v1 v2 x y d Q hc h1 h2 ?_ q)
  cases x with
  |dict ds=>exact absurd ⟨ds,rfl⟩ hd
  |_=>exact e
end
section
variable {X:Cx}{pins:List (Addr×Obj)}{σ:L2.St}{H H2:Hp}{s s2:Shared}
theorem C2(I:Inv X pins σ H s)(e:H a=some (.dK kvs))(I2:Inv X pins σ H2 s2)(e2:H2 a=some (.frz o (.dK kvs))):Inv X pins σ (upd H2 a (.dK kvs)) s2:=by
 have U:∀{b:Addr}{u:HO},H2 b=some u->(∀o ks,u≠.frz o ks)->upd H2 a (.dK kvs) b=some u:=fun {b u} q n=>by
  rw[aT (fun z=>by subst z;rw[e2] at q;cases q;exact n _ _ rfl)];exact q
 have N:∀{b:Addr},H2 b=none->upd H2 a (.dK kvs) b=none:=fun {b} q=>by
  rw[aT (fun z=>by subst z;rw[e2] at q;cases q)];exact q
 have hok:HOk X.prog X.w (upd H2 a (.dK kvs)) s2.heap:=fun b u q=>by
  by_cases hb:b=a
  .subst hb
   rw[bt] at q;cases q;exact ObjOk.stay (I2.hok b _ e2).2 (fun _ _ _ q=>q) (fun c q=>U q (fun _ _ z=>nomatch z)) fun c xs q=>U q (fun _ _ z=>nomatch z)
  .rw[aT hb] at q
   exact(I2.hok b u q).stay (fun _ _ _ q=>q) (fun c q=>U q (fun _ _ z=>nomatch z)) fun c xs q=>U q (fun _ _ z=>nomatch z)
 refine⟨I2.ok,I2.os,I2.bare,⟨I2.base.keep,I2.base.slot,fun b ob q n hx=>N (I2.base.free b ob q n hx),I2.base.there,fun b xs q=>U (I2.base.tups b xs q) (fun _ _ z=>nomatch z),fun b ob u q=>?_,fun b ps q=>?_⟩,I2.loc,I2.cell,N I2.free,fun x c q=>N (I2.freeC x c q),fun p hp=>?_,hok,I2.len⟩
 .have h1:=I.base.frzs b ob u q
  rw[aT (fun z=>by subst z;rw[e] at h1;cases h1)];exact I2.base.frzs b ob u q
 .obtain⟨more,h1⟩:=I2.base.tbls b ps q
  exact⟨more,U h1 (fun _ _ z=>nomatch z)⟩
 .obtain⟨k1,k2,k3⟩:=I2.pin p hp
  exact⟨k1,N k2,k3⟩
end
inductive Ln(P:Hp->VK->Prop):Hp->VK->Prop where
 |done {H:Hp}{Q:VK}:P H Q->Ln P H Q
 |frz {H:Hp}{Q:VK}{a:Addr}{kvs:List (Key×V)}:H a=some (.dK kvs)->(∀o,Ln P (upd H a (.frz o (.dK kvs))) (fun v H2=>H2 a=some (.frz o (.dK kvs))/\Q v (upd H2 a (.dK kvs))))->Ln P H Q
theorem HZ(h:PE X e t):PE X e (fun σ H Q=>Ln (t σ) H Q):=fun pins s σ H Q I q=>by
 have key:∀{H:Hp}{Q:VK},Ln (t σ) H Q->Inv X pins σ H s->wpAny (model X.prog X.w) X.A (eval e X.env) (EP X pins σ Q) X.xe s:=by
  intro H Q q
  induction q with
  |done q=>exact fun I=>h pins s σ _ _ I q
  |frz ea _ ih=>
   intro I;obtain⟨o,I'⟩:=wC I ea;refine thn (ih o I') fun u s' ⟨v,H2,I2,r,e2,q2⟩=>?_;exact⟨v,_,C2 I ea I2 e2,r,q2⟩
 exact key q I
section
variable {K:Frag}
theorem TupAt.keep(h:∀b o,H b=some o->(∀ks,o≠.dK ks)->(∀ob ks,o≠.frz ob (.dK ks))->H' b=some o)(t:TupAt K (fun _=>False) H a vs):TupAt K (fun _=>False) H' a vs:=by
 rcases t with⟨n,t|⟨o,t⟩⟩|t
 .exact .inl ⟨n,.inl (h _ _ t (fun _ z=>nomatch z) (fun _ _ z=>nomatch z))⟩
 .exact .inl ⟨n,.inr ⟨o,h _ _ t (fun _ z=>nomatch z) (fun _ _ z=>nomatch z)⟩⟩
 .exact .inr t
mutual
theorem Rep.keep{H H':Hp}(h:∀b o,H b=some o->(∀ks,o≠.dK ks)->(∀ob ks,o≠.frz ob (.dK ks))->H' b=some o):∀{v:V}{d:PyData},Rep K (fun _=>False) H v d->aZ d=true->Rep K (fun _=>False) H' v d
 |_,_,.non,_=>.non
 |_,_,.bl b,_=>.bl b
 |_,_,.int i,_=>.int i
 |_,_,.str x,_=>.str x
 |_,_,.tup t r,e=>.tup (t.keep h) (Reps.keep h r (by simpa[aZ] using e))
 |_,_,.lst t r,e=>by simp[aZ] at e
 |_,_,.dct n t r,e=>by simp[aZ] at e
theorem Reps.keep{H H':Hp}(h:∀b o,H b=some o->(∀ks,o≠.dK ks)->(∀ob ks,o≠.frz ob (.dK ks))->H' b=some o):∀{vs:List V}{ds:List PyData},Reps K (fun _=>False) H vs ds->bi ds=true->Reps K (fun _=>False) H' vs ds
 |_,_,.nil,_=>.nil
 |_,_,.cons (d:=d) (ds:=ds) r t,e=>by
  have e':(aZ d&&bi ds)=true:=by simpa[bi] using e
  rw[Bool.and_eq_true] at e';exact .cons (Rep.keep h r e'.1) (Reps.keep h t e'.2)
end
end
def jO:W->Option W
 |.d x=>some (.d x)
 |.loc x=>some (.d x)
 |.tp _=>none
def cY(ρ:Rho):Rho:=ρ.map fun o=>o.bind jO
def Fz(O:Addr->Prop)(H0 H:Hp):Prop:=∀b,H b=H0 b\/∃kvs o,O b/\H0 b=some (.dK kvs)/\H b=some (.frz o (.dK kvs))
section
variable {K:Frag}{O:Addr->Prop}{ts:List Addr}{H0 H:Hp}{T:Tp}{σ:L2.St}{ρ:Rho}
theorem CV(re:RelE K O ts H0 σ ρ)(fz:Fz O H0 H)(all:∀(j:Nat) (a:Addr) (ds:List (PyData×PyData)),ρ[j]? = some (some (.loc (.dict ds)))->σ[j]? = some (some (.ref a))->∃o kvs,H a=some (.frz o (.dK kvs))):RelE K (fun _=>False) [] H σ (cY ρ):=by
 have le:Le O H0 (fun _=>False) H:=fun b o n e=>⟨fun z=>z,by
  rcases fz b with q|⟨_,_,q,_,_⟩
  .rw[q];exact e
  .exact absurd q n⟩
 intro i w e;unfold cY at e;rw[List.getElem?_map] at e
 cases hu:ρ[i]? with
 |none=>rw[hu] at e;cases e
 |some u=>
  cases u with
  |none=>rw[hu] at e;cases e
  |some u=>
   rw[hu] at e;have e':jO u=some w:=Option.some.inj e;obtain⟨v,h1,h2⟩:=re i u hu
   cases u with
   |d x=>cases e';exact⟨v,h1,Rep.mono le h2⟩
   |tp k=>cases e'
   |loc x=>
    cases e';obtain⟨a,rfl,k1,k2,k3⟩:=h2;refine⟨_,h1,?_⟩
    cases x with
    |list xs=>
     obtain⟨vs,k3,k4⟩:=k3;refine .lst (.inl ⟨fun z=>z,.inl ?_⟩) (k4.mono le)
     rcases fz a with q|⟨_,_,_,q,_⟩
     .rw[q];exact k3
     .rw[k3] at q;cases q
    |dict ds=>
     obtain⟨kvs,k3,k4⟩:=k3;obtain⟨o,kvs',h3⟩:=all i a ds hu h1
     rcases fz a with q|⟨kvs2,o2,_,q,q2⟩
     .rw[q,k3] at h3;cases h3
     .rw[k3] at q
      cases q;exact .dct (fun z=>z) q2 (k4.mono le)
    |_=>cases k3
theorem mR(hx:aZ x=true)(re:RelE K O ts H0 σ ρ)(fin:∀H Q,RelE K (fun _=>False) [] H σ (cY ρ)->(∀v H2,SameX [] H H2->Rep K (fun _=>False) H2 v x->Q v H2)->P H Q):∀(k:Nat) {H:Hp}{Q:VK},Fz O H0 H ->
  (∀(j:Nat) (a:Addr) (ds:List (PyData×PyData)),k<=j->ρ[j]? = some (some (.loc (.dict ds)))->σ[j]? = some (some (.ref a))->∃o kvs,H a=some (.frz o (.dK kvs)))->(∀v H2,SameX [] H H2->Rep K (fun _=>False) H2 v x->Q v H2)->Ln P H Q
 |0,H,Q,fz,all,q=>.done (fin H Q (CV re fz fun j a ds=>all j a ds (Nat.zero_le _)) q)
 |k+1,H,Q,fz,all,q=>by
  by_cases h:∃ds,ρ[k]? = some (some (.loc (.dict ds)))
  .obtain⟨ds,h⟩:=h
   obtain⟨v,h1,a,rfl,k1,k2,kvs,k3,k4⟩:=re k _ h
   rcases fz a with z|⟨kvs2,o2,_,z,z2⟩
   .rw[k3] at z
    refine .frz z fun o=>mR hx re fin k (fun b=>?_) (fun j b es hj e1 e2=>?_) (fun v H2 s2 r=>?_)
    .by_cases hb:b=a
     .subst hb;exact .inr ⟨kvs,o,k1,k3,bt⟩
     .rw[aT hb];exact fz b
    .by_cases hb:b=a
     .subst hb;exact⟨o,kvs,bt⟩
     .rw[aT hb]
      by_cases hk:k=j
      .subst hk;rw[h1] at e2;cases e2;exact absurd rfl hb
      .exact all j b es (by omega) e1 e2
    .have ha:H2 a=some (.frz o (.dK kvs)):=s2 a _ (by simp) bt
     refine⟨ha,q v _ (fun b ob _ e=>?_) (Rep.keep (fun b ob e n1 n2=>?_) r hx)⟩
     .by_cases hb:b=a
      .subst hb;rw[z] at e;cases e;exact bt
      .rw[aT hb]
       exact s2 b ob (by simp) (by rw[aT hb];exact e)
     .have hb:b≠a:=fun z=>by subst z;rw[ha] at e;cases e;exact n2 _ _ rfl
      rw[aT hb];exact e
   .refine mR hx re fin k fz (fun j b es hj e1 e2=>?_) q
    by_cases hk:k=j
    .subst hk;rw[h1] at e2;cases e2;exact⟨o2,kvs2,z2⟩
    .exact all j b es (by omega) e1 e2
  .refine mR hx re fin k fz (fun j b es hj e1 e2=>?_) q
   by_cases hk:k=j
   .subst hk;exact absurd ⟨es,e1⟩ h
   .exact all j b es (by omega) e1 e2
end
def ly(T:Tp)(o:Option (W×Tp)):Option (W×Tp):=match o with
 |some (.d x,_)=>if aZ x=true then some (.d x,T) else none
 |_=>none
def fQ(f:FE):FE:=fun ρ T=>ly T (f (cY ρ) [])
theorem qR(he:DE X e f):DE X e (fQ f):=by
 refine⟨bu (HZ he.pe) fun σ H Q=>?_⟩;rintro⟨O,ts,ρ,T,w,T',hc,re,e,q⟩;unfold fQ ly at e;split at e
 .rename_i x T1 h1
  split at e
  .rename_i hx
   cases e;refine mR hx re (fun H1 Q1 re1 q1=>⟨fun _=>False,[],cY ρ,[],.d x,T1,⟨fun b hb=>(by cases hb),fun b hb=>hb.elim,List.nodup_nil,rfl,fun i a xs e1 _=>by simp at e1⟩,re1,h1,fun v H2 s2 _ r2=>q1 v H2 s2 r2⟩) ρ.length (fun b=>.inl rfl) (fun j a ds hj e1 _=>?_) (fun v H2 s2 r2=>?_)
   .rw[List.getElem?_eq_none hj] at e1;cases e1
   .have s2':SameX ts H H2:=fun b o _ q=>s2 b o (by simp) q
    have hm:∀b,O b->Mut (H2 b):=fun b hb=>(hc.trk b hb).to fun u z=>s2 b _ (by simp) z
    have hc2:=hc.step s2' fun b hb=>by
     obtain⟨u,z⟩:=(hc.trk b (hc.own b hb)).ex;rw[z];exact s2 b _ (by simp) z
    exact q v H2 s2' hc2 (Rep.own hm r2 hx)
  .cases e
 .cases e
section
variable {X:Cx}{pos:Pos}{e:Expr}{fe:FE}
def c9(i:Nat):FS:=fun ρ T=>some ((.nx,ρ.set i (some (.loc (.dict [])))),T)
theorem iH(hN:X.N.Nodup)(hi:X.N[i]? = some x:=by rfl)(hx:Loc X.env.scope x:=by first|exact Or.inl rfl|exact Or.inr rfl)
  (hs:swapsWith (.Dict [] [] dpos) (some (.Name x pos')) pos.line X.env=pure false:=by rfl) (hf:X.fn x=true\/X.env.scope.names.lookup x=some .local:=by first|exact .inl rfl|exact .inr rfl|assumption):DS X (.Assign [.Name x pos'] (.Dict [] [] dpos) pos) (c9 i):=by
 refine⟨?_⟩;refine bZ (iI hN hi hx CI hs hf) fun D σ H=>?_;rintro⟨O₀,H₀,F,ts,O,ρ,T,fl,ρ',T',rs,e,q⟩;cases e;intro p hp;exact q _ _ _ (rs.ownO hp (.inr (.inl ⟨_,rfl⟩)) fun le=>⟨[],bt,.nil⟩)
theorem t5:CallR X (.type "dict") (fun xs H Q=>∃a kvs,xs=[V.ref a]/\Rd H a (.dK kvs)/\∀p,H p=none->Q (.ref p) (upd H p (.dK kvs))):=by
 intro pins s σ H xs us Q I r h;obtain⟨a,kvs,rfl,ha,q⟩:=h;obtain⟨u,rfl,ru⟩:=vals1 r;cases ru;exact Du I ha fun p s' hp I'=>⟨.ref p,_,I',rfl,q p hp⟩
def jb(o:Option PyData):Option (List (PyData×PyData)):=match o with
 |some (.dict ds)=>some ds
 |_=>none
def nz(i:Nat)(ρ:Rho)(o:Option (List (PyData×PyData)))(T:Tp):Option ((Fl×Rho)×Tp):=match o with
 |some ds=>some ((.nx,ρ.set i (some (.loc (.dict ds)))),T)
 |none=>none
def jF(i:Nat)(f:FE):FS:=fun ρ T=>bnd (f ρ T) fun w T1=>nz i ρ (jb (view T1 w)) T1
theorem xb(h:jb o=some ds):o=some (.dict ds):=by
 unfold jb at h;split at h
 .cases h;rfl
 .cases h
theorem vm(hm:X.mg "dict"=none)(hN:X.N.Nodup)(he:DE X e fe)(hi:X.N[i]? = some x:=by rfl)(hx:Loc X.env.scope x:=by first|exact Or.inl rfl|exact Or.inr rfl)(hg:Gl X "dict":=by rfl)
  (hse:starEach [e] X.env=(false,eval e X.env)::starEach [] X.env:=by exact bb rfl) (hpl:(backTo cpos (starEach [] X.env)).any (·.1)=false:=by exact bS rfl)
  (hs:swapsWith (.Call (.Name "dict" p) [e] [] cpos) (some (.Name x pos')) pos.line X.env=pure false:=by rfl) (hf:X.fn x=true\/X.env.scope.names.lookup x=some .local:=by first|exact .inl rfl|exact .inr rfl|assumption) :
  DS X (.Assign [.Name x pos'] (.Call (.Name "dict" p) [e] [] cpos) pos) (jF i fe):=by
 refine⟨?_⟩;refine bZ (iI hN hi hx (me t5 hg hm boot_dict (cX he.pe dA hse) (by decide) (by decide) hse hpl) hs hf) fun D σ H=>?_;rintro⟨O₀,H₀,F,ts,O,ρ,T,fl,ρ',T',rs,e,q⟩;obtain⟨w,T1,e1,e⟩:=aM e;unfold nz at e;split at e
 .rename_i ds hd
  cases e;have hv:=xb hd;refine⟨O,ts,ρ,T,w,_,rs.hc,rs.re,e1,fun v H1 s1 hc1 r1=>?_⟩;obtain⟨a,kvs,rfl,t,r⟩:=(hc1.view r1 hv).dct;exact⟨a,kvs,rfl,t,fun p hp=>q _ _ _ ((rs.step s1 hc1).ownO (xs:=.dict ds) hp (.inr (.inl ⟨_,rfl⟩)) fun le=>⟨kvs,bt,r.mono le⟩)⟩
 .cases e
def oJ(o:Option (List (PyData×PyData)))(T:Tp):Option (W×Tp):=match o with
 |some ds=>some (.d (.dict ds),T)
 |none=>none
def hU(f:FE):FE:=fun ρ T=>bnd (f ρ T) fun w T1=>oJ (jb (view T1 w)) T1
theorem qS(hm:X.mg "dict"=none)(he:DE X e fe)(hg:Gl X "dict":=by rfl)
  (hse:starEach [e] X.env=(false,eval e X.env)::starEach [] X.env:=by exact bb rfl) (hpl:(backTo cpos (starEach [] X.env)).any (·.1)=false:=by exact bS rfl):DE X (.Call (.Name "dict" p) [e] [] cpos) (hU fe):=by
 refine⟨?_⟩;refine bu (Ia (me t5 hg hm boot_dict (cX he.pe dA hse) (by decide) (by decide) hse hpl)) fun σ H Q=>?_;rintro⟨O,ts,ρ,T,w,T',hc,re,e,q⟩;obtain⟨w1,T1,e1,e⟩:=aM e;unfold oJ at e;split at e
 .rename_i ds hd
  cases e;have hv:=xb hd;refine⟨O,ts,ρ,T,w1,T',hc,re,e1,fun v H1 s1 hc1 r1=>?_⟩;obtain⟨a,kvs,rfl,t,r⟩:=(hc1.view r1 hv).dct;refine⟨a,kvs,rfl,t,fun p hp=>.frz bt fun o=>.done ?_⟩;rw[DQ];exact q _ _ (s1.trans (.new hp _)) (hc1.new hp _) (.dct (hc1.fresh hp) bt (r.mono (hc1.leNew hp _)))
 .cases e
def putN(ds:List (PyData×PyData))(s:Str)(x:PyData):List (PyData×PyData):=if (aA ds s).isSome=true then bN ds s x else ds++[(.str s,x)]
theorem RepK.app{K:Frag}{O:Addr->Prop}{H:Hp}{s:Str}{v:V}{x:PyData}(rx:Rep K O H v x):∀{kvs:List (Key×V)}{ds:List (PyData×PyData)},RepK K O H kvs ds->RepK K O H (kvs++[(Sum.inr s,v)]) (ds++[(.str s,x)])
 |_,_,.nil=>.cons (k:=Sum.inr s) rx .nil
 |_,_,.cons r t=>.cons r (RepK.app rx t)
theorem D8{K:Frag}{O:Addr->Prop}{H:Hp}{s:Str}{v:V}{x:PyData}(rx:Rep K O H v x){kvs:List (Key×V)}{ds:List (PyData×PyData)}(r:RepK K O H kvs ds):RepK K O H (putK kvs (Sum.inr s) v) (putN ds s x):=by
 unfold putN
 rcases gT (s:=s) r with⟨z1,z2⟩|⟨v',d',z1,z2,_⟩
 .rw[z1,if_neg (by simp),Cv v z2]
  exact r.app rx
 .rw[z1,if_pos (show (some d').isSome=true by rfl)]
  have hany:(kvs.any fun kv=>decide (kv.1=(Sum.inr s:Key)))=true:=Bm (by rw[z2];rfl);unfold putK;rw[if_pos hany];exact pP rx r
def oy(i:Nat)(ρ:Rho)(ds:List (PyData×PyData))(w k:W)(T:Tp):Option ((Fl×Rho)×Tp):=match w,k with
 |.d x,.d (.str s)=>if ds.length<=1000 then some ((.nx,ρ.set i (some (.loc (.dict (putN ds s x))))),T) else none
 |_,_=>none
def ou(i:Nat)(fk:FE)(ρ:Rho)(w:W)(T:Tp)(o:Option (Option W)):Option ((Fl×Rho)×Tp):=match o with
 |some (some (.loc (.dict ds)))=>bnd (fk ρ T) (oy i ρ ds w)
 |_=>none
def bL(i:Nat)(fk fv:FE):FS:=fun ρ T=>bnd (fv ρ T) fun w T1=>ou i fk ρ w T1 ρ[i]?
theorem dN(hr:Room k X.A)(hk:DE X kx fk)(he:DE X e fv)(hN:X.N[i]? = some x:=by rfl)(hv:Vis X.env.scope x:=by first|exact Or.inl rfl|exact Or.inr (Or.inl rfl)|exact Or.inr (Or.inr rfl))(hd:(x == ("__debug__" : Str))=false:=by decide)
  (hcd:(x == ("__classdict__" : Str))=false:=by decide) (hs:swapsWith e (some (.Subscript (.Name x p) kx pos')) pos.line X.env=pure false:=by rfl):DS X (.Assign [.Subscript (.Name x p) kx pos'] e pos) (bL i fk fv):=by
 refine⟨?_⟩;refine bZ (Ef (lA hr) (pv i hN hv hd hcd) hk.pe he.pe hs) fun D σ H=>?_;rintro⟨O₀,H₀,F,ts,O,ρ,T,fl,ρ',T',rs,e,q⟩;obtain⟨w,T1,e1,e⟩:=aM e;refine⟨O,ts,ρ,T,w,T1,rs.hc,rs.re,e1,fun v H1 s1 hc1 r1=>?_⟩;have rs1:=rs.step s1 hc1;unfold ou at e;split at e
 .rename_i ds c3
  obtain⟨wk,T3,e3,e⟩:=aM e;unfold oy at e;split at e
  .rename_i xv s _
   split at e
   .rename_i c2
    cases e;obtain⟨u,k1,a,rfl,k2,k3,kvs,k4,k5⟩:=rs1.re i _ c3;refine⟨_,k1,O,ts,ρ,T1,_,_,rs1.hc,rs1.re,e3,fun y H3 s3 hc3 r3=>?_⟩;have rs3:=rs1.step s3 hc3;cases (show Rep X.K O H3 y (.str s) from r3);have k4':H3 a=some (.dK kvs):=s3 _ _ k3 k4;have k5':RepK X.K O H3 kvs ds:=k5.mono (hc1.le s3)
    have hlen:kvs.length<sizeLine:=by
     rw[mC k5'];exact Nat.lt_of_le_of_lt c2 (by decide)
    have rx:Rep X.K O H3 v xv:=RepW.mono (w:=.d xv) r1 hc1 s3;refine⟨a,_,rfl,DPut.k (k:=(Sum.inr s:Key)) k4' hlen,?_⟩;exact q O σ _ (rs3.putO c3 k1 (.inr (.inl ⟨_,rfl⟩)) fun le=>⟨_,bt,D8 (Rep.mono le rx) (k5'.mono le)⟩)
   .cases e
  .cases e
 .cases e
end
def jQ(n:Nat):W->Option W
 |.tp k=>if k<n then some (.tp k) else none
 |w=>some w
def jR(n:Nat)(ρ:Rho):Rho:=ρ.map fun o=>o.bind (jQ n)
def kN(n:Nat)(o:Option ((Fl×Rho)×Tp)):Option ((Fl×Rho)×Tp):=match o with
 | some ((fl,ρ'),T3)=>(match rW T3 with
  |some (T4,_)=>if T4.length=n then some ((fl,jR n ρ'),T4) else none
  | none=>none)
 |none=>none
section
variable {K:Frag}{O₀:Addr->Prop}{H₀:Hp}{F:List ((Addr->Prop)×Hp)}{ts:List Addr}{O:Addr->Prop}{H:Hp}{σ:L2.St}{ρ:Rho}{T:Tp}
theorem RS.openR(r:RS K O₀ H₀ F ts O H σ ρ T)(hp:H p=none)(rv:Reps K O H vs xs) :
  RS K (fun b=>O₀ b\/b=p) H₀ F (ts++[p]) (fun b=>O b\/b=p) (upd H p (.lst vs)) (σ.set i (some (.ref p))) (ρ.set i (some (.tp T.length))) (T++[xs]):=by
 have nO:=r.hc.fresh hp;have nt:p∉ts:=fun z=>nO (r.hc.own _ z)
 have le:Le O H (fun b=>O b\/b=p) (upd H p (.lst vs)):=fun a o n e=>by
  have z1:a≠p:=dv e hp;exact⟨fun q=>q.elim n z1,by rw[aT z1];exact e⟩
 have hw:∀ys,W.tp T.length≠.loc ys:=fun _ z=>nomatch z
 refine⟨⟨fun b hb=>?_,fun b hb=>?_,?_,by simp[r.hc.len],fun j b zs q1 q2=>?_⟩,fun j w e=>?_,fun b hb=>hb.elim (fun z=>.inl (r.sub b z)) .inr,fun b hb=>?_,fun b o n e=>?_,fun j xs a e1 e2=>?_,fun j k xs ys v e1 e2 e3 e4=>?_,fun f hf=>(r.frs f hf).trans le,by simp[r.len]⟩
 .rcases List.mem_append.mp hb with z|z
  .exact .inl (r.hc.own b z)
  .exact .inr (List.mem_singleton.mp z)
 .by_cases z:b=p
  .rw[z,bt];exact .inl ⟨_,rfl⟩
  .rw[aT z];exact r.hc.trk b (hb.resolve_right z)
 .rw[List.nodup_append]
  exact⟨r.hc.nd,by simp,fun b hb c hc z=>nt (by rw[←List.mem_singleton.mp hc,←z];exact hb)⟩
 .by_cases hj:j<ts.length
  .rw[List.getElem?_append_left hj] at q1
   rw[List.getElem?_append_left (by rw[←r.hc.len];exact hj)] at q2;exact(r.hc.tape j b zs q1 q2).mono (fun o h1=>by rw[aT (dv h1 hp)];exact h1) le
  .have hj2:j=ts.length:=by
    have:=(List.getElem?_eq_some_iff.mp q1).1;simp at this;omega
   subst hj2
   have e1:b=p:=by simpa using q1.symm
   have e2:zs=xs:=by rw[r.hc.len] at q2;simpa using q2.symm
   subst e1 e2;exact .inl ⟨rv.notO,vs,bt,rv.mono le⟩
 .by_cases z:i=j
  .subst z
   have hl:i<ρ.length:=by
    have:=(List.getElem?_eq_some_iff.mp e).1;simpa using this
   rw[List.getElem?_set_self hl] at e;cases e;exact⟨.ref p,by rw[List.getElem?_set_self (by rw[r.len];exact hl)],p,by rw[←r.hc.len];simp,rfl⟩
  .rw[List.getElem?_set_ne z] at e
   obtain⟨x,h1,h2⟩:=r.re j w e;refine⟨x,by rw[List.getElem?_set_ne z];exact h1,?_⟩
   cases w with
   |d y=>exact Rep.mono le h2
   |tp k=>
    obtain⟨a,k1,k2⟩:=h2;exact⟨a,by rw[List.getElem?_append_left (List.getElem?_eq_some_iff.mp k1).1];exact k1,k2⟩
   |loc ys=>
    obtain⟨a,e1,m1,m2,m3⟩:=h2;have na:a≠p:=fun z=>nO (z ▸ m1);refine⟨a,e1,.inl m1,fun z=>?_,m3.mono (fun o' q=>by rw[aT na];exact q) le⟩
    rcases List.mem_append.mp z with z|z
    .exact m2 z
    .exact na (List.mem_singleton.mp z)
 .rcases List.mem_append.mp hb with z|z
  .exact .inl (r.ots b z)
  .exact .inr (List.mem_singleton.mp z)
 .have nb:b∉ts:=fun z=>n (List.mem_append_left _ z)
  have e1:=r.same b o nb e;rw[aT (dv e1 hp)];exact e1
 .obtain⟨n,e⟩:=gm hw e1
  rw[List.getElem?_set_ne (Ne.symm n)] at e2;obtain⟨f1,f2⟩:=r.fresh j xs a e e2;refine⟨f1,fun z=>z.elim f2 fun z=>?_⟩;obtain⟨v,h1,a',ea,m1,_⟩:=r.re j _ e;rw[e2] at h1;cases h1;cases ea;exact nO (z ▸ m1)
 .obtain⟨n1,e1⟩:=gm hw e1
  obtain⟨n2,e2⟩:=gm hw e2;rw[List.getElem?_set_ne (Ne.symm n1)] at e3;rw[List.getElem?_set_ne (Ne.symm n2)] at e4;exact r.dist j k xs ys v e1 e2 e3 e4
theorem RS.closeR(ots:∀b∈ts,O₀ b)(nt:p∉ts)(h0:H₀ p=none)(n0:¬O₀ p)(r:RS K (fun b=>O₀ b\/b=p) H₀ F (ts++[p]) O H σ ρ (T++[row])):RS K O₀ H₀ F ts O H σ (jR T.length ρ) T:=by
 have lenT:ts.length=T.length:=by have:=r.hc.len;simp at this;exact this
 have at_:∀{j:Nat}{w:W},(jR T.length ρ)[j]? = some (some w)->ρ[j]? = some (some w)/\∀k,w=.tp k->k<T.length:=fun {j w} e=>by
  unfold jR at e;rw[List.getElem?_map] at e
  cases hu:ρ[j]? with
  |none=>rw[hu] at e;cases e
  |some u=>
   cases u with
   |none=>rw[hu] at e;cases e
   |some u=>
    rw[hu] at e;have e':jQ T.length u=some w:=Option.some.inj e
    cases u with
    |d x=>cases e';exact⟨rfl,fun k z=>nomatch z⟩
    |loc x=>cases e';exact⟨rfl,fun k z=>nomatch z⟩
    |tp k=>
     have e2:(if k<T.length then some (W.tp k) else none)=some w:=e';split at e2
     .rename_i hk
      cases e2;exact⟨rfl,fun k' z=>by cases z;exact hk⟩
     .cases e2
 refine⟨⟨fun b hb=>r.hc.own b (List.mem_append_left _ hb),r.hc.trk,(List.nodup_append.mp r.hc.nd).1,lenT,fun j b zs q1 q2=>?_⟩,fun j w e=>?_,fun b hb=>r.sub b (.inl hb),ots,fun b o n e=>?_,fun j xs a e1 e2=>?_,fun j k xs ys v e1 e2 e3 e4=>?_,r.frs,by simp[jR,r.len]⟩
 .have hj:j<ts.length:=(List.getElem?_eq_some_iff.mp q1).1
  exact r.hc.tape j b zs (by rw[List.getElem?_append_left hj];exact q1) (by rw[List.getElem?_append_left (by rw[←lenT];exact hj)];exact q2)
 .obtain⟨e1,hk⟩:=at_ e
  obtain⟨v,h1,h2⟩:=r.re j w e1;refine⟨v,h1,?_⟩
  cases w with
  |d x=>exact h2
  |tp k=>
   obtain⟨a,k1,k2⟩:=h2;have:=hk k rfl;exact⟨a,by rw[List.getElem?_append_left (by rw[lenT];exact this)] at k1;exact k1,k2⟩
  |loc x=>
   obtain⟨a,k1,k2,k3,k4⟩:=h2;exact⟨a,k1,k2,fun z=>k3 (List.mem_append_left _ z),k4⟩
 .refine r.same b o (fun z=>?_) e
  rcases List.mem_append.mp z with z|z
  .exact n z
  .rw[List.mem_singleton.mp z,h0] at e;cases e
 .obtain⟨f1,f2⟩:=r.fresh j xs a (at_ e1).1 e2
  exact⟨f1,fun z=>f2 (.inl z)⟩
 .exact r.dist j k xs ys v (at_ e1).1 (at_ e2).1 e3 e4
end
section
variable {X:Cx}{pos:Pos}{rest:List Stmt}{fr:FS}
theorem Ep
  (rs:RS X.K O₀ H₀ F ts O H σ ρ T) (hp:H p=none) (rv:Reps X.K O H vs xs) (e:kN T.length (fr (ρ.set i (some (.tp T.length))) (T++[xs]))=some ((fl,ρ'),T')) (q:zg X.K O₀ H₀ F ts D ρ' T' fl):oF X.K fr D (σ.set i (some (.ref p))) (upd H p (.lst vs)):=by
 have nO:=rs.hc.fresh hp;have nt:p∉ts:=fun z=>nO (rs.hc.own _ z)
 have h0:H₀ p=none:=by
  cases e:H₀ p with
  |none=>rfl
  |some o=>rw[rs.same p o nt e] at hp;cases hp
 have n0:¬O₀ p:=fun z=>nO (rs.sub p z);have rs1:=rs.openR (i:=i) hp rv;generalize hE:fr (ρ.set i (some (.tp T.length))) (T++[xs])=E at e;unfold kN at e;split at e
 .rename_i fl1 ρ1 T3
  split at e
  .rename_i T4 row hT
   split at e
   .rename_i hlen
    have eT:=C1 hT;subst eT;cases e;have lb:∀{G:Hp},Le (fun b=>O₀ b\/b=p) G O₀ G:=fun a o n e=>⟨fun z=>n (.inl z),e⟩
    have lenB:∀{G:Hp}{B:Addr->Prop},HC X.K B (ts++[p]) G (T'++[row])->ts.length=T'.length:=fun h=>by have:=h.len;simp at this;exact this
    have sameB:∀{G:Hp},SameX (ts++[p]) H₀ G->SameX ts H₀ G:=fun s b o n e=>s b o (fun z=>by
     rcases List.mem_append.mp z with z|z
     .exact n z
     .rw[List.mem_singleton.mp z,h0] at e;cases e) e
    refine⟨_,H₀,F,ts++[p],_,_,_,fl,ρ1,T'++[row],rs1,hE,?_⟩;have lenE:T.length=T'.length:=hlen.symm
    cases fl with
    |nx=>exact fun O' σ' H' r=>q O' σ' H' (by rw[lenE];exact RS.closeR rs.ots nt h0 n0 r)
    |bk=>exact fun O' σ' H' r=>q O' σ' H' (by rw[lenE];exact RS.closeR rs.ots nt h0 n0 r)
    |ct=>exact fun O' σ' H' r=>q O' σ' H' (by rw[lenE];exact RS.closeR rs.ots nt h0 n0 r)
    |rt y=>
     intro v H' s1 c1 r1;refine q v H' (sameB s1) ⟨rs.ots,fun b hb=>c1.trk b (.inl hb),rs.hc.nd,lenB c1,fun j b zs q1 q2=>?_⟩ (Rep.mono lb r1);have hj:j<ts.length:=(List.getElem?_eq_some_iff.mp q1).1;exact(c1.tape j b zs (by rw[List.getElem?_append_left hj];exact q1) (by rw[List.getElem?_append_left (by rw[←lenB c1];exact hj)];exact q2)).mono (fun _ h=>h) lb
    |ro y=>
     intro A v H' s1 hA c1 o1;have lb2:Le (fun b=>(O₀ b\/b=p)\/A b) H' (fun b=>O₀ b\/A b) H':=fun b o n e=>⟨fun z=>n (z.elim (fun z=>.inl (.inl z)) .inr),e⟩;refine q A v H' (sameB s1) (fun b hb=>⟨(hA b hb).1,fun z=>(hA b hb).2 (.inl z)⟩) ⟨fun b hb=>.inl (rs.ots b hb),fun b hb=>c1.trk b (hb.elim (fun z=>.inl (.inl z)) .inr),rs.hc.nd,lenB c1,fun j b zs q1 q2=>?_⟩ (OwnV.mono lb2 o1);have hj:j<ts.length:=(List.getElem?_eq_some_iff.mp q1).1;exact(c1.tape j b zs (by rw[List.getElem?_append_left hj];exact q1) (by rw[List.getElem?_append_left (by rw[←lenB c1];exact hj)];exact q2)).mono (fun _ h=>h) lb2
   .cases e
  .cases e
 .cases e
end
theorem B9:entryFor table "dict_itemiterator.__iter__"=some PySem.Builtin.«dict_keyiterator.__iter__»:=by kernel_rfl
theorem A6(v:Value):Meets (PySem.Builtin.«dict_keyiterator.__iter__» { pos:=[v] }) (fun _ R s=>R (.ok (.ret v)) s):=by
 intro prog w A R s h;unfold PySem.Builtin.«dict_keyiterator.__iter__»;refine wpAny_bind ?_;unfold slotArgs;simp only[];rw[if_neg (by simp),if_neg (by simp)];exact wpAny_pure (wpAny_pure h)
def Iti(a:Addr)(o:Obj)(kvs:List (Key×V)):It:=⟨fun i H=>H a=some (.frz o (.dK kvs))/\i<kvs.length,fun i H x H'=>∃p k v,H p=none/\kvs[i]? = some (k,v)/\x=.ref p/\H'=upd H p (.tup [kV k,v]),fun i H=>H a=some (.frz o (.dK kvs))/\i=kvs.length⟩
theorem GN:∀{i:Nat},KV kvs vs->i<kvs.length->∃k v u,kvs[i]? = some (k,v)/\vs[i]? = some (k,u)/\RelV v u:=by
 intro i r h
 induction r generalizing i with
 |nil=>simp at h
 |cons r1 r2 ih=>
  cases i with
  |zero=>
   rename_i p q _ _;refine⟨p.1,p.2,q.2,rfl,?_,r1.2⟩;rw[r1.1];rfl
  |succ i=>
   obtain⟨k,v,u,h1,h2,h3⟩:=ih (i:=i) (by simpa using h);exact⟨k,v,u,by simpa using h1,by simpa using h2,h3⟩
theorem AY{P:Program}{w:World}{K:Frag}{elts:List Expr}{x1:Nat}{tpos:Pos}(a it:Addr)(o:Obj)(kvs:List (Key×V)) :
  Turn P w K (.Tuple elts x1 tpos) (Iti a o kvs) [it] it (fun i h=>∃ok ov,IsItemIter h it a i kvs.length (il o) ok ov) where
 mem:=by simp
 obj:=fun i h st b hb=>by
  have e:b=it:=by simpa using hb
  subst e;obtain⟨ok,ov,st⟩:=st
  exact⟨_,st,fun v z=>by
   have z':Data.fields _=Data.cell v:=z
   cases z'⟩
 keep:=fun i h h' ⟨ok,ov,st⟩ k=>⟨ok,ov,k it (by simp) _ st⟩
 item:=by
  intro X hP hw hK hc i pins s σ H E I hf st hg;subst hP hw hK;obtain⟨ok,ov,st⟩:=st;obtain⟨hg1,hg2⟩:=hg;obtain⟨z,y,vs,kv,dd⟩:=iC I.hok hg1;obtain⟨f0,f1,f2,f3,f4,f5⟩:=hf it (by simp);have hl:=kv.length;obtain⟨k,v0,u0,q1,q2,q3⟩:=GN kv hg2;rw[hl] at st;refine wpAny_pyNext_items_item (knd:=bx X.prog X.w) st dd q2 fun key h' hk st' hT hsz hkeep=>?_;refine⟨.ref s.heap.objs.size,rfl,wpAny_letOwnedTupleGo_items st' fun h'' st'' hsb=>?_⟩;have hit:it<s.heap.objs.size:=Heap.lt_size st;have hne:s.heap.objs.size≠it:=Nat.ne_of_gt hit;have hn:H s.heap.objs.size=none:=I.hok.fresh (Nat.le_refl _);have T1:IsTup (s.heap.push { cls:=.type "tuple",data:=.seq #[key,u0] }) s.heap.objs.size #[key,u0]:=IsTup.new ..
  have I1:Inv X pins σ (upd H s.heap.objs.size (.tup [kV k,v0])) { s with heap:=s.heap.push { cls:=.type "tuple",data:=.seq #[key,u0] } }:=
   I.laid (t':=s.toks) (o:=.tup [kV k,v0]) (fun b ob e=>Heap.get?_push_of_some _ e) (Nat.le_refl _) ⟨by show 2<=sizeLine;decide,[key,u0],.cons (keyV hk) (.cons q3 .nil),T1⟩
  have K:∀b ob,b≠it->(s.heap.push { cls:=.type "tuple",data:=.seq #[key,u0] }).get? b=some ob->h''.get? b=some ob:=fun b ob hb e=>by
   by_cases hbs:b=s.heap.objs.size
   .subst hbs
    rw[Heap.get?_push_size _ (by rfl)] at e;cases e;exact(hsb.2 _ hb).trans hT
   .have e0:s.heap.get? b=some ob:=by
     rw[←Heap.get?_push_ne _ _ _ hbs];exact e
    exact(hsb.2 b hb).trans (hkeep b ob hb e0)
  have I2:Inv X pins σ (upd H s.heap.objs.size (.tup [kV k,v0])) { s with heap:=h'' }:=Inv.turned (s:={ s with heap:=s.heap.push { cls:=.type "tuple",data:=.seq #[key,u0] } }) (t':=s.toks) (h':=h'') (it:=it) I1 K (by rw[aT (Ne.symm hne)];exact f0) f1 f3 f4 f5;refine⟨.ref s.heap.objs.size,_,I2,rfl,⟨s.heap.objs.size,k,v0,hn,q1,rfl,rfl⟩,⟨_,_,by rw[hl];exact st''⟩,fun b hb=>?_⟩
  have e:b=it:=by simpa using hb
  subst e;rw[aT (Ne.symm hne)];exact f0
 done:=by
  intro X hP hw hK hc i pins s σ H E I hf st hg;subst hP hw hK;obtain⟨ok,ov,st⟩:=st;obtain⟨hg1,hg2⟩:=hg;obtain⟨z,y,vs,kv,dd⟩:=iC I.hok hg1;obtain⟨f0,f1,f2,f3,f4,f5⟩:=hf it (by simp);have hl:=kv.length;rw[hl] at st;exact wpAny_pyNext_items_end (knd:=bx X.prog X.w) (I.ok.hd hc) st dd (by rw[List.getElem?_eq_none_iff];omega) fun h' eb=>⟨rfl,I.turned (t':=s.toks) (fun b ob hb e=>eb b ob hb e) f0 f1 f3 f4 f5⟩
 self:=fun A i s Q E ⟨ok,ov,st⟩ h=>by
  have ty:s.TypeIs (.ref it) "dict_itemiterator":=⟨_,st,rfl⟩;refine wpAny_pyIter_slot ty PySem.F.slot_dict_itemiterator_iter ?_;exact call_meets PySem.F.slot_dict_itemiterator_iter ty B9 (PySem.F.args_dict_itemiterator_iter_1 _) (A6 _) ⟨"dict_itemiterator",_,ty,PySem.F.slot_dict_itemiterator_next.lookup,h⟩
section
variable {X:Cx}{pos:Pos}
def GZ(tl:TE):TI:=fun σ H R=>tl σ H fun x H1=>∃a o kvs,x=.ref a/\H1 a=some (.frz o (.dK kvs))/\(kvs.length<=sizeLine->R (Iti a o kvs) H1)
theorem CD(ho:PE X ob tl)(hbase:attributeBase ob "items" X.env (eval ob X.env)=eval ob X.env:=by rfl)(hline:(apos.endLine == cpos.line)=true:=by rfl) :
  PI X (.Tuple elts x1 tpos) (.Call (.Attribute ob "items" apos) [] [] cpos) (GZ tl):=by
 intro pins s σ H R I h;refine wpAny_Call_method0_late hbase hline (thn (ho pins s σ H _ I h) fun v s1 ⟨x,H1,I1,r1,a,o,kvs,ex,ha,q⟩=>?_);subst ex;cases (show v=Value.ref a from r1);obtain⟨z,y,vs,kv,dd⟩:=iC I1.hok ha;have dOf:=dd.dictOf;obtain⟨od,_,_,eo,ex,_⟩:=id dOf;refine⟨"dict","dict.items",PySem.F.plainAttrs_dict,PySem.F.slot_dict_items,PySem.F.type_dict_items,⟨od,eo,ex.1⟩,fun b e2=>by cases e2;exact⟨od,eo,ex.2.1⟩,Calls.callWith_builtin rfl (PySem.evalArgs_none ?_)⟩;refine call_meetsIn PySem.F.slot_dict_items ⟨od,eo,ex.1⟩ PySem.F.entry_dict_items (PySem.F.args_dict_items_1 _) (meets_dict_items (bx X.prog X.w) a y) ⟨⟨vs,dOf⟩,?_⟩;have I2:Inv X pins σ H1 { s1 with heap:=s1.heap.push { cls:=.type "dict_items",data:=.fields #[.ref a] } }:=I1.kept (t':=s1.toks) fun b ob e=>Heap.get?_push_of_some _ e;obtain⟨z2,y2,vs2,kv2,dd2⟩:=iC I2.hok ha;refine wpAny_pyIter_items (knd:=bx X.prog X.w) (kvs:=vs2) (ep:=il o) ⟨_,Heap.get?_push_size _ (by rfl),rfl,rfl⟩ dd2 ?_
 have fk:∀b∈[(s1.heap.push { cls:=.type "dict_items",data:=.fields #[.ref a] }).objs.size],dr X pins H1 b:=fun b hb=>by
  have e:b=(s1.heap.push { cls:=.type "dict_items",data:=.fields #[.ref a] }).objs.size:=List.mem_singleton.mp hb;subst e;exact I2.fpOk (Nat.le_refl _) (I2.hok.fresh (Nat.le_refl _))
 exact⟨_,[_],_,_,H1,rfl,I2.kept (t':=s1.toks) fun b ob e=>Heap.get?_push_of_some _ e,AY a _ o kvs,⟨.none,.none,by rw[kv2.length];exact Heap.get?_push_size _ (by rfl)⟩,fk,q z⟩
def fq(i j:Nat)(body:FS):List (PyData×PyData)->FS
 |[]=>aD
 |d::r=>fun ρ T=>bnd (body ((ρ.set i (some (.d d.1))).set j (some (.d d.2))) T) fun p T1=>match p with
  |(.nx,ρ1)=>fq i j body r ρ1 T1
  |(.ct,ρ1)=>fq i j body r ρ1 T1
  |(.bk,ρ1)=>some ((.nx,ρ1),T1)
  |(.rt x,ρ1)=>some ((.rt x,ρ1),T1)
  |(.ro x,ρ1)=>some ((.ro x,ρ1),T1)
def lG(i j:Nat)(body:FS)(ρ:Rho)(w:W)(T:Tp):Option ((Fl×Rho)×Tp):=match w with
 |.d (.dict ds)=>fq i j body ds ρ T
 |_=>none
def gB(i j:Nat)(f:FE)(body:FS):FS:=fun ρ T=>bnd (f ρ T) (lG i j body ρ)
theorem vR{K:Frag}{O:Addr->Prop}{H:Hp}:∀{kvs:List (Key×V)}{ds:List (PyData×PyData)}{i:Nat}{k:Key}{v:V},RepK K O H kvs ds->kvs[i]? = some (k,v)->∃d,ds[i]? = some (gE k,d)/\Rep K O H v d
 |_,_,_,_,_,.nil,e=>by simp at e
 |_,_,0,_,_,.cons r _,e=>by simp at e;obtain⟨rfl,rfl⟩:=e;exact⟨_,rfl,r⟩
 |_,_,i+1,k,v,.cons _ t,e=>by
  obtain⟨d,h1,h2⟩:=vR (i:=i) t (by simpa using e);exact⟨d,by simpa using h1,h2⟩
theorem qQ(hN:X.N.Nodup)(ho:DE X ob f)(hb:DSs X body g)(hi:X.N[i]? = some x:=by rfl)(hj:X.N[j]? = some y:=by rfl)(hx:Loc X.env.scope x:=by first|exact Or.inl rfl|exact Or.inr rfl)(hy:Loc X.env.scope y:=by first|exact Or.inl rfl|exact Or.inr rfl)
  (hf:X.fn x=true\/X.env.scope.names.lookup x=some .local:=by first|exact .inl rfl|exact .inr rfl|assumption) (hf':X.fn y=true\/X.env.scope.names.lookup y=some .local:=by first|exact .inl rfl|exact .inr rfl|assumption) (hp:PassesOwn (model X.prog X.w) X.A X.env X.xe:=by exact PassesOwn.never) (hc:X.calm=true:=by rfl)
  (hbase:attributeBase ob "items" X.env (eval ob X.env)=eval ob X.env:=by rfl) (hline:(apos.endLine == cpos.line)=true:=by rfl) (hs:∀v,foldedSetIterable (.Call (.Attribute ob "items" apos) [] [] cpos) X.env v=pure v:=by intro _;rfl) :
  DS X (.For (.Tuple [.Name x px,.Name y py] k tpos) (.Call (.Attribute ob "items" apos) [] [] cpos) body [] pos) (gB i j f g):=by
 refine⟨?_⟩;refine bZ (rh hp hc (CD ho.pe hbase hline) (nF hc (gk (fF hN hi hx hf) (gk (fF hN hj hy hf') mQ))) hb.pe hs) fun D σ H=>?_;rintro⟨O₀,H₀,F,ts,O,ρ,T,fl,ρ',T',rs,e,q⟩;obtain⟨w,T1,e1,e⟩:=aM e;unfold lG at e;split at e
 .rename_i ds
  refine⟨O,ts,ρ,T,_,T1,rs.hc,rs.re,e1,fun v H1 s1 hc1 r1=>?_⟩;have r1':Rep X.K O H1 v (.dict ds):=r1
  cases r1' with
  |@dct a o kvs _ nO ha rk=>
   refine⟨a,o,kvs,rfl,ha,fun hz=>?_⟩;have hlen:=ma rk;refine⟨fun n m σ H=>m=ds.length-n/\n<=ds.length/\∃O' ρk Tk,RS X.K O₀ H₀ ((O,H1)::F) ts O' H σ ρk Tk/\fq i j g (ds.drop n) ρk Tk=some ((fl,ρ'),T'),⟨_,rfl,Nat.zero_le _,O,ρ,T1,(rs.step s1 hc1).more,e⟩,?_⟩;rintro n m σ2 H2 ⟨rfl,hk,O',ρk,Tk,rs2,ek⟩;have le:=rs2.frs _ List.mem_cons_self;have ha2:=le a _ nO ha
   by_cases hlt:n<ds.length
   .refine .inr ⟨⟨ha2.2,by omega⟩,fun σ3 H3=>∃O' ρk Tk,RS X.K O₀ H₀ ((O,H1)::F) ts O' H3 σ3 ρk Tk/\fq i j g (ds.drop (n+1)) ρk Tk=some ((fl,ρ'),T'),fun σ3 H3 nn=>⟨ds.length-(n+1),by omega,rfl,hlt,nn⟩,fun v H3 yy=>?_⟩
    obtain⟨p,k',v',hpn,hkv,rfl,rfl⟩:=yy;obtain⟨d,hd,rd⟩:=vR rk hkv
    have hdr:ds.drop n=(gE k',d)::ds.drop (n+1):=by
     rw[List.drop_eq_getElem_cons hlt];have:=(List.getElem?_eq_some_iff.mp hd).2;rw[this]
    rw[hdr] at ek;obtain⟨⟨fl1,ρ1⟩,T3,e3,ek⟩:=aM ek;have rs3:=rs2.step (.new hpn (.tup [kV k',v'])) (rs2.hc.new hpn _);have rd3:Rep X.K O' (upd H2 p (.tup [kV k',v'])) v' d:=Rep.mono (le.trans (rs2.hc.leNew hpn _)) rd;refine⟨p,_,rfl,SqT.of bt,rfl,_,_,rfl,_,_,rfl,rfl,O₀,H₀,(O,H1)::F,ts,O',_,Tk,fl1,ρ1,T3,(rs3.set (i:=i) (w:=.d (gE k')) (vS k') (fun _ z=>nomatch z)).set (i:=j) (w:=.d d) rd3 (fun _ z=>nomatch z),e3,?_⟩
    cases fl1 with
    |nx=>exact fun O3 σ3 H3 rs3=>⟨O3,ρ1,T3,rs3,ek⟩
    |ct=>exact fun O3 σ3 H3 rs3=>⟨O3,ρ1,T3,rs3,ek⟩
    |bk=>
     cases ek;exact fun O3 σ3 H3 rs3=>q O3 σ3 H3 rs3.less
    |rt x=>
     cases ek;exact q
    |ro x=>
     cases ek;exact q
   .have e:n=ds.length:=by omega
    subst e;rw[List.drop_eq_nil_of_le (Nat.le_refl _)] at ek;cases ek;exact .inl ⟨⟨ha2.2,hlen.symm⟩,q O' σ2 H2 rs2.less⟩
 .cases e
end
section
variable {X:Cx}
end
theorem De{P:Program}{w:World}{K:Frag}{mg:Str->Option Value}{base:Heap}{CX:CXT}{k:Nat}{f:Addr}{fd:FuncData}{ps:List Str}{sp sp':Sp}(F:FnOk P w K mg base CX k f fd ps sp)(i:∀vs H Q E,sp' vs H Q E->sp vs H Q E):FnOk P w K mg base CX k f fd ps sp':=⟨fun vs H Q E h=>F.1 vs H Q E (i _ _ _ _ h),fun A outer s H args us vs Q E a b c d h=>F.2 A outer s H args us vs Q E a b c d (i _ _ _ _ h)⟩
theorem BK{K:Frag}{m:FnM}(hm:∀ns:List Int,ns.length<=63->∃T',m [.d (jz ns)] []=some (.bool true,T')):∀vs H Q E,ot K vs H Q E->spM K 1 m vs H Q E:=by
 intro vs H Q E h;obtain⟨a,ns,rfl,hS,hl,q⟩:=h;obtain⟨T',e⟩:=hm ns hl
 have ra:LstAt K (fun _=>False) H a (ns.map V.int):=by
  rcases hS with h|h
  .exact .inl ⟨fun z=>z,h⟩
  .exact .inr (.inr h)
 refine⟨fun _=>False,[],[],[.d (jz ns)],.bool true,T',⟨fun b hb=>(by cases hb),fun b hb=>hb.elim,List.nodup_nil,rfl,fun i a xs e1 _=>by simp at e1⟩,.cons (show Rep K (fun _=>False) H (.ref a) (jz ns) from .lst ra (um ns)) .nil,rfl,e,fun v H' _ _ r=>?_⟩;cases r;exact q H'
def Js:PyData->PyData->Option PyData:=iop fun i j=>if 0<=j then some (.int (i / 2^j.toNat)) else none
@[simp] theorem KM:Js (.int i) (.int j)=if 0<=j then some (.int (i / 2^j.toNat)) else none:=rfl
section
variable {X:Cx}
theorem CT:MtR X "str.join" (fun x vs H Q=>∃(z:Str) (l:Addr) (ys:List Str),x=.str z/\vs=[.ref l]/\SqT X.K H l (ys.map V.str)/\(ys.map (·.length)).sum+ys.length*z.length<=16777216/\Q (.str (Str.join z ys)) H):=by
 intro pins s σ H x vs v us Q I rx rv h;obtain⟨z,l,ys,rfl,rfl,hq,hz,q⟩:=h;obtain⟨t,rfl⟩:=rx;obtain⟨u,rfl,ru⟩:=vals1 rv;cases ru;obtain⟨its,rw',pl,_⟩:=I.tuple hq;refine join_tuple (ys:=ys) pl (by simpa using tw rw') hz fun t' k=>⟨.str _,H,I.tok _,⟨t',?_⟩,q⟩;show Value.str (Builtin.Str.glued z ys) t'=_;rw[StrLaws.glued_eq_join]
theorem zj{K:Frag}{O:Addr->Prop}{ts:List Addr}{H:Hp}{T:Tp}{v:V}{w:W}{z:Str}(r:RepW K O ts H v w)(h:view T w=some (.str z)):v=.str z:=by
 cases w with
 |d x=>cases h;cases (show Rep K O H v _ from r);rfl
 |tp k=>
  have h1':(T[k]?).bind jU=some (PyData.str z):=h
  cases hk:T[k]? with
  |none=>rw[hk] at h1';cases h1'
  |some xs=>
   rw[hk] at h1';have e2:(if isO xs=true then none else some (PyData.list xs))=some (PyData.str z):=h1'
   split at e2 <;> cases e2
 |loc zs=>cases zs <;> cases h
def eX:PyData->PyData->Option PyData
 |.str z,.list xs=>match d9 xs with
  |some ys=>if (ys.map (·.length)).sum+ys.length*z.length<=16777216 then some (.str (Str.join z ys)) else none
  |none=>none
 |.str z,.tuple xs=>match d9 xs with
  |some ys=>if (ys.map (·.length)).sum+ys.length*z.length<=16777216 then some (.str (Str.join z ys)) else none
  |none=>none
 |_,_=>none
theorem qq(ho:DE X o fo)(he:DE X e fe)
  (hbase:attributeBase o "join" X.env (eval o X.env)=eval o X.env:=by rfl)
  (hfew:((backTo cpos (starEach [e] X.env)).all (fun x=>!x.1)&&(backToKw cpos (keywordEach [] X.env)).all (fun x=>x.1.isSome)
   && decide (([e]:List Expr).length+([]:List Keyword).length+(if ([]:List Keyword).isEmpty then 0 else 1)<30))=true:=by exact oY rfl)
  (hline:(apos.endLine == cpos.line)=true:=by rfl) (hse:starEach [e] X.env=(false,eval e X.env)::starEach [] X.env:=by exact bb rfl) (hplain:(backTo cpos (starEach [] X.env)).any (·.1)=false:=by exact bS rfl) :
  DE X (.Call (.Attribute o "join" apos) [e] [] cpos) (af eX fo fe):=by
 refine⟨?_⟩;refine bu (lh PySem.F.plainAttrs_str PySem.F.slot_str_join PySem.F.type_str_join (mt_joinG.or CT) ho.pe (cX he.pe dA hse) hbase hfew hline hse hplain) fun σ H Q=>?_;rintro⟨O,ts,ρ,T,w,T',hc,re,e,q⟩;obtain⟨w1,T1,e1,e⟩:=aM e;obtain⟨w2,T2,e2,e⟩:=aM e;obtain⟨x,y,d,h1,h2,h3,rfl,rfl⟩:=jA e;unfold eX at h3;refine⟨O,ts,ρ,T,w1,T1,hc,re,e1,fun v1 H1 s1 hc1 r1=>?_⟩;split at h3
 .rename_i z xs
  split at h3
  .rename_i ys hy
   split at h3
   .rename_i hz
    cases h3;have ev:=zj r1 h1;subst ev;refine⟨rfl,O,ts,ρ,T1,w2,T',hc1,re.mono hc s1,e2,fun v2 H2 s2 hc2 r2=>?_⟩;obtain⟨a,vs,rfl,t,r⟩:=(hc2.view r2 h2).lst;rw[mM r hy] at t;exact .inl ⟨z,a,ys,rfl,rfl,t,hz,q _ H2 (s1.trans s2) hc2 (.str _)⟩
   .cases h3
  .cases h3
 .rename_i z xs
  split at h3
  .rename_i ys hy
   split at h3
   .rename_i hz
    cases h3;have ev:=zj r1 h1;subst ev;refine⟨rfl,O,ts,ρ,T1,w2,T',hc1,re.mono hc s1,e2,fun v2 H2 s2 hc2 r2=>?_⟩;obtain⟨a,vs,rfl,t,r⟩:=(hc2.view r2 h2).tup;have t:=t.sq;rw[mM r hy] at t;exact .inr ⟨z,a,ys,rfl,rfl,t,hz,q _ H2 (s1.trans s2) hc2 (.str _)⟩
   .cases h3
  .cases h3
 .cases h3
end
end D
namespace L2
open PySem PySem.Spec PyProof.Rows
structure CSn(osc:Scope)(N:List Str)(xs:List Str)(scope:Scope)(N':List Str):Prop where
 kind:scope.kind=.function
 nocell:∀y∈scope.names,y.2≠.cell
 names:∀y∈scope.names,y.2=.local->scope.names.lookup y.1=some .local
 hx:∀x∈xs,scope.names.lookup x=some .local
 only:∀y∈scope.names,y.2=.local->y.1∈xs\/y.1=".0"
 free:∀y∈scope.names,y.2=.free->osc.names.lookup y.1=some .cell\/osc.names.lookup y.1=some .free
 nd:(xs++N').Nodup
 n0:(".0" : Str)∉N'
 len:N'.length=N.length
 rel:∀p∈N'.zip N,p.1=p.2\/∀q∈scope.names,q.1≠p.1
section
variable {X:Cx}{pins:List (Addr×Obj)}{σ:St}{H:Hp}{s:Shared}{xs:List Str}{scope:Scope}{N':List Str}
end
section
variable {X:Cx}{xs:List Str}{scope:Scope}{N':List Str}{tg elt iter:Expr}{ifs:List Expr}{pos:Pos}{wi:TI}{g:TG}{te:TE}{tt:TT}
end
end L2
namespace D
open PySem PySem.Spec PyProof.Rows L2
theorem vJ{X:Cx}{pins:List (Addr×Obj)}{σ:L2.St}{H:Hp}{s:Shared}{h':Heap}{t':Nat}{fp:List Addr}(I:Inv X pins σ H s)(k:∀b o,b∉fp->s.heap.get? b=some o->h'.get? b=some o)(hf:∀b∈fp,dr X pins H b):Inv X pins σ H { s with heap:=h',toks:=t' }:=by
 have nit:∀b u,H b=some u->b∉fp:=fun b u e z=>by rw[(hf b z).1] at e;cases e
 have hL:X.env.locals∉fp:=fun z=>(hf _ z).2.1 rfl
 refine I.step (g':=s.gens) (d':=s.drawn) (ch:=fp) (fun b hb=>?_) (fun b o _ _ hc e _=>k b o hc e) (fun b o _ _ hc e _=>⟨o.slots,k b o hc e⟩) (fun _ _ _ _ n=>n)
  (fun b o hc e=>⟨o,k b o hc e⟩) (fun _ _ e=>e) (fun _ _ _ e=>e) (fun b ps e=>⟨#[],by rw[e];simp⟩) (fun m hm=>?_) (fun b u e=>?_) I.bare
 .obtain⟨_,f1,_,f3,f4,f5⟩:=hf b hb
  exact⟨f3,f1,f4,f5⟩
 .obtain⟨o,es,ep,ho,r⟩:=hm
  exact⟨o,es,ep,k _ o hL ho,r⟩
 .refine(I.hok b u e).stay (fun c v hc q=>k c v ?_ q) (fun _ q=>q) fun _ _ q=>q
  rcases hc with z|z
  .rw[z];exact nit b u e
  .exact nit c _ z
section
variable {X:Cx}{pos:Pos}
def yw(i j k:Nat)(ρ:Rho)(w:W)(T:Tp):Option ((Fl×Rho)×Tp):=match w with
 |.d (.tuple [x,y,z])=>some ((.nx,((ρ.set i (some (.d x))).set j (some (.d y))).set k (some (.d z))),T)
 |_=>none
def oH(i j k:Nat)(f:FE):FS:=fun ρ T=>bnd (f ρ T) (yw i j k ρ)
theorem E9(hN:X.N.Nodup)(he:DE X e f)(hi:X.N[i]? = some x:=by rfl)(hj:X.N[j]? = some y:=by rfl)(hk:X.N[k]? = some z:=by rfl)(hx:Loc X.env.scope x:=by first|exact Or.inl rfl|exact Or.inr rfl)(hy:Loc X.env.scope y:=by first|exact Or.inl rfl|exact Or.inr rfl)(hz:Loc X.env.scope z:=by first|exact Or.inl rfl|exact Or.inr rfl)
  (hf:X.fn x=true\/X.env.scope.names.lookup x=some .local:=by first|exact .inl rfl|exact .inr rfl|assumption) (hf':X.fn y=true\/X.env.scope.names.lookup y=some .local:=by first|exact .inl rfl|exact .inr rfl|assumption) (hf2:X.fn z=true\/X.env.scope.names.lookup z=some .local:=by first|exact .inl rfl|exact .inr rfl|assumption) (hc:X.calm=true:=by rfl)
  (hs:swapsWithSole [.Tuple [.Name x px,.Name y py,.Name z pz] n tp] e pos.line X.env=pure false:=by rfl) (hw:swappedStores [.Tuple [.Name x px,.Name y py,.Name z pz] n tp] e X.env=pure none:=by rfl)
  (h1:(assignEach [.Tuple [.Name x px,.Name y py,.Name z pz] n tp] X.env).map (·.2)=[assign (.Tuple [.Name x px,.Name y py,.Name z pz] n tp) X.env]:=by rfl):DS X (.Assign [.Tuple [.Name x px,.Name y py,.Name z pz] n tp] e pos) (oH i j k f):=by
 refine⟨?_⟩;refine bZ (rj he.pe (nF hc (gk (fF hN hi hx hf) (gk (fF hN hj hy hf') (gk (fF hN hk hz hf2) mQ)))) hs hw h1) fun D σ H=>?_;rintro⟨O₀,H₀,F,ts,O,ρ,T,fl,ρ',T',rs,e,q⟩;obtain⟨w,T1,e1,e⟩:=aM e;refine⟨O,ts,ρ,T,w,T1,rs.hc,rs.re,e1,fun v H1 s1 hc1 r1=>?_⟩;unfold yw at e;split at e
 .rename_i a b c
  cases e;have rs1:=rs.step s1 hc1;have r1':Rep X.K O H1 v (.tuple [a,b,c]):=r1
  cases r1' with
  |tup t r=>
   cases r with
   |cons ra r=>
    cases r with
    |cons rb r=>
     cases r with
     |cons rc r=>
      cases r;exact⟨_,_,rfl,t.sq,rfl,_,_,rfl,_,_,rfl,_,_,rfl,rfl,q O _ _ (((rs1.set (w:=.d a) ra fun _ z=>nomatch z).set (w:=.d b) rb fun _ z=>nomatch z).set (w:=.d c) rc fun _ z=>nomatch z)⟩
 .cases e
end
section
variable {X:Cx}
theorem BD:MtM X "list.insert" (fun x vs H Q=>∃(l:Addr) (xs:List V) (i:Int) (k:Nat) (y:V),x=.ref l/\vs=[.int i,y]/\H l=some (.lst xs)/\i.toNat=k/\0<=i/\k<=xs.length/\xs.length<=1000/\Q .non (upd H l (.lst (xs.take k++y::xs.drop k)))):=by
 intro pins s σ H x vs v us Q I rx rv h;obtain⟨l,xs,i,k,y,rfl,rfl,hH,hki,hi0,hk,hz,q⟩:=h;cases rx;obtain⟨u,w,rfl,ru,rw'⟩:=vals2 rv;obtain⟨t,rfl⟩:=ru;obtain⟨z,its,n,r,hl,e⟩:=I.lstM hH
 have hsl:(1001:Nat)<=sizeLine:=by decide
 have hfit:Builtin.List.listFitsIndex i=true:=fitsIndex_both (by omega) (by omega)
 have hfit':¬(!Builtin.List.listFitsIndex i)=true:=by rw[hfit];exact Bool.false_ne_true
 have hsz:its.toArray.size<=sizeLine:=by
  rw[List.size_toArray];exact Nat.le_trans (by omega) hsl
 clear hfit;refine call_meets F.slot_list_insert ⟨_,e,rfl⟩ F.entry_list_insert (F.args_list_insert_3 _ _ _) (AutoSeq1.list_insert_list_int_val_1 l its.toArray n i t w hfit' hsz) ⟨e,?_⟩;refine⟨.non,_,I.lset (its':=its.take k++w::its.drop k) hH e ?_ ((r.take k).append (.cons rw' (r.drop k))) ?_,rfl,q⟩
 .have hk':min k its.length=k:=by omega
  have h0:¬(i<0):=by omega
  simp only[h0,if_false,hki,List.size_toArray,hk'];apply Array.ext';simp;exact List.take_of_length_le (by simp)
 .refine Nat.le_trans ?_ hsl
  simp only[List.length_append,List.length_take,List.length_cons,List.length_drop];omega
variable {pos:Pos}{e e':Expr}{fe fk:FE}
def lM(i:Nat)(ρ:Rho)(w1 w2:W)(T:Tp)(o:Option (Option W)):Option ((Fl×Rho)×Tp):=match w1,w2,o with
 |.d (.int k),.d x,some (some (.loc (.list xs)))=>if 0<=k/\k<=xs.length/\xs.length<=1000 then some ((.nx,ρ.set i (some (.loc (.list (xs.take k.toNat++x::xs.drop k.toNat))))),T) else none
 |_,_,_=>none
theorem EQ(h:lM i ρ w1 w2 T o=some ((fl,ρ'),T')):∃k x xs,w1=.d (.int k)/\w2=.d x/\o=some (some (.loc (.list xs)))/\(0<=k/\k<=xs.length/\xs.length<=1000)/\((fl,ρ'),T')=((Fl.nx,ρ.set i (some (W.loc (.list (xs.take k.toNat++x::xs.drop k.toNat))))),T):=by
 unfold lM at h;split at h
 .split at h
  .rename_i h2
   exact⟨_,_,_,rfl,rfl,rfl,h2,(Option.some.inj h).symm⟩
  .cases h
 .cases h
def lP(i:Nat)(f g:FE):FS:=fun ρ T=>bnd (f ρ T) fun w1 T1=>bnd (g ρ T1) fun w2 T2=>lM i ρ w1 w2 T2 ρ[i]?
theorem zJ(h:noStar e=true)(h2:noStar f=true):((backTo cpos (starEach [e,f] env)).all (fun x=>!x.1)&&(backToKw cpos (keywordEach [] env)).all (fun x=>x.1.isSome)
   && decide (([e,f]:List Expr).length+([]:List Keyword).length+(if ([]:List Keyword).isEmpty then 0 else 1)<30))=true:=by
 rw[ui h,mB h2];rfl
theorem Hj(hk:DE X e fk)(he:DE X e' fe)(hN:X.N[i]? = some x:=by rfl)(hv:Vis X.env.scope x:=by first|exact Or.inl rfl|exact Or.inr (Or.inl rfl)|exact Or.inr (Or.inr rfl))(hd:(x == ("__debug__" : Str))=false:=by decide)
  (hcd:(x == ("__classdict__" : Str))=false:=by decide) 
  (hbase:attributeBase (.Name x p) "insert" X.env (eval (.Name x p) X.env)=eval (.Name x p) X.env:=by rfl)
  (hfew:((backTo cpos (starEach [e,e'] X.env)).all (fun x=>!x.1)&&(backToKw cpos (keywordEach [] X.env)).all (fun x=>x.1.isSome)
   && decide (([e,e']:List Expr).length+([]:List Keyword).length+(if ([]:List Keyword).isEmpty then 0 else 1)<30))=true:=by exact zJ rfl rfl)
  (hline:(apos.endLine == cpos.line)=true:=by rfl) (hse:starEach [e,e'] X.env=(false,eval e X.env)::starEach [e'] X.env:=by exact bb rfl) (hse2:starEach [e'] X.env=(false,eval e' X.env)::starEach [] X.env:=by exact bb rfl) (hplain:(backTo cpos (starEach [e'] X.env)).any (·.1)=false:=by exact bS rfl)
  (hs:swapsWith (.Call (.Attribute (.Name x p) "insert" apos) [e,e'] [] cpos) none pos.line X.env=pure false:=by rfl) :
  DS X (.Expr (.Call (.Attribute (.Name x p) "insert" apos) [e,e'] [] cpos) pos) (lP i fk fe):=by
 refine⟨?_⟩;refine bZ (qD (lh PySem.F.plainAttrs_list PySem.F.slot_list_insert PySem.F.type_list_insert BD (pv i hN hv hd hcd) (cX hk.pe (cX he.pe dA hse2) hse) hbase hfew hline hse hplain) hs) fun D σ H=>?_;rintro⟨O₀,H₀,F,ts,O,ρ,T,fl,ρ',T',rs,e,q⟩;obtain⟨w1,T1,e1,e⟩:=aM e;obtain⟨w2,T2,e2,e⟩:=aM e;obtain⟨k,x0,xs,rfl,rfl,h1,h2,e3⟩:=EQ e;cases e3;obtain⟨v,k1,a,rfl,k2,k3,vs,k4,k5⟩:=rs.re i _ h1;refine⟨_,k1,.inl ⟨rfl,vs,SqL.of k4⟩,O,ts,ρ,T,_,_,rs.hc,rs.re,e1,fun u H1 s1 hc1 r1=>?_⟩;have rs1:=rs.step s1 hc1;refine⟨O,ts,ρ,T1,_,_,hc1,rs1.re,e2,fun u2 H2 s2 hc2 r2=>?_⟩;have rs2:=rs1.step s2 hc2;cases (show Rep X.K O H1 u (.int k) from r1);have l5:=k5.length;have k5':Reps X.K O H2 vs xs:=(k5.mono (rs.hc.le s1)).mono (hc1.le s2);exact⟨a,vs,k,k.toNat,u2,rfl,rfl,s2 _ _ k3 (s1 _ _ k3 k4),rfl,h2.1,by omega,by omega,q O _ _ (rs2.put (us:=[]) h1 k1 ((k5'.take _).append (.cons r2 (k5'.drop _))))⟩
end
section
variable {K:Frag}{O₀:Addr->Prop}{H₀:Hp}{F:List ((Addr->Prop)×Hp)}{ts:List Addr}{O A:Addr->Prop}{H H1:Hp}{σ:L2.St}{ρ:Rho}{T T1:Tp}
theorem RS.keep(r:RS K O₀ H₀ F ts O H σ ρ T)(hA:∀b,A b->O b):HC K (fun b=>O₀ b\/A b) ts H T/\Le O H (fun b=>O₀ b\/A b) H:=by
 have le:Le O H (fun b=>O₀ b\/A b) H:=fun a o n e=>⟨fun z=>n (z.elim (r.sub a) (hA a)),e⟩;exact⟨⟨fun b hb=>.inl (r.ots b hb),fun b hb=>r.hc.trk b (hb.elim (r.sub b) (hA b)),r.hc.nd,r.hc.len,fun i a xs e1 e2=>(r.hc.tape i a xs e1 e2).mono (fun _ h=>h) le⟩,le⟩
end
section
variable {X:Cx}{pos:Pos}
end
def rD(o:Option ((Fl×Rho)×Tp)):Option (PyData×Tp):=bnd o fun p T=>match p with
 |(.ro x,_)=>some (x,T)
 |_=>none
def lj(N:Nat)(f:FS):FnM:=fun ws T=>if cK ws=true then rD (f (ws.map some++List.replicate (N-ws.length) none) T) else none
inductive SpOP(K:Frag)(n:Nat)(m:FnM)(vs:List V)(H:Hp)(Q:VK):Prop where
 |mk (O:Addr->Prop) (ts:List Addr) (T:Tp) (ws:List W) (x:PyData) (T':Tp) (hc:HC K O ts H T) (r:fg K O ts H vs ws) (hl:ws.length=n) (e:m ws T=some (x,T'))
  (q:∀(A:Addr->Prop) v H',SameX ts H H'->(∀b,A b->H b=none/\¬O b)->HC K (fun b=>O b\/A b) ts H' T'->OwnV K (fun b=>O b\/A b) A H' v x->Q v H'):SpOP K n m vs H Q
def spO(K:Frag)(n:Nat)(m:FnM):Sp:=fun vs H Q _=>SpOP K n m vs H Q
theorem JG{P:Program}{w:World}{K:Frag}{mg:Str->Option Value}{base:Heap}{x qual:Str}{st:Stmt}{f:Addr}{fd:FuncData}{N ps:List Str}{k:Nat}{m:FS}(F:Fun K x qual st f fd)(S:FnScope N ps (a9 st))
  (hbody:∀(cdv:Value) (A:Around) (outer:List Env) (s:Shared) (H:Hp) (E:XK),Room k (A.deeper (envOfC qual (a9 st) s.heap.objs.size f cdv))->DSs (cF CX0 P w K mg base N qual (a9 st) f cdv A outer s H E).nox (bY st) m) :
  FnOk P w K mg base CX0 (k+1) f fd ps (spO K ps.length (lj N.length m)):=by
 refine F.ok S (fun vs H Q E h=>?_) (fun cdv A outer s H vs Q E hr h=>⟨_,(hbody cdv A outer s H E hr).pe,?_⟩)
 .obtain⟨O,ts,T,ws,x,T',hc,rw',hl,_⟩:=h
  rw[←hl];exact Paired.length rw'
 obtain⟨O,ts,T,ws,x,T',hc,rw',hl,e,q⟩:=h;unfold lj at e;split at e
 .rename_i hn
  obtain⟨⟨fl,ρ'⟩,T1,e1,e⟩:=aM e;have hlen:vs.length=ws.length:=Paired.length rw';have noL:∀{i:Nat}{xs:PyData},(ws.map some++List.replicate (N.length-ws.length) none)[i]? = some (some (W.loc xs))->False:=fun {i xs} e=>ku hn (List.mem_of_getElem? (jl e));refine⟨O,H,[],ts,O,_,T,fl,ρ',T1,⟨hc,fun i u e=>?_,fun _ h=>h,hc.own,.refl _ _,fun i xs a e1 _=>(noL e1).elim,fun i j xs ys v e1 _ _ _=>(noL e1).elim,fun f hf=>absurd hf (by simp),by simp[L2.start,hlen]⟩,e1,?_⟩
  .obtain⟨v,h1,h2⟩:=l9 rw' (jl e)
   refine⟨v,?_,h2⟩;unfold L2.start;have hi:i<vs.length:=(List.getElem?_eq_some_iff.mp h1).1;rw[List.getElem?_append_left (by simpa using hi),List.getElem?_map,h1];rfl
  .cases fl with
   |ro y=>cases e;exact q
   |_=>cases e
 .cases e
section
variable {X:Cx}{pos:Pos}
end
section
variable {X:Cx}
abbrev FP:=Rho->Tp->Option (List (Str×PyData)×Tp)
def aJ(l:List (Str×PyData)):List (PyData×PyData):=l.map fun p=>(.str p.1,p.2)
def cP(p:Str×V):Key×V:=(Sum.inr p.1,p.2)
structure DP(X:Cx)(pos:Pos)(keys:List (Option Expr))(values:List Expr)(g:FP):Prop where
 ex:∃trs,PPs X pos keys values trs/\∀(σ:L2.St) (H:Hp) (Q:List (V×V)->Hp->Prop) (O:Addr->Prop) (ts:List Addr) (ρ:Rho) (T:Tp) (l:List (Str×PyData)) (T':Tp),HC X.K O ts H T->RelE X.K O ts H σ ρ->g ρ T=some (l,T') ->
  (∀(kvs:List (Str×V)) (H':Hp),SameX ts H H'->HC X.K O ts H' T'->kvs.map (·.1)=l.map (·.1)->RepK X.K O H' (kvs.map cP) (aJ l)->Q (kvs.map fun p=>(V.str p.1,p.2)) H')->qY trs σ H Q
theorem ut:∀(l acc:List (Str×V)),(acc.map (·.1)++l.map (·.1)).Nodup->fK (acc.map cP) (l.map cP)=(acc++l).map cP
 |[],acc,_=>by simp[fK]
 |p::l,acc,h=>by
  have h1:putK (acc.map cP) (Sum.inr p.1:Key) p.2=(acc++[p]).map cP:=by
   unfold putK;rw[if_neg]
   .rw[List.map_append]
    rfl
   .intro hc
    obtain⟨kv,m,e⟩:=List.any_eq_true.mp hc;obtain⟨q,m2,rfl⟩:=List.mem_map.mp m;have e':q.1=p.1:=Sum.inr.inj (of_decide_eq_true e);have:=(List.nodup_append.mp h).2.2 q.1 (List.mem_map.mpr ⟨q,m2,rfl⟩) p.1 (by simp);exact this e'
  have:=ut l (acc++[p]) (by simpa using h);have e:fK (acc.map cP) ((p::l).map cP)=fK (putK (acc.map cP) (Sum.inr p.1:Key) p.2) (l.map cP):=rfl;rw[e,h1,this];simp
def IR(ds:List (PyData×PyData))(z:PyData):PyData->Option PyData
 |.str s=>some ((aA ds s).getD z)
 |_=>none
def yT(T:Tp)(o:Option PyData):Option (W×Tp):=match o with
 |some x=>some (.d x,T)
 |none=>none
def lF(w1 w2 w3:W)(T:Tp):Option (W×Tp):=match w1,w2,w3 with
 |.d (.dict ds),.d y,.d z=>yT T (IR ds z y)
 |_,_,_=>none
def jP(f g h:FE):FE:=fun ρ T=>bnd (f ρ T) fun w1 T1=>bnd (g ρ T1) fun w2 T2=>bnd (h ρ T2) (lF w1 w2)
theorem C6(h:lF w1 w2 w3 T=some (w,T')):∃ds s z,w1=.d (.dict ds)/\w2=.d (.str s)/\w3=.d z/\w=.d ((aA ds s).getD z)/\T'=T:=by
 unfold lF at h;split at h
 .rename_i ds y z
  unfold yT at h;split at h
  .rename_i x hx
   cases h
   cases y with
   |str s=>cases hx;exact⟨ds,s,z,rfl,rfl,rfl,rfl,rfl⟩
   |_=>cases hx
  .cases h
 .cases h
theorem w6(hr:Room k X.A)(ho:DE X o f)(he:DE X e g)(he':DE X e' h)
  (m:M2 X o "get" apos e e' cpos:=by exact⟨rfl,zJ rfl rfl,rfl,by rfl⟩):DE X (.Call (.Attribute o "get" apos) [e,e'] [] cpos) (jP f g h):=by
 refine⟨?_⟩;refine bu (CJ (lA hr) ho.pe he.pe he'.pe m) fun σ H Q=>?_;rintro⟨O,ts,ρ,T,w,T',hc,re,e,q⟩;obtain⟨w1,T1,e1,e⟩:=aM e;obtain⟨w2,T2,e2,e⟩:=aM e;obtain⟨w3,T3,e3,e⟩:=aM e;obtain⟨ds,s,z,rfl,rfl,rfl,rfl,rfl⟩:=C6 e;refine⟨O,ts,ρ,T,_,T1,hc,re,e1,fun v1 H1 s1 hc1 r1=>?_⟩
 cases (show Rep X.K O H1 v1 (.dict ds) from r1) with
 |@dct a ob kvs _ n t r=>
  refine⟨a,rfl,GX (.inr ⟨_,t⟩),O,ts,ρ,T1,_,T2,hc1,re.mono hc s1,e2,fun v2 H2 s2 hc2 r2=>?_⟩;refine⟨O,ts,ρ,T2,_,T',hc2,(re.mono hc s1).mono hc1 s2,e3,fun v3 H3 s3 hc3 r3=>?_⟩;cases (show Rep X.K O H2 v2 (.str s) from r2);have le:=hc1.le (s2.trans s3);have t3:=(le _ _ n t).2;have r':=r.mono le;refine⟨_,DGet.rd (k:=Sum.inr s) (.inr ⟨_,t3⟩),?_⟩
  rcases gT (s:=s) r' with⟨z1,z2⟩|⟨v,d',z1,z2,rv⟩
  .rw[z2]
   exact q _ H3 ((s1.trans s2).trans s3) hc3 (by rw[z1];exact r3)
  .rw[z2]
   exact q _ H3 ((s1.trans s2).trans s3) hc3 (by rw[z1];exact rv)
end
section
variable {X:Cx}{pos:Pos}
end
def nG(i:Nat)(fr:FS)(ρ:Rho)(x:PyData)(T:Tp):Option ((Fl×Rho)×Tp):=match x with
 |.list xs=>kN T.length (fr (ρ.set i (some (.tp T.length))) (T++[xs]))
 |_=>none
def jG(i:Nat)(m:FnM)(g:FA)(fr:FS):FS:=fun ρ T=>bnd (g ρ T) fun ws T1=>bnd (m ws T1) (nG i fr ρ)
theorem Bw(h:nG i fr ρ x T=some r):∃xs,x=.list xs/\kN T.length (fr (ρ.set i (some (.tp T.length))) (T++[xs]))=some r:=by
 cases x with
 |list xs=>exact⟨xs,rfl,h⟩
 |_=>cases h
section
variable {X:Cx}{pos:Pos}{rest:List Stmt}{fr:FS}
theorem uA(F:Fn X.prog X.w X.K X.mg X.base name ps kk (spO X.K ps.length m))(hr:Room kk X.A)(hg:Gl X name)(hN:X.N.Nodup)(ha:DA X (e::es) g)(hl:fY g ps.length)(hrest:DSs X rest fr)(hdb:(name == ("__debug__" : Str))=false:=by decide)
  (he:starEach (e::es) X.env=(false,eval e X.env)::starEach es X.env:=by exact bb rfl) (hpl:(backTo cpos (starEach es X.env)).any (·.1)=false:=by exact bS rfl) (hi:X.N[i]? = some x:=by rfl) (hx:Loc X.env.scope x:=by first|exact Or.inl rfl|exact Or.inr rfl)
  (hs:swapsWith (.Call (.Name name p) (e::es) [] cpos) (some (.Name x pos')) pos.line X.env=pure false:=by rfl) (hf:X.fn x=true\/X.env.scope.names.lookup x=some .local:=by first|exact .inl rfl|exact .inr rfl|assumption) :
  DSs X (.Assign [.Name x pos'] (.Call (.Name name p) (e::es) [] cpos) pos::rest) (jG i m g fr):=by
 refine⟨?_⟩;refine mP (qc (iI hN hi hx (lc F hr hg ha.pe hdb he hpl) hs hf) hrest.pe) fun D σ H=>?_;rintro⟨O₀,H₀,F,ts,O,ρ,T,fl,ρ',T',rs,e,q⟩;obtain⟨ws,T1,e1,e⟩:=aM e;obtain⟨x0,T2,e2,e⟩:=aM e;obtain⟨xs,rfl,e⟩:=Bw e;refine⟨O,ts,ρ,T,ws,T1,rs.hc,rs.re,e1,fun vs H1 s1 hc1 r1=>?_⟩;have rs1:=rs.step s1 hc1;refine⟨O,ts,T1,ws,_,_,hc1,by rw[List.append_nil];exact r1,hl _ _ _ _ e1,e2,fun A v H2 s2 hA hc2 ov=>?_⟩;obtain⟨a,rfl,hAA,us,k1,k2⟩:=ov;have hAa:=hA a ((hAA a).mpr rfl);have nta:a∉ts:=fun z=>hAa.2 (hc1.own a z)
 let H3:Hp:=fun b=>if b=a then none else H2 b
 have h3:∀{b:Addr},b≠a->H3 b=H2 b:=fun n=>if_neg n;have ha3:H3 a=none:=if_pos rfl
 have eH:upd H3 a (.lst us)=H2:=funext fun b=>by
  by_cases z:b=a
  .subst z;rw[bt];exact k1.symm
  .rw[aT z];exact h3 z
 have le:Le (fun b=>O b\/A b) H2 O H3:=fun b o n z=>⟨fun y=>n (.inl y),by rw[h3 (show b≠a from fun y=>n (.inr ((hAA b).mpr y)))];exact z⟩
 have s3:SameX ts H1 H3:=fun b o n z=>by
  have nb:b≠a:=fun y=>by rw[y,hAa.1] at z;cases z
  rw[h3 nb];exact s2 b o n z
 have c3:HC X.K O ts H3 T2:=⟨hc1.own,fun b hb=>by
   have nb:b≠a:=fun y=>hAa.2 (y ▸ hb);rw[h3 nb]
   exact hc2.trk b (.inl hb),hc2.nd,hc2.len,fun j b ys q1 q2=>(hc2.tape j b ys q1 q2).mono (fun o h=>by rw[h3 (show b≠a from fun y=>nta (by rw[←y];exact List.mem_of_getElem? q1))];exact h) le⟩
 have:=Ep (X:=X) (rs1.step s3 c3) ha3 (k2.mono le) e q;rw[eH] at this;exact this
end
def nA(ρ:Rho)(o:Option (List PyData))(T:Tp):Option ((Fl×Rho)×Tp):=match o with
 |some xs=>if xs.length<=1000 then some ((.ro (.list xs),ρ),T) else none
 |none=>none
def nQ(g:FA):FS:=fun ρ T=>bnd (g ρ T) fun ws T1=>nA ρ (dQ ws) T1
section
variable {X:Cx}{pos:Pos}
theorem vn(ha:DA X es g):DS X (.Return (some (.List es lpos)) pos) (nQ g):=by
 refine⟨?_⟩;refine bZ (xy (rl ha.pe)) fun D σ H=>?_;rintro⟨O₀,H₀,F,ts,O,ρ,T,fl,ρ',T',rs,e,q⟩;obtain⟨ws,T1,e1,e⟩:=aM e;refine⟨O,ts,ρ,T,ws,T1,rs.hc,rs.re,e1,fun vs H1 s1 hc1 r1=>?_⟩;have rs1:=rs.step s1 hc1;unfold nA at e;split at e
 .rename_i xs h1
  split at e
  .rename_i h2
   cases e;have rv:=kL r1 h1;refine⟨mS (by rw[rv.length];exact h2),fun p hp=>?_⟩;have nO:=rs1.hc.fresh hp;have nt:p∉ts:=fun z=>nO (rs1.hc.own p z)
   have h0:H₀ p=none:=by
    cases z:H₀ p with
    |none=>rfl
    |some o=>rw[rs1.same p o nt z] at hp;cases hp
   have le:Le O H1 (fun b=>O₀ b\/b=p) (upd H1 p (.lst vs)):=fun b o n z=>by
    have nb:b≠p:=dv z hp;exact⟨fun y=>y.elim (fun y=>n (rs1.sub b y)) nb,by rw[aT nb];exact z⟩
   refine q (fun b=>b=p) (.ref p) _ (rs1.same.trans (.new hp _)) (fun b hb=>by rw[hb];exact⟨h0,fun z=>nO (rs1.sub p z)⟩) ⟨fun b hb=>.inl (rs1.ots b hb),fun b hb=>?_,rs1.hc.nd,rs1.hc.len,fun j b ys q1 q2=>?_⟩ ⟨p,rfl,fun c=>Iff.rfl,vs,bt,rv.mono le⟩
   .by_cases z:b=p
    .subst z;rw[bt];exact .inl ⟨_,rfl⟩
    .rw[aT z];exact rs1.hc.trk b (rs1.sub b (hb.resolve_right z))
   .exact(rs1.hc.tape j b ys q1 q2).mono (fun o h=>by rw[aT (dv h hp)];exact h) le
  .cases e
 .cases e
end
theorem Av:typeLookup (.type "list") "keys"=pure none:=am_miss_of_fast (by decide +kernel)
theorem z6:typeLookup (.type "list") "__getattr__"=pure none:=am_miss_of_fast (by decide +kernel)
theorem Aw(ho:s.heap.get? a=some { cls:=.type "list",dict:=none,data:=.seq its n,slots:=sl })(hh:A.handled=none)
  (h:∀h' tk e,Heap.NewAttrErr s.heap h' e (.ref a) "keys"->E (.ref e) { s with heap:=h',toks:=tk }) :
  wpAny (model prog w) A (Builtin.«object.__getattribute__» ⟨[.ref a,.str "keys" u],[]⟩) Q E s:=by
 obtain⟨hp,g,d,tk,os⟩:=s;have hT:(⟨hp,g,d,tk,os⟩:Shared).TypeIs (.ref a) "list":=⟨_,ho,rfl⟩;have f4:=Av;unfold Builtin.«object.__getattribute__»
 repeat (any_goals (first|assumption|wp_step))
 exact wpAny_raiseAttrError hh h (attrMsg_fits (by decide +kernel) (by decide +kernel))
theorem Ad(ho:s.heap.get? a=some { cls:=.type "list",dict:=none,data:=.seq its n,slots:=sl })(hh:A.handled=none)
  (h:∀h' tk,(∀b o,s.heap.get? b=some o->h'.get? b=some o)->Q none { s with heap:=h',toks:=tk }) :
  wpAny (model prog w) A (getAttr? (.ref a) "keys") Q E s:=by
 obtain⟨hp,g,d,tk,os⟩:=s;have hT:(⟨hp,g,d,tk,os⟩:Shared).TypeIs (.ref a) "list":=⟨_,ho,rfl⟩;have f1:=sub_AttributeError;have f3:=F.slot_list_getattribute.lookup;have f4:=F.slot_list_getattribute.bind (.ref a);have f5:=z6;unfold getAttr? getAttrBy?
 repeat (any_goals (first|assumption|wp_step))
 refine codeAny_call_builtin F.slot_list_getattribute.plain F.entry_list_ga (F.slot_list_getattribute.check _ _ _ _ _ _ _ _ (show (⟨hp,g,d,tk+1,os⟩:Shared).TypeIs (.ref a) "list" from⟨_,ho,rfl⟩) (F.args_list_getattribute_2 _ _) (Aw (s:=⟨hp,g,d,tk+1,os⟩) ho hh fun h' tk' e hx=>?_));obtain⟨t',u',he⟩:=hx.there;show wpAny _ _ (getattributeRaised _ _ _ _ _ _ _) _ _ _;unfold getattributeRaised
 repeat (any_goals (first|assumption|wp_step))
 exact h _ _ hx.keeps
theorem sS:entryFor table "dict.update.loop"=some Builtin.«dict.update.loop»:=entryFor_of_tree (by kernel_rfl)
section
set_option maxRecDepth 100000
variable {prog:Program}{w:World}{K:Type}[DecidableEq K]{knd:KeyKind prog w K}{A:Around}{E:Value->Shared->Prop}{s:Shared}
theorem uM{its:Array Value}{R:Result->Shared->Prop}(hh:A.handled=none)(kvs:List (K×Value))(hd:d≠it)(hz:kvs.length<=sizeLine){h0:Heap}
  (hlen:its.size=kvs.length) (hls:∀h',(∀b o,b≠d->b≠it->h0.get? b=some o->h'.get? b=some o)->h'.IsList l its/\∀(i:Nat) (kv:K×Value),kvs[i]? = some kv->∃T key,(its[i]?:Option Value)=some (Value.ref T)/\IsTup h' T #[key,kv.2]/\knd.is kv.1 key=true)
  (hR:∀h' tk,h'.DictOf knd d (merged [] kvs)->(∀b o,b≠d->b≠it->h0.get? b=some o->h'.get? b=some o)->R (.ok (.ret .none)) { s with heap:=h',toks:=tk }) :
  ∀(n i:Nat) (j:Int) (tok:Tok) (h':Heap) (tk:Nat),i+n=kvs.length->(∀b o,b≠d->b≠it->h0.get? b=some o->h'.get? b=some o)->h'.IsListIter it l i->h'.DictOf knd d (merged [] (kvs.take i)) ->
   codeAny (model prog w) A (.builtin "dict.update.loop" ⟨[.ref d,.ref it,.int j tok,.none],[]⟩) R { s with heap:=h',toks:=tk }
 |0,i,j,tok,h',tk,hi,hk,hit,hdd=>by
  refine codeAny_builtin sS ?_;obtain⟨hl,hT⟩:=hls h' hk;unfold Builtin.«dict.update.loop»;dsimp only;refine wpAny_bind (wpAny_pyNext_list_end (s:={ s with heap:=h',toks:=tk }) hh hit hl (by rw[Array.getElem?_eq_none];omega) fun h'' eb=>?_);dsimp only;refine wpAny_bind ?_;unfold Builtin.Dict.addKeywords;refine wpAny_pure (wpAny_pure ?_);have e:kvs.take i=kvs:=List.take_of_length_le (by omega);rw[e] at hdd;obtain⟨o,es,ep,ho,r⟩:=hdd;exact hR h'' tk ⟨o,es,ep,eb _ _ hd ho,r⟩ fun b ob b1 b2 q=>eb b ob b2 (hk b ob b1 b2 q)
 |n+1,i,j,tok,h',tk,hi,hk,hit,hdd=>by
  refine codeAny_builtin sS ?_;obtain⟨hl,hT⟩:=hls h' hk
  have hlt:i<kvs.length:=by omega
  obtain⟨T,key,e1,_,e3⟩:=hT i kvs[i] (List.getElem?_eq_getElem hlt);unfold Builtin.«dict.update.loop»;dsimp only;refine wpAny_bind (wpAny_pyNext_list_item (s:={ s with heap:=h',toks:=tk }) hit hl e1 fun h2 hit2 sb=>?_);have hk2:∀b o,b≠d->b≠it->h0.get? b=some o->h2.get? b=some o:=fun b ob b1 b2 q=>(sb.2 b b2).trans (hk b ob b1 b2 q);obtain⟨hl2,hT2⟩:=hls h2 hk2;obtain⟨T',key',e1',e2,e3⟩:=hT2 i kvs[i] (List.getElem?_eq_getElem hlt);rw[e1] at e1';cases e1';dsimp only;refine wpAny_bind (wpAny_holding ?_);refine wpAny_bind (wpAny_tryCatch (wpAny_bind (wpAny_typeOf e2.typeIs ?_)));rw[if_pos (by decide)];obtain⟨oT,hoT,cT,nT,dT⟩:=id e2;refine wpAny_bind (m:=seqItems? (.ref T)) (wpAny_bind (wpAny_load (s:={ s with heap:=h2,toks:=tk }) hoT ?_));rw[dT];refine wpAny_pure (wpAny_pure ?_);dsimp only[Option.getD]
  have hmz:(merged [] (kvs.take i)).length<=sizeLine:=by
   have:=merged_length_le ([]:List (K×Value)) (kvs.take i);simp at this;omega
  refine wpAny_holding (wpAny_dictSet_pairs (s:={ s with heap:=h2,toks:=tk }) e3 (hdd.sameBut sb hd) (fun h3 hd3 sb3=>?_) hmz);refine wpAny_pure ⟨Code.quiet_builtin _ (by decide +kernel),?_⟩;rw[←merged_take_succ [] kvs i kvs[i] (List.getElem?_eq_getElem hlt)] at hd3;exact uM hh kvs hd hz hlen hls hR n (i+1) _ _ h3 _ (by omega) (fun b ob b1 b2 q=>(sb3.2 b b1).trans (hk2 b ob b1 b2 q)) (hit2.extBut sb3.extBut (Ne.symm hd)) hd3
theorem z9(hh:A.handled=none)(kvs:List (K×Value))(hz:kvs.length<=sizeLine)(hlen:its.size=kvs.length)
  (ho:s.heap.get? l=some { cls:=.type "list",dict:=none,data:=.seq its n,slots:=sl }) (hT:∀(i:Nat) (kv:K×Value),kvs[i]? = some kv->∃T key,(its[i]?:Option Value)=some (Value.ref T)/\IsTup s.heap T #[key,kv.2]/\knd.is kv.1 key=true)
  (h:∀h' tk,h'.DictOf knd s.heap.objs.size (merged [] kvs)->(∀b o,s.heap.get? b=some o->h'.get? b=some o)->Q (.ref s.heap.objs.size) { s with heap:=h',toks:=tk }) :
  wpAny (model prog w) A (call (.type "dict") [.ref l]) Q E s:=by
 refine callType_codes (Q₁:=fun obj s₁=>obj=.ref s.heap.objs.size/\s₁ = { s with heap:=s.heap.push { cls:=.type "dict",data:=.dict #[] } }) F.kt_called_dict (F.kt_typeCall_dict_1 _) F.entry_dict_init (kt_code_dict_new _ ⟨rfl,rfl⟩) ?_;rintro obj s₁ ⟨rfl,rfl⟩;have hnew:(s.heap.push { cls:=.type "dict",data:=.dict #[] }).DictOf knd s.heap.objs.size []:=Heap.DictOf.new s.heap;have up:∀b o,s.heap.get? b=some o->(s.heap.push { cls:=.type "dict",data:=.dict #[] }).get? b=some o:=fun b o e=>Heap.get?_push_of_some _ e;refine⟨hnew.typeIs,F.args_dict_init_2 _ _,?_⟩;unfold Builtin.«dict.__init__»;refine wpAny_bind ?_;unfold Builtin.Dict.selfAndRest;refine wpAny_bind (wpAny_notOrdered_dict hnew.typeIs ?_);show wpAny _ _ (pure (s.heap.objs.size,[Value.ref l])) _ _ _;refine wpAny_pure ?_;show wpAny _ _ (Builtin.Dict.updateFrom "dict.__init__" s.heap.objs.size (.ref l) [] .none) _ _ _;unfold Builtin.Dict.updateFrom;refine wpAny_bind (wpAny_typeOf (T:="list") ⟨_,up _ _ ho,rfl⟩ ?_);rw[if_pos (by decide)];refine wpAny_bind (Ad (up _ _ ho) hh fun h1 tk1 k1=>?_);simp only[Option.isNone_none,if_true];refine wpAny_bind (wpAny_rule ?_);have ho1:h1.get? l=some _:=k1 _ _ (up _ _ ho);refine wpAny_bind (wpAny_pyIter_list (s:={ s with heap:=h1,toks:=tk1 }) (items:=its) ⟨_,ho1,rfl,n,rfl⟩ ?_);refine wpAny_pure ⟨Code.quiet_builtin _ (by decide +kernel),?_⟩
 have hne:s.heap.objs.size≠h1.objs.size:=by
  obtain⟨o,es,ep,q,_⟩:=hnew;exact Nat.ne_of_lt (Heap.lt_size (k1 _ _ q))
 refine uM (s:=s) (h0:=h1) (l:=l) (its:=its) (by simpa[Around.in1] using hh) kvs hne hz hlen (fun h' hk'=>⟨⟨_,hk' l _ ?_ ?_ ho1,rfl,n,rfl⟩,fun i kv e=>?_⟩) (fun h' tk hd hk'=>⟨rfl,h h' tk hd fun b o e=>hk' b o (Nat.ne_of_lt (Heap.lt_size e)) (Nat.ne_of_lt (Heap.lt_size (k1 _ _ (up _ _ e)))) (k1 b o (up b o e))⟩) kvs.length 0 _ _ _ _ (by omega) (fun b o _ _ e=>Heap.get?_push_of_some _ e) ?_ ?_
 .exact Nat.ne_of_lt (Heap.lt_size ho)
 .exact Nat.ne_of_lt (Heap.lt_size ho1)
 .obtain⟨T,key,e1,⟨oT,e2,r⟩,e3⟩:=hT i kv e
  exact⟨T,key,e1,⟨oT,hk' T _ (Nat.ne_of_lt (Heap.lt_size e2)) (Nat.ne_of_lt (Heap.lt_size (k1 _ _ (up _ _ e2)))) (k1 _ _ (up _ _ e2)),r⟩,e3⟩
 .exact⟨_,Heap.get?_push_size _ rfl,rfl,rfl⟩
 .obtain⟨o,es,ep,q,r⟩:=hnew
  exact⟨o,es,ep,Heap.get?_push_of_some _ (k1 _ _ q),r⟩
end
def sJ(K:Frag)(H:Hp)(v:V)(p:Str×V):Prop:=∃t,v=.ref t/\SqT K H t [.str p.1,p.2]
section
variable {X:Cx}
theorem tI(I:Inv X pins σ H s):∀{vs:List V}{kvs:List (Str×V)}{its:List Value},Paired (sJ X.K H) vs kvs->Vals vs its ->
  ∃rs:List (Key×Value),KV (kvs.map cP) rs/\rs.length=its.length/\∀(i:Nat) (kv:Key×Value),rs[i]? = some kv->∃T key,its[i]? = some (Value.ref T)/\IsTup s.heap T #[key,kv.2]/\(bx X.prog X.w).is kv.1 key=true
 |_,_,_,.nil,.nil=>⟨[],.nil,rfl,fun i kv e=>by simp at e⟩
 |_,p::_,u::_,.cons h t,.cons r q=>by
  obtain⟨rs,k1,k2,k3⟩:=tI I t q;obtain⟨a,rfl,hs⟩:=h;obtain⟨its,rv,tp,_⟩:=I.tuple hs;obtain⟨u1,u2,rfl,r1,r2⟩:=vals2 rv;cases (show u=Value.ref a from r);refine⟨(Sum.inr p.1,u2)::rs,.cons ⟨rfl,r2⟩ k1,by simp[k2],fun i kv e=>?_⟩
  cases i with
  |zero=>
   simp at e;subst e;exact⟨a,u1,rfl,tp,i4 (k:=Sum.inr p.1) r1⟩
  |succ i=>
   simp at e;obtain⟨T,key,e1,e2,e3⟩:=k3 i kv e;exact⟨T,key,by simpa using e1,e2,e3⟩
theorem Bl(hcm:X.calm=true):CallR X (.type "dict") (fun xs H Q=>∃(a:Addr) (vs:List V) (kvs:List (Str×V)),xs=[V.ref a]/\SqL X.K H a vs/\Paired (sJ X.K H) vs kvs/\kvs.length<=sizeLine/\∀p,H p=none->Q (.ref p) (upd H p (.dK (fK [] (kvs.map cP))))):=by
 intro pins s σ H xs us Q I r h;obtain⟨a,vs,kvs,rfl,hs,hp,hz,q⟩:=h;obtain⟨u,rfl,ru⟩:=vals1 r;cases ru;obtain⟨its,rv,pl,_⟩:=I.list hs;obtain⟨⟨cls,dd,data,sl⟩,n,e,c,d1,d2⟩:=pl;simp only at c d1 d2;subst c d1 d2;obtain⟨rs,k1,k2,k3⟩:=tI I hp rv;have hl:(kvs.map cP).length=rs.length:=k1.length;rw[List.length_map] at hl
 refine z9 (knd:=bx X.prog X.w) (I.ok.hd hcm) rs (by omega) (by simp[k2]) e (fun i kv ei=>by
  obtain⟨T,key,e1,e2,e3⟩:=k3 i kv ei
  exact⟨T,key,by simpa using e1,e2,e3⟩) fun h' tk dd' keep=>?_
 have hn:H s.heap.objs.size=none:=I.hok.fresh (Nat.le_refl _);have h1:=sT (kvs.map cP) [];rw[List.length_nil,List.length_map] at h1;refine⟨.ref s.heap.objs.size,_,I.laid (t':=tk) (o:=.dK (fK [] (kvs.map cP))) keep (Nat.le_refl _) (rH (by omega) (beq_eq_false_iff_ne.mpr (Ne.symm (Nat.ne_of_lt I.big))) (k1.merge .nil) dd'),rfl,q _ hn⟩
def pairD:PyData->Option (Str×PyData)
 |.tuple [.str k,x]=>some (k,x)
 |_=>none
def iJ:List PyData->Option (List (Str×PyData))
 |[]=>some []
 |d::r=>match pairD d with
  | some p=>(match iJ r with
   |some ps=>some (p::ps)
   | none=>none)
  |none=>none
theorem CM(h:pairD d=some p):d=.tuple [.str p.1,p.2]:=by
 unfold pairD at h;split at h
 .cases h;rfl
 .cases h
theorem uY{K:Frag}{O:Addr->Prop}{H:Hp}:∀{vs:List V}{ds:List PyData}{ps:List (Str×PyData)},Reps K O H vs ds->iJ ds=some ps->∃kvs:List (Str×V),Paired (sJ K H) vs kvs/\kvs.map (·.1)=ps.map (·.1)/\RepK K O H (kvs.map cP) (aJ ps)
 |_,_,_,.nil,e=>by cases e;exact⟨[],.nil,rfl,.nil⟩
 |_,_,ps,.cons (d:=d) r t,e=>by
  unfold iJ at e;split at e
  .rename_i p hp
   split at e
   .rename_i q hq
    cases e;obtain⟨kvs,h1,h2,h3⟩:=uY t hq;rw[CM hp] at r
    cases r with
    |@tup a _ _ tt rr=>
     cases rr with
     |cons ra rr=>
      cases rr with
      |@cons v _ _ _ rb rr=>
       cases rr;cases ra;exact⟨(p.1,v)::kvs,.cons ⟨a,rfl,tt.sq⟩ h1,by simp[h2],.cons (k:=Sum.inr p.1) rb h3⟩
   .cases e
  .cases e
def sy(l:List (Str×PyData)):Bool:=decide ((l.map (·.1)).Nodup)&&decide (l.length<=1000)
end
section
set_option maxRecDepth 100000
variable {prog:Program}{w:World}{A:Around}{E:Value->Shared->Prop}{s:Shared}
end
section
set_option maxRecDepth 100000
variable {X:Cx}
end
section
variable {X:Cx}
end
section
set_option maxRecDepth 100000
variable {X:Cx}
end
end D
namespace XE
open PySem PySem.Spec PyProof.Rows L2
abbrev vE:List Value:=[.type "ValueError",.type "Exception",.type "BaseException",.type "object"]
def XCl(K:Frag)(C:Addr)(tl:List Value):Prop:=∃nm q N bs sn sub ab col dd k0 k1 k2 k3 k5,K.lookup C=some (excClassObj nm q C N bs tl true sn sub ab col dd k0 k1 k2 k3 k5 "ValueError.__new__")/\PySem.W.nsOkIn K N=true
theorem DU{K:Frag}(X:K.In h)(r:XCl K R vE)(ri:PySem.W.ownIn K "__init__" (.ref R)=some none):OwnTail h vE (.ref R::vE):=by
 obtain⟨nm,q,N,bs,sn,sub,ab,col,dd,k0,k1,k2,k3,k5,l,n⟩:=r;refine .own (X _ _ l) (.of_isNs (PySem.W.isNs_of_in X n)) (PySem.W.nsMap_none_of_in X n ?_) .base;simp only[PySem.W.ownIn] at ri;rw[l] at ri;exact ri
section
variable {prog:Program}{w:World}{A:Around}{E:Value->Shared->Prop}{h:Heap}{g:Array GenState}{d:Drawn}{t:Nat}{os:OsState}{K:Frag}{C R fI:Addr}
end
end XE
namespace XE
open PySem PySem.Spec PyProof.Rows L2
def XAt(e C:Addr)(od:Option Addr):Heap->Prop:=fun h=>∃t,h.get? e=some { cls:=.ref C,dict:=od,data:=.fields #[.ref t,.none,.none,.none,.bool false,.none] }
theorem XAt.stay(x:XAt e C od h1)(k:∀o,h1.get? e=some o->h2.get? e=some o):XAt e C od h2:=let ⟨t,y⟩:=x;⟨t,k _ y⟩
theorem XAt.ok(x:XAt e C od h):ObjOk P w H h e (.ext (XAt e C od)):=⟨x,let ⟨_,y⟩:=x;⟨_,y⟩,fun _ _ a k=>a.stay k⟩
theorem XAt.of(ok:HOk P w H h)(x:H e=some (.ext (XAt e C od))):XAt e C od h:=(ok _ _ x).1
section
variable {X:Cx}{C R:Addr}
end
section
open Builtin Builtin.ObjectAttr
variable {prog:Program}{w:World}{A:Around}{E:Value->Shared->Prop}{h:Heap}{g:Array GenState}{d:Drawn}{t:Nat}{os:OsState}{K:Frag}{C R e:Addr}{name:Str}{v:Value}{vs:Array Value}
end
end XE
namespace XE
open PySem PySem.Spec PyProof.Rows L2
section
variable {X:Cx}{C R:Addr}
end
end XE
namespace XE
open PySem PySem.Spec PyProof.Rows L2
def spI(C:Addr)(f:Str):Sp:=fun vs H Q _=>∃a x,vs=[.ref a,.str x]/\H a=some (.ext (XAt a C none))/\(reprText x).length+1000<=sizeLine /\
 ∀dx,H dx=none->dx≠a->Q .non (upd (upd H dx (.xd [(f,.str x)])) a (.ext (XAt a C (some dx))))
structure XIni(P:Program)(w:World)(K:Frag)(mg:Str->Option Value)(base:Heap)(C R:Addr)(f:Str)(k:Nat):Prop where
 ex:∃fI fd ps,FnOk P w K mg base CX0 k fI fd ps (spI C f)/\Binds K fd ps []/\PySem.W.findIn K (.ref C) "__init__"=some (some (.ref fI))/\PySem.W.isFn K (.ref fI)=true
 c:XCl K C (.ref R::vE)
 r:XCl K R vE
 ri:PySem.W.ownIn K "__init__" (.ref R)=some none
 kp:PySem.W.keepIn K (.ref C)=true
section
variable {X:Cx}{C R:Addr}{f:Str}{k:Nat}
end
end XE
namespace XE
open PySem PySem.Spec PyProof.Rows L2
structure Kp(xs fs:List Addr)(h h':Heap):Prop where
 keep:∀b o,h.get? b=some o->b∉xs->b∉fs->h'.get? b=some o
 slot:∀b o,h.get? b=some o->b∉xs->b∈fs->∃sl,h'.get? b=some { o with slots:=sl }
 there:∀b o,h.get? b=some o->∃o',h'.get? b=some o'
theorem Kp.trans{xs fs:List Addr}{h h1 h2:Heap}(a:Kp xs fs h h1)(b:Kp xs fs h1 h2):Kp xs fs h h2 where
 keep:=fun c o q n m=>b.keep c o (a.keep c o q n m) n m
 slot:=fun c o q n m=>let ⟨_,e⟩:=a.slot c o q n m;let ⟨sl,e2⟩:=b.slot c _ e n m;⟨sl,e2⟩
 there:=fun c o q=>let ⟨_,e⟩:=a.there c o q;b.there c _ e
theorem Kp.more(a:Kp xs fs h h')(k:∀x∈xs,x∈ys):Kp ys fs h h':=⟨fun b o q n m=>a.keep b o q (fun z=>n (k b z)) m,fun b o q n m=>a.slot b o q (fun z=>n (k b z)) m,a.there⟩
theorem Kp.fun_(a:Kp xs fs h h')(n:∀x∈xs,∃o vs,h.get? x=some o/\o.data=.fields vs)(f:h.FunFrames base l):h'.FunFrames base l:=by
 refine f.of_keeps fun b o q nf=>?_
 have hx:b∉xs:=fun z=>by
  obtain⟨o',vs,e1,e2⟩:=n b z;rw[q] at e1;cases e1;exact nf vs e2
 by_cases hb:b∈fs
 .obtain⟨sl,e⟩:=a.slot b o q hx hb
  exact⟨_,e,rfl⟩
 .exact⟨o,a.keep b o q hx hb,rfl⟩
def XR(e C dx:Addr)(tb:Value)(h:Heap):Prop:=∃t,h.get? e=some { cls:=.ref C,dict:=some dx,data:=.fields #[.ref t,tb,.none,.none,.bool false,.none] }
def TB(T:Addr)(fl:Value)(h:Heap):Prop:=∃oT ts,h.get? T=some oT/\oT.data=.fields ts/\ts[3]? = some fl
section
variable {M:Model}{A:Around}{E:Value->Shared->Prop}{s:Shared}{base:Heap}{env:Env}{outer:List Env}{L e C dx T:Addr}
end
end XE
namespace XE
open PySem PySem.Spec PyProof.Rows L2
def forget(a:Addr)(H:Hp):Hp:=fun b=>if b=a then none else H b
theorem dJ(h:b≠a):forget a H b=H b:=by unfold forget;rw[if_neg h]
theorem gN:forget a H a=none:=by unfold forget;rw[if_pos rfl]
theorem jk(h:H a=none):forget a (upd H a o)=H:=by
 funext b;unfold forget upd
 by_cases e:b=a
 .rw[if_pos e,e,h]
 .rw[if_neg e,if_neg e]
section
variable {P:Program}{w:World}{K:Frag}{mg:Str->Option Value}{base:Heap}{N:List Str}{qual:Str}{scope:Scope}{f C R:Addr}{cdv:Value}{A:Around}{outer:List Env}{s0:Shared}{H0:Hp}{E:XK}
def sRaise(n0:Nat)(C:Addr)(E:XK)(te:TE):TS:=fun _ σ H=>te σ H fun v H2=>∃a dx,v=.ref a/\n0<=a/\H2 a=some (.ext (XAt a C (some dx)))/\E (.ref C) (some dx) (forget a H2)
end
end XE
namespace XE
open PySem PySem.Spec PyProof.Rows L2
section
variable {X:Cx}{pins:List (Addr×Obj)}{σ:L2.St}{H:Hp}{s:Shared}
theorem name_goes(I:L2.Inv X pins σ H s)(hN:X.N.Nodup)(hi:X.N[i]? = some n)(hl:X.env.scope.names.lookup n=some .local)
  (k:∀s',L2.Inv X pins (σ.set i none) H s'->Q () s'):wpAny (model X.prog X.w) A (do bindName X.env n .none;unbindBehindTheSuite X.env n pos) Q E s:=by
 obtain⟨m,hn,hm⟩:=id I.loc
 have hp:(X.env.scope.kind == .class||(X.env.scope.kind == .module&&X.env.locals != X.env.globals))=false:=by rw[I.ok.kind];rfl
 have hk:X.env.kindOf n=some .local:=hl;refine wpAny_bind (wpAny_bindName (wpAny_storeName_local hk hn (fun h1 hn1 hs1=>?_) hp));unfold unbindBehindTheSuite;refine wpAny_onRaise ?_;unfold unbindName;refine wpAny_bind (wpAny_point (wpAny_bind ?_));unfold deleteName;simp only[hk,hp];rw[if_neg (by decide)];refine wpAny_bind (wpAny_nsDel_keeps hn1 fun h2 v hn2 hs2=>?_);simp only[if_true,Option.isSome_some,Bool.not_true,Bool.false_eq_true,if_false];refine wpAny_pure (wpAny_point (k _ ?_));have hs:=hs1.trans hs2;have cne:=I.cne;obtain⟨oL,_,_,hoL,_⟩:=id hn
 have hiσ:i<σ.length:=by rw[I.len];exact(List.getElem?_eq_some_iff.mp hi).1
 refine⟨I.ok,I.os,I.bare,⟨fun b o e n hb hx=>?_,fun b o e n hb hx=>?_,I.base.free,fun b o e hx=>?_,I.base.tups,I.base.frzs,I.base.tbls⟩,⟨_,hn2,fun j y v' e1 e2 e3=>?_⟩,fun y c e=>?_,I.free,I.freeC,fun p hp=>?_,fun b ob e=>?_,by simpa using I.len⟩
 .exact(hs.2 b (Nat.ne_of_lt (Nat.lt_of_lt_of_le (Heap.lt_size e) I.ok.above))).trans (I.base.keep b o e n hb hx)
 .obtain⟨sl,e1⟩:=I.base.slot b o e n hb hx
  exact⟨sl,(hs.2 b (Nat.ne_of_lt (Nat.lt_of_lt_of_le (Heap.lt_size e) I.ok.above))).trans e1⟩
 .obtain⟨o',e1⟩:=I.base.there b o e hx
  exact⟨o',(hs.2 b (Nat.ne_of_lt (Nat.lt_of_lt_of_le (Heap.lt_size e) I.ok.above))).trans e1⟩
 .by_cases hj:j=i
  .subst hj
   rw[List.getElem?_set_self hiσ] at e2;cases e2
  .rw[List.getElem?_set_ne (Ne.symm hj)] at e2
   obtain⟨u',r',q⟩:=hm j y v' e1 e2 e3;refine⟨u',r',?_⟩
   rcases q with⟨k,e⟩|⟨k,c,e,z⟩
   .refine .inl ⟨k,?_⟩
    have:y≠n:=fun e=>hj (qd hN e1 (e ▸ hi));simp[this,e]
   .exact .inr ⟨k,c,e,z.sameBut hs (cne y c e)⟩
 .obtain⟨w',z⟩:=I.cell y c e
  exact⟨w',z.sameBut hs (cne y c e)⟩
 .obtain⟨e,n,ne,nf,d⟩:=I.pin p hp
  exact⟨(hs.2 p.1 ne).trans e,n,ne,nf,d⟩
 .refine(I.hok b ob e).stay (fun c w' hc q=>(hs.2 c ?_).trans q) (fun _ q=>q) fun _ _ q=>q
  rintro rfl
  rcases hc with rfl|hc
  .rw[I.free] at e;cases e
  .rw[I.free] at hc;cases hc
theorem tf{A:Around}:(A.mark v).frames=A.frames:=rfl
end
end XE
namespace XE
open PySem PySem.Spec PyProof.Rows L2
section
variable {X:Cx}{C R fa:Addr}{k:Nat}{fd:FuncData}{ps:List Str}{sp:Sp}
end
end XE
namespace XE
open PySem PySem.Spec PyProof.Rows L2
section
variable {prog:Program}{w:World}{A:Around}{E:Value->Shared->Prop}{h:Heap}{g:Array GenState}{d:Drawn}{t:Nat}{os:OsState}{K:Frag}{C R x:Addr}{ox:Obj}{od:Option Obj}{name:Str}
structure XIs(K:Frag)(C:Addr):Prop where
 bm:PySem.W.mroIn K C (.type "BaseException")=some true
 gt:PySem.W.findIn K (.ref C) "__getattr__"=some none
 ga:PySem.W.findIn K (.ref C) "__getattribute__"=some (some (.builtin "BaseException.__getattribute__"))
 hc:(PySem.W.clsIn K C).isSome=true
 ca:PySem.W.findIn K (.ref C) "__class__"=some (some (.builtin "object.__class__"))
 hn:PySem.W.specialIn K (.builtin "object.__class__") "__get__"=some (some (.builtin "getset_descriptor.__get__"))
 tk:PySem.W.takesIn K (.builtin "object.__class__")=some true
 hm:PySem.W.mroIn K C (.type "object")=some true
end
end XE
namespace XE
open PySem PySem.Spec PyProof.Rows L2
section
variable {X:Cx}{C e dx:Addr}{oe:Obj}
structure Cau(X:Cx)(C e dx:Addr)(oe:Obj):Prop where
 pin:(e,oe)∈X.pn
 cls:oe.cls=.ref C
 dict:oe.dict=some dx
 data:∃vs,oe.data=.fields vs
 is:XIs X.K C
 hd:PySem.W.hasDictIn X.K C=true
end
end XE
namespace XE
open PySem PySem.Spec PyProof.Rows L2 D
theorem Cs{K:Frag}{O:Addr->Prop}{ts:List Addr}{H:Hp}{T:Tp}{vs:List V}{ws:List W}{N:List Str}(hc:HC K O ts H T)(rw':fg K O ts H vs ws)(hn:cK ws=true) :
  RS K O H [] ts O H (start N vs) (ws.map some++List.replicate (N.length-ws.length) none) T:=by
 have hlen:vs.length=ws.length:=Paired.length rw';have noL:∀{i:Nat}{xs:PyData},(ws.map some++List.replicate (N.length-ws.length) none)[i]? = some (some (W.loc xs))->False:=fun {i xs} e=>ku hn (List.mem_of_getElem? (jl e));refine⟨hc,fun i u e=>?_,fun _ h=>h,hc.own,.refl _ _,fun i xs a e1 _=>(noL e1).elim,fun i j xs ys v e1 _ _ _=>(noL e1).elim,fun f hf=>absurd hf (by simp),by simp[L2.start,hlen]⟩;obtain⟨v,h1,h2⟩:=l9 rw' (jl e);refine⟨v,?_,h2⟩;unfold L2.start;have hi:i<vs.length:=(List.getElem?_eq_some_iff.mp h1).1;rw[List.getElem?_append_left (by simpa using hi),List.getElem?_map,h1];rfl
structure XB(K:Frag)(C R:Addr)(f:Str)(Ds:List Addr):Prop where
 c:XCl K C (.ref R::vE)
 r:XCl K R vE
 ri:PySem.W.ownIn K "__init__" (.ref R)=some none
 kp:PySem.W.keepIn K (.ref C)=true
 is:XIs K C
 hd:PySem.W.hasDictIn K C=true
 nn:PySem.W.findIn K (.ref C) f=some none
 sa:PySem.W.findIn K (.ref C) "__setattr__"=some (some (.builtin "object.__setattr__"))
 rd:PySem.W.readsIn K R (.type "type")=true
 fc:PySem.W.findCls K (.ref R) (.type "type") "__init__"=some (.val (.builtin "ValueError.__init__"))
 kC:PySem.W.kitOne K (.ref C) (.ref C)=some true
 kV:PySem.W.kitOne K (.ref C) (.type "ValueError")=some true
 kD:PySem.W.kitAny K (.ref C) (Ds.map Value.ref)=some false
def oz:Obj->Bool
 |⟨_,_,.dict es _,_⟩=>es.toList.all fun e=>match e.key with
  |.str _ _=>true
  |_=>false
 |_=>false
end XE
namespace XE
open PySem PySem.Spec PyProof.Rows L2
section
variable {X:Cx}{C R:Addr}
end
end XE
namespace XE
open PySem PySem.Spec PyProof.Rows L2 D
def spG(P:V->Prop)(C:Addr)(f:Str):Sp:=fun vs H Q _=>∃a v,vs=[.ref a,v]/\H a=some (.ext (XAt a C none))/\P v /\
 ∀dx,H dx=none->dx≠a->Q .non (upd (upd H dx (.xd [(f,v)])) a (.ext (XAt a C (some dx))))
structure XIniG(A:V->Prop)(P:Program)(w:World)(K:Frag)(mg:Str->Option Value)(base:Heap)(C R:Addr)(f:Str)(k:Nat):Prop where
 ex:∃fI fd ps,FnOk P w K mg base CX0 k fI fd ps (spG A C f)/\Binds K fd ps []/\PySem.W.findIn K (.ref C) "__init__"=some (some (.ref fI))/\PySem.W.isFn K (.ref fI)=true
 c:XCl K C (.ref R::vE)
 r:XCl K R vE
 ri:PySem.W.ownIn K "__init__" (.ref R)=some none
 kp:PySem.W.keepIn K (.ref C)=true
section
variable {X:Cx}{C R:Addr}{f:Str}{k:Nat}
end
end XE
namespace XE
open PySem PySem.Spec PyProof.Rows L2 D
end XE
namespace D
open PySem PySem.Spec PyProof.Rows L2
def rL(n:Nat)(o:Option (PyData×Tp)):Option (W×Tp):=match o with
 |some (y,T)=>if T.length=n+1 then some (.d y,T.take n) else none
 |none=>none
def kZ(mf:FnM)(xs:List PyData)(ws:List W)(T:Tp):Option (W×Tp):=if cK ws=true then rL T.length (mf (.tp T.length::ws) (T++[xs])) else none
def xH(mf:FnM)(g:FA)(ρ:Rho)(x:PyData)(T:Tp):Option (W×Tp):=match x with
 |.list xs=>bnd (g ρ T) (kZ mf xs)
 |_=>none
def b6(mf mh:FnM)(g1 g2:FA):FE:=fun ρ T=>bnd (g1 ρ T) fun ws T1=>bnd (mh ws T1) (xH mf g2 ρ)
theorem Bx(h:xH mf g ρ x T=some (w,T')):∃xs ws T3 y T5,x=.list xs/\g ρ T=some (ws,T3)/\cK ws=true/\mf (.tp T3.length::ws) (T3++[xs])=some (y,T5)/\T5.length=T3.length+1/\w=.d y/\T'=T5.take T3.length:=by
 cases x with
 |list xs=>
  obtain⟨ws,T3,e1,e⟩:=aM (show bnd (g ρ T) (kZ mf xs)=_ from h);unfold kZ at e;split at e
  .rename_i hn
   unfold rL at e;split at e
   .rename_i y T5 e2
    split at e
    .rename_i hl
     cases e;exact⟨xs,ws,T3,y,T5,rfl,e1,hn,e2,hl,rfl,rfl⟩
    .cases e
   .cases e
  .cases e
 |_=>cases h
section
variable {X:Cx}
theorem kJ(Ff:Fn X.prog X.w X.K X.mg X.base fname ps kf (spM X.K ps.length mf))(Fh:Fn X.prog X.w X.K X.mg X.base hname qs kh (spO X.K qs.length mh))(hrf:Room kf X.A)(hrh:Room kh X.A)(hgf:Gl X fname)(hgh:Gl X hname)
  (ha:DA X (a::as) g1) (hl1:fY g1 qs.length) (he:DA X es g2) (hl2:fY (ae (fC .none) g2) ps.length) (hdf:(fname == ("__debug__" : Str))=false:=by decide) (hdh:(hname == ("__debug__" : Str))=false:=by decide)
  (hsh:starEach (a::as) X.env=(false,eval a X.env)::starEach as X.env:=by exact bb rfl) (hplh:(backTo c2 (starEach as X.env)).any (·.1)=false:=by exact bS rfl)
  (hsf:starEach (.Call (.Name hname p2) (a::as) [] c2::es) X.env=(false,eval (.Call (.Name hname p2) (a::as) [] c2) X.env)::starEach es X.env:=by exact bb rfl) (hplf:(backTo cpos (starEach es X.env)).any (·.1)=false:=by exact bS rfl) :
  DE X (.Call (.Name fname p) (.Call (.Name hname p2) (a::as) [] c2::es) [] cpos) (b6 mf mh g1 g2):=by
 refine⟨?_⟩;refine bu (lc Ff hrf hgf (cX (lc Fh hrh hgh ha.pe hdh hsh hplh) he.pe hsf) hdf hsf hplf) fun σ H Q=>?_;rintro⟨O,ts,ρ,T,w,T',hc,re,e,q⟩;obtain⟨ws,T1,e1,e⟩:=aM e;obtain⟨x,T2,e2,e⟩:=aM e;obtain⟨xs,ws2,T3,y,T5,rfl,e3,hno,e4,hlen,rfl,rfl⟩:=Bx e;refine⟨O,ts,ρ,T,ws,T1,hc,re,e1,fun vs H1 s1 hc1 r1=>?_⟩;refine⟨O,ts,T1,ws,_,_,hc1,by rw[List.append_nil];exact r1,hl1 _ _ _ _ e1,e2,fun A v H2 s2 hA hc2 ov=>?_⟩;obtain⟨b,rfl,hAA,us,k1,k2⟩:=ov;have hAb:=hA b ((hAA b).mpr rfl);have ntb:b∉ts:=fun z=>hAb.2 (hc1.own b z);have le2:Le O H1 (fun c=>O c\/A c) H2:=fun c o n z=>⟨fun y=>y.elim n fun y=>(by rw[(hA c y).1] at z;cases z),s2 c o (fun y=>n (hc1.own c y)) z⟩
 have re2:RelE X.K (fun c=>O c\/A c) ts H2 σ ρ:=fun i w e=>by
  obtain⟨v,h1,h2⟩:=(re.mono hc s1) i w e;refine⟨v,h1,?_⟩
  cases w with
  |d x=>exact Rep.mono le2 h2
  |tp k=>exact h2
  |loc ys=>
   obtain⟨a',ea,m1,m2,m3⟩:=h2;exact⟨a',ea,.inl m1,m2,m3.mono (fun o q=>s2 _ _ m2 q) le2⟩
 refine⟨_,ts,ρ,T2,ws2,T3,hc2,re2,e3,fun vs2 H3 s3 hc3 r3=>?_⟩;have kb3:H3 b=some (.lst us):=s3 b _ ntb k1;have ru3:=k2.mono (hc2.le s3);have lt3:ts.length=T3.length:=hc3.len
 have hc4:HC X.K (fun c=>O c\/A c) (ts++[b]) H3 (T3++[xs]):=by
  refine⟨fun c hc'=>?_,hc3.trk,?_,by simp[lt3],fun i c ys q1 q2=>?_⟩
  .rcases List.mem_append.mp hc' with z|z
   .exact hc3.own c z
   .rw[List.mem_singleton.mp z];exact .inr ((hAA b).mpr rfl)
  .exact List.nodup_append.mpr ⟨hc3.nd,by simp,fun c hc' d hd z=>ntb (by rw[←List.mem_singleton.mp hd,←z];exact hc')⟩
  .by_cases hi:i<ts.length
   .rw[List.getElem?_append_left hi] at q1
    rw[List.getElem?_append_left (by omega)] at q2;exact hc3.tape i c ys q1 q2
   .have hi':i=ts.length:=by
     have:=(List.getElem?_eq_some_iff.mp q1).1;simp at this;omega
    subst hi';rw[List.getElem?_append_right (Nat.le_refl _)] at q1;rw[List.getElem?_append_right (by omega)] at q2;simp[lt3] at q1 q2;subst q1 q2;exact .inl ⟨ru3.notO,us,kb3,ru3⟩
 have rw4:fg X.K (fun c=>O c\/A c) (ts++[b]) H3 (.ref b::vs2) (.tp T3.length::ws2):=by
  refine .cons ⟨b,by rw[List.getElem?_append_right (by omega)];simp[lt3],rfl⟩ ?_;clear e4 hlen q e3
  induction r3 with
  |nil=>exact .nil
  |@cons v w vs ws h t ih=>
   cases w with
   |d x=>exact .cons h (ih hno)
   |tp i=>
    obtain⟨c,h1,h2⟩:=h;exact .cons ⟨c,by rw[List.getElem?_append_left (List.getElem?_eq_some_iff.mp h1).1];exact h1,h2⟩ (ih hno)
   |loc _=>cases hno
 have hlw:(W.tp T3.length::ws2).length=ps.length:=by
  have:=hl2 ρ T2 (.d .none::ws2) T3 (by show bnd (some (W.d .none,T2)) _=_;rw[Ho,e3];rfl);simpa using this
 refine⟨_,ts++[b],T3++[xs],.tp T3.length::ws2,y,T5,hc4,by rw[List.append_nil];exact rw4,hlw,e4,fun v H4 s4 hc5 r5=>?_⟩;have le5:Le (fun c=>O c\/A c) H4 O H4:=fun c o n z=>⟨fun y=>n (.inl y),z⟩;refine q v H4 (fun c o n z=>?_) ⟨hc.own,fun c hc'=>hc5.trk c (.inl hc'),hc.nd,?_,fun i c ys q1 q2=>?_⟩ (Rep.mono le5 r5)
 .have h1:=s1 c o n z
  have nb:c≠b:=fun y=>by rw[y,hAb.1] at h1;cases h1
  refine s4 c o (fun y=>?_) (s3 c o n (s2 c o n h1))
  rcases List.mem_append.mp y with z|z
  .exact n z
  .exact nb (List.mem_singleton.mp z)
 .rw[List.length_take,hlen,lt3]
  omega
 .have hi:i<ts.length:=(List.getElem?_eq_some_iff.mp q1).1
  rw[List.getElem?_take_of_lt (by omega)] at q2;exact(hc5.tape i c ys (by rw[List.getElem?_append_left hi];exact q1) q2).mono (fun _ h=>h) le5
end
section
variable {X:Cx}
variable {pos:Pos}{e:Expr}{fe:FE}
end
section
variable {prog:Program}{w:World}{A:Around}{E:Value->Shared->Prop}
end
section
variable {X:Cx}{pos:Pos}
end
section
variable {X:Cx}{pos:Pos}{e:Expr}{fe:FE}
end
section
variable {X:Cx}
end
section
variable {X:Cx}{pos:Pos}{e:Expr}{fe:FE}
end
section
variable {X:Cx}{pos:Pos}
def nv(i:Nat)(ρ:Rho)(T:Tp)(o:Option (List (Str×PyData))):Option ((Fl×Rho)×Tp):=match o with
 |some l=>if sy l=true then some ((.nx,ρ.set i (some (.loc (.dict (aJ l))))),T) else none
 |none=>none
def zA(o:Option PyData):Option (List (Str×PyData)):=match o with
 |some (.list ds)=>iJ ds
 |_=>none
def k6(i:Nat)(f:FE):FS:=fun ρ T=>bnd (f ρ T) fun w T1=>nv i ρ T1 (zA (view T1 w))
theorem vj(hm:X.mg "dict"=none)(hN:X.N.Nodup)(he:DE X e fe)(hcm:X.calm=true:=by rfl)(hg:Gl X "dict":=by rfl)
  (hse:starEach [e] X.env=(false,eval e X.env)::starEach [] X.env:=by exact bb rfl) (hpl:(backTo cpos (starEach [] X.env)).any (·.1)=false:=by exact bS rfl) (hi:X.N[i]? = some x:=by rfl) (hx:Loc X.env.scope x:=by first|exact Or.inl rfl|exact Or.inr rfl)
  (hs:swapsWith (.Call (.Name "dict" p) [e] [] cpos) (some (.Name x pos')) pos.line X.env=pure false:=by rfl) (hf:X.fn x=true\/X.env.scope.names.lookup x=some .local:=by first|exact .inl rfl|exact .inr rfl|assumption) :
  DS X (.Assign [.Name x pos'] (.Call (.Name "dict" p) [e] [] cpos) pos) (k6 i fe):=by
 refine⟨?_⟩;refine bZ (iI hN hi hx (me (Bl hcm) hg hm boot_dict (cX he.pe dA hse) (by decide) (by decide) hse hpl) hs hf) fun D σ H=>?_;rintro⟨O₀,H₀,F,ts,O,ρ,T,fl,ρ',T',rs,e,q⟩;obtain⟨w,T1,e1,e⟩:=aM e;refine⟨O,ts,ρ,T,w,T1,rs.hc,rs.re,e1,fun v H1 s1 hc1 r1=>?_⟩;have rs1:=rs.step s1 hc1;unfold nv at e;split at e
 .rename_i l hl
  split at e
  .rename_i ho
   cases e;have nd:=of_decide_eq_true ((Bool.and_eq_true _ _ ▸ ho).1);have hz:=of_decide_eq_true ((Bool.and_eq_true _ _ ▸ ho).2);unfold zA at hl;split at hl
   .rename_i ds hv
    obtain⟨a,vs,rfl,t,r⟩:=(hc1.view r1 hv).lst;obtain⟨kvs,h1,h2,h3⟩:=uY r hl
    have hlen:kvs.length=l.length:=by have:=congrArg List.length h2;simpa using this
    refine⟨a,vs,kvs,rfl,t,h1,by rw[hlen];exact Nat.le_trans hz (by decide),fun p hp=>?_⟩
    have hm:fK [] (kvs.map cP)=kvs.map cP:=by
     have:=ut kvs [] (by rw[List.map_nil,List.nil_append,h2];exact nd);simpa using this
    rw[hm];exact q _ _ _ (rs1.ownO hp (.inr (.inl ⟨_,rfl⟩)) fun le=>⟨_,bt,h3.mono le⟩)
   .cases hl
  .cases e
 .cases e
end
def Jh(_ j:Int):Prop:=0<j/\j<18446744073709551616
def r6:PyData->PyData->Option PyData:=iop fun i j=>if 0<j/\j<18446744073709551616 then some (.int (i / j)) else none
theorem Iq(h:y.natAbs<18446744073709551616):Builtin.divisionGoesByPylong x y=false:=by
 refine PyProof.noPylong_of_log2 ?_
 by_cases h0:y.natAbs=0
 .rw[h0];decide +kernel
 .have h30:y.natAbs.log2<64:=(Nat.log2_lt h0).mpr h
  omega
section
variable {X:Cx}
theorem CO:OpR X (binaryOp .FloorDiv) (rI Jh fun i j=>.int (i / j)):=opI fun i j _ _ _ _ _ hc q=>by
 have h1:(0:Int)<j:=hc.1;have h2:j<18446744073709551616:=hc.2;exact floordiv_int (by omega) (by rw[Int.fdiv_eq_ediv_of_nonneg i (by omega)];exact q) (.inl (Iq (by omega)))
theorem Ew:OpD X (binaryOp .FloorDiv) r6:=⟨_,CO,q8 fun i j d e=>by
 split at e
 .rename_i h;cases e;exact⟨h,fun _ _=>.int _⟩
 .cases e⟩
end
end D
namespace L2
open PySem PySem.Spec PyProof.Rows
section
variable {prog:Program}{w:World}{A:Around}{E:Value->Shared->Prop}{s:Shared}
end
section
variable {X:Cx}{e:Expr}{te:TE}{x y:Str}{p p' pos pos':Pos}
end
end L2
namespace D
open PySem PySem.Spec PyProof.Rows L2
def IC:PyData->Option PyData
 |.list xs=>some (.list xs.reverse)
 |_=>none
@[simp] theorem Lh:IC (.list xs)=some (.list xs.reverse):=rfl
section
variable {X:Cx}{pos pos' p p':Pos}{e:Expr}{f:FE}
end
section
variable {X:Cx}{pos:Pos}
end
def dd:List Str->List Str
 |[]=>[]
 |a::r=>if a∈r then dd r else a::dd r
section
variable {X:Cx}{pos:Pos}
end
end D
namespace L2
open PySem PySem.Spec PyProof.Rows
section
variable {P:Program}{w:World}{A:Around}{E:Value->Shared->Prop}{s:Shared}
end
def keyV:Value->Str
 |.str k _=>k
 |_=>""
section
variable {P:Program}{w:World}{A:Around}{s:Shared}
end
section
set_option maxRecDepth 100000
variable {P:Program}{w:World}{A:Around}{E:Value->Shared->Prop}{s:Shared}
end
section
set_option maxRecDepth 100000
set_option maxHeartbeats 3200000
variable {P:Program}{w:World}{A:Around}{E:Value->Shared->Prop}{s:Shared}
end
section
set_option maxRecDepth 100000
set_option maxHeartbeats 3200000
variable {P:Program}{w:World}{A:Around}{E:Value->Shared->Prop}{s:Shared}
end
section
set_option maxRecDepth 100000
variable {P:Program}{w:World}{A:Around}{E:Value->Shared->Prop}{s:Shared}
end
section
set_option maxRecDepth 100000
variable {P:Program}{w:World}{A:Around}{E:Value->Shared->Prop}{s:Shared}
def TupAt(h:Heap)(q:Addr)(pl:Array Value):Prop:=∃o n,h.get? q=some o/\o.data=.seq pl n
end
section
set_option maxRecDepth 100000
variable {P:Program}{w:World}{A:Around}{E:Value->Shared->Prop}{s:Shared}
end
section
set_option maxRecDepth 100000
variable {P:Program}{w:World}{A:Around}{E:Value->Shared->Prop}{s:Shared}
end
end L2
namespace D
open PySem PySem.Spec PyProof.Rows L2
section
set_option maxRecDepth 100000
variable {X:Cx}
end
def EqW(P:Program)(w:World)(A:Around)(s:Shared)(y x:Value)(b:Bool):Prop:=∀(E:Value->Shared->Prop) (Q:Bool->Shared->Prop),Q b s->wpAny (model P w) A (eqBool y x) Q E s
def gG(e:List (PyData×PyData)):List (PyData×PyData)->Option Bool
 |[]=>some true
 |(.str k,v)::r=>match aA e k with
  |none=>some false
  |some u=>if SeqAt.shaped v=true/\SeqAt.shaped u=true then (gG e r).map fun b=>PyData.eqv v u&&b else none
 |_=>none
def j4(d e:List (PyData×PyData)):Option Bool:=if gG d d=some true then (if d.length=e.length then gG e d else some false) else none
def ik:PyData->PyData->Option Bool
 |.dict d,.dict e=>j4 d e
 |x,y=>if SeqAt.shaped x=true/\SeqAt.shaped y=true then some (PyData.eqv x y) else none
def fX:List PyData->List PyData->Option (List Bool)
 |[],[]=>some []
 |x::r,y::t=>match ik x y,fX r t with
  |some a,some b=>some (a::b)
  |_,_=>none
 |_,_=>none
section
set_option maxRecDepth 100000
variable {P:Program}{w:World}{A:Around}{E:Value->Shared->Prop}{s:Shared}
open PySem.SeqAt in
theorem xu(hl:s.heap.IsTuple l items)(hb:s.heap.IsTuple b items2)(hu:A.units<cLine)(hz:items.size=items2.size)
  (he:∀j (h1:j<items.size) (h2:j<items2.size),EqW P w A.in1 s items[j] items2[j] (e j)) (h:Q (.bool ((List.range items.size).all e)) s):wpAny (model P w) A (compareOp .Eq (.ref l) (.ref b)) Q E s:=by
 obtain⟨⟨cls,dd,data,sl⟩,ho,hc,n,hd⟩:=id hl;obtain⟨⟨cls2,dd2,data2,sl2⟩,ho2,hc2,n2,hd2⟩:=id hb;simp only at hc hd hc2 hd2;subst hc hd hc2 hd2;have t1:s.TypeIs (.ref l) "tuple":=⟨_,ho,rfl⟩;have t2:s.TypeIs (.ref b) "tuple":=⟨_,ho2,rfl⟩;refine wpAny_richCompare_same_room (op:=.Eq) t1 t2 F.slot_tuple_eq (wpAny_call_entry F.slot_tuple_eq t1 F.entry_tuple_eq ?_ (F.args_tuple_eq_2 _ _)) hu;obtain⟨hp,g,d,tk,os⟩:=s;have f2:=AutoSeq1.sub_tuple_tuple
 have hZ:(items.toList.zip items2.toList).length=items.size:=by simp[hz]
 wp_walk using AutoSeq1.wpAny_loadPart' ho,AutoSeq1.wpAny_loadPart' ho2,wpAny_forIn_list _ (fun rest b s'=>b.1=none/\s'=⟨hp,g,d,tk,os⟩/\∃i,rest=(items.toList.zip items2.toList).drop i/\Q (.bool (((List.range items.size).drop i).all e)) ⟨hp,g,d,tk,os⟩) _
 case turn=>
  rintro⟨y,x⟩ rest b s' ⟨hb',rfl,i,hz',hR⟩
  have hlt:i<(items.toList.zip items2.toList).length:=(Nat.lt_or_ge i _).elim id fun h'=>by rw[List.drop_of_length_le h'] at hz';cases hz'
  have h1:i<items.size:=hZ ▸ hlt;have h2:i<items2.size:=hz ▸ h1;rw[List.drop_eq_getElem_cons hlt] at hz'
  injection hz' with hyx hrest
  obtain⟨hy,hx⟩:y=items[i]/\x=items2[i]:=by simpa using hyx
  subst hy hx
  have hd:(List.range items.size).drop i=i::(List.range items.size).drop (i+1):=by simp[List.drop_eq_getElem_cons,h1]
  rw[hd,List.all_cons] at hR;refine wpAny_bind (he i h1 h2 _ _ ?_)
  cases hy:e i <;> rw[hy] at hR <;> wp_walk
  .first|exact⟨_,rfl,(fun x=>nomatch x),by simpa using hR⟩|exact⟨(fun x=>nomatch x),by simpa using hR⟩|exact⟨_,rfl,by simpa using hR⟩
  .exact⟨rfl,rfl,i+1,hrest,by simpa using hR⟩
 case fin=>
  rintro⟨b1,b2⟩ s' ⟨hb',rfl,i,hz',hR⟩;simp only at hb';subst hb';have hge:items.size<=i:=(Nat.lt_or_ge i (items.toList.zip items2.toList).length).elim (fun h'=>by rw[List.drop_eq_getElem_cons h'] at hz';cases hz') fun h'=>hZ ▸ h';rw[List.drop_of_length_le (by simpa using hge)] at hR;wp_walk
  first|exact⟨_,rfl,(fun x=>by cases x),by simpa[Builtin.Tuple.tupleCompareSizes,hz] using hR⟩|exact⟨_,rfl,by simp[Builtin.Tuple.tupleCompareSizes],by simpa[Builtin.Tuple.tupleCompareSizes,hz] using hR⟩
 case h=>
  exact⟨rfl,rfl,0,rfl,by simpa using h⟩
open PySem.SeqAt in
theorem rF(h:SeqAt.EqAt A s y x b):EqW P w A s y x b:=fun E Q q=>h P w E Q q
theorem vg(hne:a≠b)(ha:(a == sysModules)=false)(hb:(b == sysModules)=false)(da:s.heap.DictOf (bx P w) a ka)(db:s.heap.DictOf (bx P w) b kb)(hu:A.units<cLine)
  (hits:ka.length=kb.length->PySem.W.KeqHits A.in1 s kb ka r):EqW P w A s (.ref a) (.ref b) (ka.length == kb.length&&r):=fun E Q hq=>by
 unfold eqBool;refine wpAny_holding ?_;refine wpAny_ite_split (fun hab=>absurd (by have:=eq_of_beq hab;injection this) hne) (fun _=>?_);exact wpAny_bind (PySem.W.keq_eq ha hb da db hu hits (wpAny_truthy_bool hq))
end
section
variable {X:Cx}{pins:List (Addr×Obj)}{σ:L2.St}{H:Hp}{s:Shared}{O:Addr->Prop}{A:Around}
theorem wG(I:Inv X pins σ H s)(hu:A.in1.units+64<cLine)(re:RepK X.K O H kb e)(vb:KV kb ub):∀{ka:List (Key×V)}{d:List (PyData×PyData)}{ua:List (Key×Value)}{b:Bool},RepK X.K O H ka d->KV ka ua->gG e d=some b->PySem.W.KeqHits A.in1 s ub ua b
 |_,_,_,_,.nil,.nil,h=>by cases h;exact .nil
 |_,_,_,b,.cons (k:=k) (v:=v) (d:=x) (ds:=ds) q t,.cons hkv vt,h=>by
  obtain⟨e1,e2⟩:=hkv;rename_i p _;obtain⟨k',u⟩:=p;simp only at e1 e2;subst e1
  cases k with
  |inl i=>cases h
  |inr y=>
   simp only[gE,gG] at h;have hv:=vb.val (Sum.inr y:Key)
   rcases gT (s:=y) re with⟨h1,h2⟩|⟨v',d',h1,h2,h3⟩
   .rw[h1] at h
    cases h;rw[h2] at hv;exact .miss (RelO.none_of hv)
   .rw[h1] at h
    dsimp only at h;rw[h2] at hv;obtain⟨u',g1,g2⟩:=RelO.some_of hv;split at h
    .rename_i hs
     cases hr:gG e ds with
     |none=>rw[hr] at h;cases h
     |some b'=>
      rw[hr] at h;cases h;obtain⟨as,r1,_⟩:=Rep.reads I q e2;obtain⟨bs,r2,_⟩:=Rep.reads I h3 g2;exact .hit g1 (PySem.W.keq_at r1 r2 hs.1 hs.2 hu) (wG I hu re vb t vt hr)
    .cases h
theorem wO{B:Around}(hun:B.units+90<cLine)(I:Inv X pins σ H s)(h1:Rep X.K O H v x)(r1:RelV v u)(h2:Rep X.K O H v' y)(r2:RelV v' u')(h:ik x y=some b):EqW X.prog X.w B.in1 s u u' b:=by
 obtain⟨as,q1,_⟩:=Rep.reads I h1 r1;obtain⟨bs,q2,_⟩:=Rep.reads I h2 r2
 have flat:SeqAt.shaped x=true/\SeqAt.shaped y=true->b=PyData.eqv x y->EqW X.prog X.w B.in1 s u u' b:=fun hs e=>by
  subst e;exact rF (PySem.W.keq_at (A:=B) q1 q2 hs.1 hs.2 (by simp;omega))
 by_cases hd:∃d e,x=.dict d/\y=.dict e
 .obtain⟨d,e,rfl,rfl⟩:=hd
  have h':j4 d e=some b:=h;unfold j4 at h';split at h'
  .rename_i hself
   cases h1 with
   |@dct a oa ka _ n1 t1 k1=>
    cases h2 with
    |@dct b' ob kb _ n2 t2 k2=>
     cases r1;cases r2;obtain⟨za,la,ua,va,da⟩:=dP I.hok (.inr ⟨_,t1⟩);obtain⟨zb,lb,ub,vb,db⟩:=dP I.hok (.inr ⟨_,t2⟩)
     by_cases hab:a=b'
     .subst hab
      have e0:d=e:=by
       have:=(PySem.Reads.unique q1 _ _ q2).1;injection this
      subst e0;rw[if_pos rfl,hself] at h';cases h';exact rF (SeqAt.EqAt.same _)
     .have ela:ua.length=d.length:=by rw[←va.length];exact mC k1
      have elb:ub.length=e.length:=by rw[←vb.length];exact mC k2
      by_cases hl:d.length=e.length
      .rw[if_pos hl] at h'
       have:=vg (r:=b) (A:=B.in1) hab la lb da db (by simp;omega) (fun _=>wG (A:=B.in1) I (by simp;omega) k2 vb k1 va h');rw[ela,elb,hl,beq_self_eq_true,Bool.true_and] at this;exact this
      .rw[if_neg hl] at h'
       cases h';have:=vg (r:=true) (A:=B.in1) hab la lb da db (by simp;omega) (fun q=>absurd (by rw[←ela,←elb];exact q) hl);rw[ela,elb,beq_eq_false_iff_ne.mpr hl,Bool.false_and] at this;exact this
  .cases h'
 .have h':(if SeqAt.shaped x=true/\SeqAt.shaped y=true then some (PyData.eqv x y) else none)=some b:=by
   unfold ik at h;split at h
   .exact absurd ⟨_,_,rfl,rfl⟩ hd
   .exact h
  split at h'
  .rename_i hs
   cases h';exact flat hs rfl
  .cases h'
theorem wQ{B:Around}(hun:B.units+90<cLine)(I:Inv X pins σ H s):∀{vs vs':List V}{xs ys:List PyData}{us us':List Value}{bs:List Bool},Reps X.K O H vs xs->Vals vs us->Reps X.K O H vs' ys->Vals vs' us'->fX xs ys=some bs ->
  us.length=us'.length/\bs.length=us.length/\∀(j:Nat) (h1:j<us.length) (h2:j<us'.length),EqW X.prog X.w B.in1 s us[j] us'[j] (bs.getD j false)
 |_,_,_,_,_,_,_,.nil,.nil,.nil,.nil,e=>by cases e;exact⟨rfl,rfl,fun j h1 _=>absurd h1 (Nat.not_lt_zero _)⟩
 |_,_,_,_,_,_,_,.nil,.nil,.cons _ _,_,e=>by cases e
 |_,_,_,_,_,_,_,.cons _ _,_,.nil,.nil,e=>by cases e
 |_,_,_,_,_,_,_,.cons r t,.cons rv tv,.cons r' t',.cons rv' tv',e=>by
  unfold fX at e;split at e
  .rename_i a b ha hb
   cases e;obtain⟨l1,l2,f⟩:=wQ hun I t tv t' tv' hb;refine⟨by simp[l1],by simp[l2],fun j h1 h2=>?_⟩
   cases j with
   |zero=>exact wO hun I r rv r' rv' ha
   |succ j=>exact f j (by simpa using h1) (by simpa using h2)
  .cases e
theorem all_range{bs:List Bool}:(List.range bs.length).all (fun j=>bs.getD j false)=bs.all id:=by
 induction bs with
 |nil=>rfl
 |cons b r ih=>
  rw[List.length_cons,List.range_succ_eq_map,List.all_cons,List.all_map,List.all_cons];have:(fun j=>(b::r).getD j false) ∘ Nat.succ=fun j=>r.getD j false:=rfl;rw[this,ih];rfl
def lQ(x y:PyData):Option Bool:=match x,y with
 |.tuple xs,.tuple ys=>(fX xs ys).map fun bs=>bs.all id
 |x,y=>ik x y
def ij:List PyData->List PyData->Option (List Bool)
 |[],[]=>some []
 |x::r,y::t=>match lQ x y,ij r t with
  |some a,some b=>some (a::b)
  |_,_=>none
 |_,_=>none
def eqQ(x y:PyData):Option PyData:=match x,y with
 |.tuple xs,.tuple ys=>(ij xs ys).map fun bs=>.bool (bs.all id)
 |_,_=>none
theorem B8(h:ik x x=some b):b=true:=by
 have flat:(if SeqAt.shaped x=true/\SeqAt.shaped x=true then some (PyData.eqv x x) else none)=some b->b=true:=fun h=>by
  split at h
  .rename_i hs
   cases h;have:=hs.1;unfold SeqAt.shaped at this;rw[Bool.and_eq_true] at this;exact SeqAt.eqv_refl x this.1
  .cases h
 unfold ik at h;split at h
 .unfold j4 at h
  split at h
  .rename_i hs
   rw[if_pos rfl,hs] at h;cases h;rfl
  .cases h
 .exact flat h
theorem uz:∀{xs:List PyData}{bs:List Bool},fX xs xs=some bs->bs.all id=true
 |[],_,h=>by cases h;rfl
 |x::r,bs,h=>by
  unfold fX at h;split at h
  .rename_i a b ha hb
   cases h;rw[List.all_cons,uz hb,B8 ha];rfl
  .cases h
theorem Dh{B:Around}(hun:B.units+120<cLine)(I:Inv X pins σ H s)(h1:Rep X.K O H v x)(r1:RelV v u)(h2:Rep X.K O H v' y)(r2:RelV v' u')(h:lQ x y=some b):EqW X.prog X.w B.in1 s u u' b:=by
 by_cases hd:∃xs ys,x=.tuple xs/\y=.tuple ys
 .obtain⟨xs,ys,rfl,rfl⟩:=hd
  have h':(fX xs ys).map (fun bs=>bs.all id)=some b:=h;obtain⟨as,q1,_⟩:=Rep.reads I h1 r1;obtain⟨bs',q2,_⟩:=Rep.reads I h2 r2;obtain⟨a,vs,rfl,t1,p1⟩:=(Vw.rep h1).tup;obtain⟨c,vs',rfl,t2,p2⟩:=(Vw.rep h2).tup;cases r1;cases r2
  cases e:fX xs ys with
  |none=>rw[e] at h';cases h'
  |some bs=>
   rw[e] at h';cases h'
   by_cases hac:a=c
   .subst hac
    have e0:xs=ys:=by
     have:=(PySem.Reads.unique q1 _ _ q2).1;injection this
    subst e0;show EqW _ _ _ _ _ _ (bs.all id);rw[uz e];exact rF (SeqAt.EqAt.same _)
   .obtain⟨us,v1,i1,_⟩:=I.tuple t1.sq
    obtain⟨us',v2,i2,_⟩:=I.tuple t2.sq;obtain⟨l1,l2,f⟩:=wQ (B:=B.in1) (by simp;omega) I p1 v1 p2 v2 e;intro E Q hq;unfold eqBool;refine wpAny_holding ?_;refine wpAny_ite_split (fun hab=>absurd (by have:=eq_of_beq hab;injection this) hac) (fun _=>?_);refine wpAny_bind (xu (e:=fun j=>bs.getD j false) i1 i2 (by simp;omega) (by simpa using l1) (fun j h1 h2=>by simpa using f j (by simpa using h1) (by simpa using h2)) ?_);rw[List.size_toArray,←l2,all_range];exact wpAny_truthy_bool hq
 .refine wO (by omega) I h1 r1 h2 r2 ?_
  unfold lQ at h;split at h
  .exact absurd ⟨_,_,rfl,rfl⟩ hd
  .exact h
theorem vh{B:Around}(hun:B.units+120<cLine)(I:Inv X pins σ H s):∀{vs vs':List V}{xs ys:List PyData}{us us':List Value}{bs:List Bool},Reps X.K O H vs xs->Vals vs us->Reps X.K O H vs' ys->Vals vs' us'->ij xs ys=some bs ->
  us.length=us'.length/\bs.length=us.length/\∀(j:Nat) (h1:j<us.length) (h2:j<us'.length),EqW X.prog X.w B.in1 s us[j] us'[j] (bs.getD j false)
 |_,_,_,_,_,_,_,.nil,.nil,.nil,.nil,e=>by cases e;exact⟨rfl,rfl,fun j h1 _=>absurd h1 (Nat.not_lt_zero _)⟩
 |_,_,_,_,_,_,_,.nil,.nil,.cons _ _,_,e=>by cases e
 |_,_,_,_,_,_,_,.cons _ _,_,.nil,.nil,e=>by cases e
 |_,_,_,_,_,_,_,.cons r t,.cons rv tv,.cons r' t',.cons rv' tv',e=>by
  unfold ij at e;split at e
  .rename_i a b ha hb
   cases e;obtain⟨l1,l2,f⟩:=vh hun I t tv t' tv' hb;refine⟨by simp[l1],by simp[l2],fun j h1 h2=>?_⟩
   cases j with
   |zero=>exact Dh hun I r rv r' rv' ha
   |succ j=>exact f j (by simpa using h1) (by simpa using h2)
  .cases e
theorem Gz(hr:Room k X.A):OpR X (compareOp .Eq) (fun x y H Q=>∃O xs ys bs,Vw X.K O H x (.tuple xs)/\Vw X.K O H y (.tuple ys)/\ij xs ys=some bs/\Q (.bl (bs.all id)) H):=by
 intro pins s σ H x y v u Q I rx ry h;obtain⟨O,xs,ys,bs,h1,h2,e,q⟩:=h;obtain⟨a,vs,rfl,t1,p1⟩:=h1.tup;obtain⟨b,vs',rfl,t2,p2⟩:=h2.tup;cases rx;cases ry;obtain⟨us,v1,i1,_⟩:=I.tuple t1.sq;obtain⟨us',v2,i2,_⟩:=I.tuple t2.sq;have hu:=hr.un;obtain⟨l1,l2,f⟩:=vh (B:=X.A) (by omega) I p1 v1 p2 v2 e;refine xu (e:=fun j=>bs.getD j false) i1 i2 (by omega) (by simpa using l1) (fun j h1 h2=>by simpa using f j (by simpa using h1) (by simpa using h2)) ?_;rw[List.size_toArray,←l2,all_range];exact⟨.bl _,H,I,rfl,q⟩
theorem Ip(hr:Room k X.A):OpD X (compareOp .Eq) eqQ:=⟨_,Gz hr,fun O ts H T v1 v2 x y d Q hc h1 h2 e q=>by
 unfold eqQ at e;split at e
 .rename_i xs ys
  cases e':ij xs ys with
  |none=>rw[e'] at e;cases e
  |some bs=>rw[e'] at e;cases e;exact⟨O,xs,ys,bs,h1,h2,e',q _ H (.refl _ _) hc (.bl _)⟩
 .cases e⟩
end
theorem Ci:bootBuiltins "enumerate"=some (.type "enumerate"):=by decide +kernel
section
set_option maxRecDepth 100000
variable {P:Program}{w:World}{A:Around}{E:Value->Shared->Prop}{s:Shared}
theorem A5(hit:s.heap.IsTupleIter it t i)(ht:s.heap.IsTuple t items)(hx:items[i]? = some x)(hQ:∀h',h'.IsTupleIter it t (i+1)->Heap.SameBut it s.heap h'->Q x { s with heap:=h' }) :
  wpAny (model P w) A (Builtin.SmallTypes.nextOf (.ref it)) Q E s:=by
 obtain⟨o,ho,hc,hd⟩:=id hit;obtain⟨ol,hol,_,nl,hdl⟩:=ht;unfold Builtin.SmallTypes.nextOf;refine wpAny_bind (wpAny_callSpecial?_slot (name:=Str.ofString "__next__") hit.typeIs F.slot_tuple_iterator_next (wpAny_call_entry F.slot_tuple_iterator_next hit.typeIs F.entry_tuple_iterator_next ?_ (F.args_tuple_iterator_next_1 _)));show wpAny _ _ (field (.ref it) 0 >>= _) _ _ s;refine wpAny_bind (wpAny_field ho hd (x:=.ref t) rfl ?_);show wpAny _ _ (if (Value.ref t == Value.none)=true then _ else _) _ _ s;rw[if_neg (show ¬((Value.ref t == Value.none)=true) from Bool.false_ne_true)];show wpAny _ _ (field (.ref it) 1 >>= _) _ _ s;refine wpAny_bind (wpAny_field ho hd (x:=.int i 0) rfl ?_);show wpAny _ _ (seqItems? (.ref t) >>= _) _ _ s;refine wpAny_bind (wpAny_seqItems hol hdl ?_);simp only[Int.toNat_natCast,hx];refine wpAny_bind (wpAny_setField ho hd (by simp) (wpAny_pure ⟨x,rfl,wpAny_pure (hQ _ ⟨_,Heap.get?_update_self _ ho (Obj.isFreed_of_fields (Obj.data_mapFields hd _)),(Obj.cls_mapFields ..).trans hc,by rw[Obj.data_mapFields hd];simp[rawInt]⟩ (Heap.SameBut.update ..))⟩))
theorem BC(hh:A.handled=none)(hit:s.heap.IsTupleIter it t i)(ht:s.heap.IsTuple t items)(hx:items[i]? = none)
  (hE:∀h' e,Heap.ExtBut it s.heap h'->(∃o,h'.get? e=some o/\o.cls=.type "StopIteration")->E (.ref e) { s with heap:=h' }):wpAny (model P w) A (Builtin.SmallTypes.nextOf (.ref it)) Q E s:=by
 obtain⟨o,ho,hc,hd⟩:=id hit;obtain⟨ol,hol,_,nl,hdl⟩:=ht;unfold Builtin.SmallTypes.nextOf;refine wpAny_bind (wpAny_callSpecial?_slot (name:=Str.ofString "__next__") hit.typeIs F.slot_tuple_iterator_next (wpAny_call_entry F.slot_tuple_iterator_next hit.typeIs F.entry_tuple_iterator_next ?_ (F.args_tuple_iterator_next_1 _)));show wpAny _ _ (field (.ref it) 0 >>= _) _ _ s;refine wpAny_bind (wpAny_field ho hd (x:=.ref t) rfl ?_);show wpAny _ _ (if (Value.ref t == Value.none)=true then _ else _) _ _ s;rw[if_neg (show ¬((Value.ref t == Value.none)=true) from Bool.false_ne_true)];show wpAny _ _ (field (.ref it) 1 >>= _) _ _ s;refine wpAny_bind (wpAny_field ho hd (x:=.int i 0) rfl ?_);show wpAny _ _ (seqItems? (.ref t) >>= _) _ _ s;refine wpAny_bind (wpAny_seqItems hol hdl ?_);simp only[Int.toNat_natCast,hx];refine wpAny_bind (wpAny_rule (wpAny_bind (wpAny_setField ho hd (by simp) ?_)));show wpAny _ _ (newExc (.type "StopIteration") [] >>= _) _ _ _;refine wpAny_bind ?_;simp only[newExc,newTuple];refine wpAny_bind (wpAny_newObj_type ?_ (by size_fits));refine wpAny_bind (m:=firstArgMember _ _) (wpAny_of_eq (a:=Value.none) (by first|rfl|(simp only[firstArgMember];rfl)) ?_);refine wpAny_newObj_type ?_ (by size_fits);simp only[raiseNew];refine wpAny_bind (wpAny_handled ?_)
 first|rw[show A.in1.handled=none from hh]|rw[hh]
 refine wpAny_bind (wpAny_pure (wpAny_throw ?_));exact hE _ _ (((Heap.SameBut.update ..).extBut.push _).push _) ⟨_,Heap.get?_push_size _ rfl,rfl⟩
theorem yu(hh:A.handled=none)(it t:Addr)(hne:t≠it)(items:Array Value):Draws P w A it [it,t] items.size (fun i v=>items[i]? = some v) (fun i h=>h.IsTupleIter it t i/\h.IsTuple t items) where
 live:=fun _ _ st=>let ⟨o,ho,_⟩:=st.1;⟨o,ho⟩
 frame:=fun _ _ _ st hk=>⟨let ⟨o,ho,r⟩:=st.1;⟨o,hk it (by simp) o ho,r⟩,let ⟨o,ho,r⟩:=st.2;⟨o,hk t (by simp) o ho,r⟩⟩
 item:=fun i s Q E hi st hQ=>A5 st.1 st.2 (x:=items[i]) (by simp[hi]) fun h' hit' hs'=>hQ _ h' s.toks (by simp[hi]) ⟨hit',st.2.extBut hs'.extBut hne⟩ hs'
 done:=fun s Q E st hE=>BC hh st.1 st.2 (by simp) hE
theorem AH(t:Addr)(items:Array Value)(n:Nat)(dct:Option Addr)(sl:Array (Option Value)) :
  Meets (Builtin.«enumerate.__new__» ⟨[.type "enumerate",.ref t],[]⟩) (fun _ R s=>s.heap.get? t=some { cls:=.type "tuple",dict:=dct,data:=.seq items n,slots:=sl }/\R (.ok (.ret (.ref (s.heap.push { cls:=.type "tuple_iterator",data:=.fields #[.ref t,.int 0 0] }).objs.size)))
    { s with heap:=(s.heap.push { cls:=.type "tuple_iterator",data:=.fields #[.ref t,.int 0 0] }).push { cls:=.type "enumerate",data:=.fields #[.none,.bool false,.ref s.heap.objs.size,rawInt 0,.none,.none] } }):=
 .of_wp fun prog w A R s h=>by
  obtain⟨hp,g,d,tk,os⟩:=s;obtain⟨hl,h⟩:=h;have hsub:=sub_enumerate;have hT:Heap.IsTuple (Shared.heap ⟨hp,g,d,tk,os⟩) t items:=⟨_,hl,rfl,n,rfl⟩;wp_walk using AutoSeq1.wpAny_loadPart' hl;refine wpAny_stack_any fun st=>wpAny_pure ?_;split
  .rename_i c _ _ _ _ _
   cases (c == Value.type "enumerate") <;> wp_walk using AutoSeq1.wpAny_loadPart' hl,wpAny_pyIter_tuple hT <;> exact⟨_,rfl,h⟩
  .wp_walk using AutoSeq1.wpAny_loadPart' hl,wpAny_pyIter_tuple hT
   exact⟨_,rfl,h⟩
theorem Bj(hT:s.heap.IsTuple t items)
  (h:∀h',IsEnum h' (s.heap.objs.size+1) s.heap.objs.size 0 .none->h'.IsTupleIter s.heap.objs.size t 0->h'.objs.size=s.heap.objs.size+2->(∀b o,s.heap.get? b=some o->h'.get? b=some o)->Q (.ref (s.heap.objs.size+1)) { s with heap:=h' }) :
  wpAny (model P w) A (call (.type "enumerate") [.ref t]) Q E s:=by
 obtain⟨⟨c,dct,dt,sl⟩,hl,hc,n,hd⟩:=hT;obtain rfl:c=.type "tuple":=hc;obtain rfl:dt=.seq items n:=hd;refine callType_new F.called_enumerate (by decide) (F.typeCall_enumerate_1 _) (F.newCall_enumerate_1 _) (fun obj=>F.args_object_init_2 obj _) F.entry_enumerate_new (AH t items n dct sl) ⟨hl,?_⟩;have hz:(s.heap.push { cls:=.type "tuple_iterator",data:=.fields #[.ref t,.int 0 0] }).objs.size=s.heap.objs.size+1:=Heap.size_push ..;show _/\_;rw[hz]
 have he:IsEnum ((s.heap.push { cls:=.type "tuple_iterator",data:=.fields #[.ref t,.int 0 0] }).push { cls:=.type "enumerate",data:=.fields #[.none,.bool false,.ref s.heap.objs.size,rawInt 0,.none,.none] }) (s.heap.objs.size+1) s.heap.objs.size 0 .none:=by
  rw[←hz];exact Heap.get?_push_size _ rfl
 exact⟨⟨_,he,rfl⟩,h _ he ⟨_,Heap.get?_push_of_some _ (Heap.get?_push_size _ rfl),rfl,rfl⟩ (by rw[Heap.size_push,hz]) fun b o x=>Heap.get?_push_of_some _ (Heap.get?_push_of_some _ x)⟩
end
def zU(K:Frag)(a:Addr):It:=⟨fun i H=>∃xs,SqT K H a xs/\i<xs.length,fun i H x H'=>∃p v,H p=none/\(∀xs,SqT K H a xs->xs[i]? = some v)/\x=.ref p/\H'=upd H p (.tup [.int (i:Int),v]),fun i H=>∃xs,SqT K H a xs/\i=xs.length⟩
theorem AZ{P:Program}{w:World}{K:Frag}{elts:List Expr}{x1:Nat}{tpos:Pos}{l e it:Addr}(hei:e≠it)(hle:l≠e)(hli:l≠it):Turn P w K (.Tuple elts x1 tpos) (zU K l) [e,it] e (fun i h=>(∃old,IsEnum h e it i old)/\h.IsTupleIter it l i) where
 mem:=by simp
 obj:=fun i h st b hb=>by
  obtain⟨⟨old,a1⟩,⟨o4,a4,_,d4⟩⟩:=st;simp only[List.mem_cons,List.not_mem_nil,or_false] at hb
  rcases hb with e|e <;> subst e
  .exact⟨_,a1,fun v z=>nomatch (show Data.fields _=Data.cell v from z)⟩
  .exact⟨_,a4,fun v z=>by rw[d4] at z;cases z⟩
 keep:=fun i h h' st k=>by
  obtain⟨⟨old,a1⟩,⟨o4,a4,r⟩⟩:=st;exact⟨⟨old,k e (by simp) _ a1⟩,o4,k it (by simp) _ a4,r⟩
 item:=by
  intro X hP hw hK hc i pins s σ H E I hf st hg;subst hP hw hK;obtain⟨xs,hx,k1⟩:=hg;obtain⟨⟨old,a1⟩,a4⟩:=st;obtain⟨its,rx,px,_⟩:=I.tuple hx;obtain⟨u,hu,ru⟩:=rx.get (List.getElem?_eq_getElem k1);have hlen:=rx.length;have hIT:s.heap.IsTuple l its.toArray:=px;refine wpAny_pyNext_enum_itemD (yu (A:=X.A.in1) (by simp[I.ok.hd hc]) it l hli its.toArray) a1 ⟨a4,hIT⟩ (by simp;omega) hei (by simp only[List.mem_cons,List.not_mem_nil,or_false,not_or];exact⟨hei,Ne.symm hle⟩) fun x h' tk hx' b1 b2 b3 b4 b5=>?_
  have ex:x=u:=by
   have h2:its.toArray[i]? = some u:=by simpa using hu
   rw[h2] at hx';exact(Option.some.inj hx').symm
  subst ex;refine⟨.ref s.heap.objs.size,rfl,wpAny_letOwnedTupleGo_enum b1 fun h'' c1 c2=>?_⟩;have hn:H s.heap.objs.size=none:=I.hok.fresh (Nat.le_refl _);have le:e<s.heap.objs.size:=Heap.lt_size a1
  have l1:it<s.heap.objs.size:=by obtain⟨_,e,_⟩:=a4;exact Heap.lt_size e
  have T1:IsTup (s.heap.push { cls:=.type "tuple",data:=.seq #[.int i tk,x] }) s.heap.objs.size #[.int i tk,x]:=IsTup.new ..
  have I1:Inv X pins σ (upd H s.heap.objs.size (.tup [.int (i:Int),xs[i]])) { s with heap:=s.heap.push { cls:=.type "tuple",data:=.seq #[.int i tk,x] } }:=
   I.laid (t':=s.toks) (o:=.tup [.int (i:Int),xs[i]]) (fun b ob e=>Heap.get?_push_of_some _ e) (Nat.le_refl _) ⟨by show 2<=sizeLine;decide,[.int i tk,x],.cons ⟨tk,rfl⟩ (.cons ru .nil),T1⟩
  have nn:∀b∈[e,it],b≠s.heap.objs.size:=fun b hb q=>by
   simp only[List.mem_cons,List.not_mem_nil,or_false] at hb
   rcases hb with z|z <;> rw[q] at z
   .exact Nat.ne_of_gt le z
   .exact Nat.ne_of_gt l1 z
  have f':∀b∈[e,it],dr X pins (upd H s.heap.objs.size (.tup [.int (i:Int),xs[i]])) b:=fun b hb=>by
   obtain⟨f0,fr⟩:=hf b hb;exact⟨by rw[aT (nn b hb)];exact f0,fr⟩
  have I2:Inv X pins σ (upd H s.heap.objs.size (.tup [.int (i:Int),xs[i]])) { s with heap:=h'',toks:=tk+1 }:=vJ (s:={ s with heap:=s.heap.push { cls:=.type "tuple",data:=.seq #[.int i tk,x] } }) (t':=tk+1) (h':=h'') (fp:=[e,it]) I1 (fun b ob hb q=>by
   simp only[List.mem_cons,List.not_mem_nil,or_false,not_or] at hb
   by_cases z:b=s.heap.objs.size
   .subst z
    have q':some _=some ob:=(Heap.get?_push_size _ rfl).symm.trans q;cases q';exact(c2.2 _ hb.1).trans b3
   .rw[Heap.get?_push_ne _ _ _ z] at q
    exact(c2.2 b hb.1).trans (b5 b ob hb.1 hb.2 q)) f'
  refine⟨.ref s.heap.objs.size,_,I2,rfl,⟨s.heap.objs.size,xs[i],hn,fun xs' h=>by rw[I.tuple_inj h hx];exact List.getElem?_eq_getElem k1,rfl,rfl⟩,?_,fun b hb=>(f' b hb).1⟩;obtain⟨o,eo,ro⟩:=b2.1;exact⟨⟨_,c1⟩,o,(c2.2 it (Ne.symm hei)).trans eo,ro⟩
 done:=by
  intro X hP hw hK hc i pins s σ H E I hf st hg;subst hP hw hK;obtain⟨xs,hx,k⟩:=hg;obtain⟨⟨old,a1⟩,a4⟩:=st;obtain⟨its,rx,px,_⟩:=I.tuple hx;have h1:=rx.length;have hIT:s.heap.IsTuple l its.toArray:=px
  have hs:its.toArray.size=i:=by simp;omega
  refine wpAny_pyNext_enum_endD (yu (A:=X.A.in1) (by simp[I.ok.hd hc]) it l hli its.toArray) a1 ⟨by rw[hs];exact a4,hIT⟩ fun h' b7=>⟨rfl,vJ (t':=s.toks) (fp:=[e,it]) I (fun b ob hb q=>?_) hf⟩;simp only[List.mem_cons,List.not_mem_nil,or_false,not_or] at hb;exact b7 b ob hb.2 q
 self:=fun _ _ _ _ _ st h=>let ⟨old,he⟩:=st.1;wpAny_pyIter_enum he h
section
variable {X:Cx}{pos:Pos}
def G0(K:Frag)(ta:TA):TI:=fun σ H R=>ta σ H fun vs H1=>∃a xs,vs=[.ref a]/\SqT K H1 a xs/\(xs.length<=sizeLine->R (zU K a) H1)
theorem CF(hg:Gl X "enumerate")(hm:X.mg "enumerate"=none)(ha:PA X [a] ta)(hs:starEach [a] X.env=[(false,eval a X.env)]) :
  PI X (.Tuple elts x1 tpos) (.Call (.Name "enumerate" p) [a] [] pos) (G0 X.K ta):=by
 intro pins s σ H R I h;refine Call_ (jC I hg hm Ci (PyProof.Rows.callWith_type1 (thn (ha pos pins s σ H _ I h) fun us s1 ⟨vs,H1,I1,r1,q1⟩=>?_) hs rfl));obtain⟨l,xs,e,hx,q⟩:=q1;subst e
 cases r1 with
 |cons r rr=>
  cases rr;cases r;obtain⟨its,rx,px,zx⟩:=I1.tuple hx;have hIT:s1.heap.IsTuple l its.toArray:=px
  have L1:l<s1.heap.objs.size:=by obtain⟨_,e,_⟩:=hIT;exact Heap.lt_size e
  refine Bj hIT fun h' c1 c2 c3 c7=>?_;have I2:Inv X pins σ H1 { s1 with heap:=h' }:=I1.kept (t':=s1.toks) c7;refine wpAny_pyIter_enum c1 ⟨s1.heap.objs.size+1,[s1.heap.objs.size+1,s1.heap.objs.size],_,_,H1,rfl,I2,AZ (Nat.succ_ne_self _) (Nat.ne_of_lt (Nat.lt_succ_of_lt L1)) (Nat.ne_of_lt L1),⟨⟨_,c1⟩,c2⟩,fun b hb=>?_,q zx⟩
  have hb':s1.heap.objs.size<=b:=by
   simp only[List.mem_cons,List.not_mem_nil,or_false] at hb
   rcases hb with q|q <;> rw[q] <;> first|exact Nat.le_add_right _ _|exact Nat.le_refl _
  exact I1.fpOk hb' (I1.hok.fresh hb')
end
def eY(i j:Nat)(body:FS):Nat->List PyData->FS
 |n,x::xs=>fun ρ T=>bnd (body ((ρ.set i (some (.d (.int (n:Int))))).set j (some (.d x))) T) fun p T1=>match p with
  |(.nx,ρ1)=>eY i j body (n+1) xs ρ1 T1
  |(.ct,ρ1)=>eY i j body (n+1) xs ρ1 T1
  |(.bk,ρ1)=>some ((.nx,ρ1),T1)
  |(.rt x,ρ1)=>some ((.rt x,ρ1),T1)
  |(.ro x,ρ1)=>some ((.ro x,ρ1),T1)
 |_,[]=>aD
def jE(i j:Nat)(body:FS)(ρ:Rho)(w:W)(T:Tp):Option ((Fl×Rho)×Tp):=match w with
 |.d (.tuple xs)=>eY i j body 0 xs ρ T
 |_=>none
def iQ(i j:Nat)(f:FE)(body:FS):FS:=fun ρ T=>bnd (f ρ T) fun w T1=>jE i j body ρ w T1
theorem Dk(hm:X.mg "enumerate"=none)(hN:X.N.Nodup)(ha:DE X a f)(hb:DSs X body g)(hg:Gl X "enumerate":=by rfl)(hi:X.N[i]? = some x:=by rfl)(hj:X.N[j]? = some y:=by rfl)(hx:Loc X.env.scope x:=by first|exact Or.inl rfl|exact Or.inr rfl)(hy:Loc X.env.scope y:=by first|exact Or.inl rfl|exact Or.inr rfl)
  (hf:X.fn x=true\/X.env.scope.names.lookup x=some .local:=by first|exact .inl rfl|exact .inr rfl|assumption) (hf':X.fn y=true\/X.env.scope.names.lookup y=some .local:=by first|exact .inl rfl|exact .inr rfl|assumption) (hp:PassesOwn (model X.prog X.w) X.A X.env X.xe:=by exact PassesOwn.never) (hc:X.calm=true:=by rfl)
  (hs1:starEach [a] X.env=[(false,eval a X.env)]:=by exact mB rfl) (hs2:starEach [] X.env=[]:=by rfl) (hs:∀v,foldedSetIterable (.Call (.Name "enumerate" zp) [a] [] cpos) X.env v=pure v:=by intro _;rfl) :
  DS X (.For (.Tuple [.Name x px,.Name y py] k tpos) (.Call (.Name "enumerate" zp) [a] [] cpos) body [] pos) (iQ i j f g):=by
 refine⟨?_⟩;refine bZ (rh hp hc (CF (ta:=oq (lift X.K f) oV) hg hm (cX ha.pe dA (by rw[hs1,hs2])) hs1) (nF hc (gk (fF hN hi hx hf) (gk (fF hN hj hy hf') mQ))) hb.pe hs) fun D σ H=>?_;rintro⟨O₀,H₀,F,ts,O,ρ,T,fl,ρ',T',rs,e,q⟩;obtain⟨w1,T1,e1,e⟩:=aM e;refine⟨O,ts,ρ,T,w1,T1,rs.hc,rs.re,e1,fun v1 H1 s1 hc1 r1=>?_⟩;have rs1:=rs.step s1 hc1
 have hw:∃dx,w1=.d (.tuple dx):=by
  unfold jE at e;split at e
  .exact⟨_,rfl⟩
  .cases e
 obtain⟨dx,rfl⟩:=hw;have r1':Rep X.K O H1 v1 (.tuple dx):=r1
 cases r1' with
 |@tup la vx _ tx rx=>
 refine⟨la,vx,rfl,tx.sq,fun zx=>?_⟩;have lx:=rx.length;refine⟨fun n m σ H=>m=dx.length-n/\n<=dx.length/\∃O' ρk Tk,RS X.K O₀ H₀ ((O,H1)::F) ts O' H σ ρk Tk/\eY i j g n (dx.drop n) ρk Tk=some ((fl,ρ'),T'),⟨_,rfl,Nat.zero_le _,O,ρ,T1,rs1.more,e⟩,?_⟩;rintro n m σ3 H3 ⟨rfl,hk,O',ρk,Tk,rs3,ek⟩;have le:=rs3.frs _ List.mem_cons_self;have tx3:=(tx.mono le).sq
 by_cases hlt:n<dx.length
 .refine .inr ⟨⟨vx,tx3,by omega⟩,fun σ3 H3=>∃O' ρk Tk,RS X.K O₀ H₀ ((O,H1)::F) ts O' H3 σ3 ρk Tk/\eY i j g (n+1) (dx.drop (n+1)) ρk Tk=some ((fl,ρ'),T'),fun σ3 H3 nn=>⟨dx.length-(n+1),by omega,rfl,hlt,nn⟩,fun v H4 yy=>?_⟩
  obtain⟨p,v',hpn,kx,rfl,rfl⟩:=yy;obtain⟨d1,hd1,rd1⟩:=rx.get (kx vx tx3)
  have hdx:dx.drop n=d1::dx.drop (n+1):=by rw[List.drop_eq_getElem_cons hlt,(List.getElem?_eq_some_iff.mp hd1).2]
  rw[hdx] at ek;obtain⟨⟨fl1,ρ1⟩,T3,e3,ek⟩:=aM ek;have rs4:=rs3.step (.new hpn (.tup [.int (n:Int),v'])) (rs3.hc.new hpn _);have le2:=le.trans (rs3.hc.leNew hpn (.tup [.int (n:Int),v']));refine⟨p,_,rfl,SqT.of bt,rfl,_,_,rfl,_,_,rfl,rfl,O₀,H₀,(O,H1)::F,ts,O',_,Tk,fl1,ρ1,T3,(rs4.set (i:=i) (w:=.d (.int (n:Int))) (Rep.int _) (fun _ z=>nomatch z)).set (i:=j) (w:=.d d1) (Rep.mono le2 rd1) (fun _ z=>nomatch z),e3,?_⟩
  cases fl1 with
  |nx=>exact fun O3 σ3 H3 rs3=>⟨O3,ρ1,T3,rs3,ek⟩
  |ct=>exact fun O3 σ3 H3 rs3=>⟨O3,ρ1,T3,rs3,ek⟩
  |bk=>
   cases ek;exact fun O3 σ3 H3 rs3=>q O3 σ3 H3 rs3.less
  |rt x=>
   cases ek;exact q
  |ro x=>
   cases ek;exact q
 .rw[List.drop_eq_nil_of_le (show dx.length<=n by omega)] at ek
  cases ek;exact .inl ⟨⟨vx,tx3,by omega⟩,q O' σ3 H3 rs3.less⟩
section
variable {X:Cx}{pos:Pos}
end
section
variable {X:Cx}{pos:Pos}{e:Expr}{fe:FE}
end
section
variable {K:Frag}{O₀:Addr->Prop}{H₀:Hp}{F:List ((Addr->Prop)×Hp)}{ts:List Addr}{O:Addr->Prop}{H H1:Hp}{σ:L2.St}{ρ:Rho}{T T1:Tp}
end
section
variable {X:Cx}{pos:Pos}
end
section
variable {X:Cx}{pos pos2 pos3:Pos}
end
inductive LnT(P:Hp->(Bool->Hp->Prop)->Prop):Hp->(Bool->Hp->Prop)->Prop where
 |done {H:Hp}{Q:Bool->Hp->Prop}:P H Q->LnT P H Q
 |frz {H:Hp}{Q:Bool->Hp->Prop}{a:Addr}{kvs:List (Key×V)}:H a=some (.dK kvs)->(∀o,LnT P (upd H a (.frz o (.dK kvs))) (fun b H2=>H2 a=some (.frz o (.dK kvs))/\Q b (upd H2 a (.dK kvs))))->LnT P H Q
section
variable {X:Cx}{pos pos2 pos3 pos4:Pos}
end
section
variable {X:Cx}{pos:Pos}
end
end D
namespace XO
open PySem PySem.Spec PyProof.Rows L2
open XE (Kp forget dJ gN jk XCl vE XAt)
def XR(e C:Addr)(dx:Option Addr)(tb:Value)(h:Heap):Prop:=∃t,h.get? e=some { cls:=.ref C,dict:=dx,data:=.fields #[.ref t,tb,.none,.none,.bool false,.none] }
def TB(T:Addr)(fl:Value)(h:Heap):Prop:=∃oT ts,h.get? T=some oT/\oT.data=.fields ts/\ts[3]? = some fl
section
variable {M:Model}{A:Around}{E:Value->Shared->Prop}{s:Shared}{base:Heap}{env:Env}{outer:List Env}{L e C T:Addr}{dx:Option Addr}
theorem wU(hfr:A.frames=some (env::outer))(hl:s.heap.FunFrames base (env::outer))(hf:env.frame=some L)(hx:XR e C dx tb s.heap)
  (k:∀h' T,s.heap.objs.size<=T->XR e C dx (.ref T) h'->TB T (rawInt L) h'->T≠e->Kp [e] (frs (env::outer)) s.heap h'->Q () { s with heap:=h' }) :
  wpAny M A (do let a ←frameOf env;let pl ←entryPlaceOf L hn;let b ←EntryCells.newEntry head a .none (rawInt L) .none pl;setField (.ref e) 1 b) Q E s:=by
 obtain⟨t,he⟩:=hx
 have hen:e∉(env::outer).filterMap (·.frame):=fun hm=>by
  obtain⟨_,o,ho,hnf⟩:=hl.mem hm;rw[he] at ho;cases ho;exact hnf _ rfl
 refine wpAny_bind (wpAny_frameOf_fun hfr hl hf fun h1 hs=>?_);refine wpAny_bind (wpAny_entryPlaceOf fun pl hpl=>?_);unfold EntryCells.newEntry newFields;refine wpAny_bind (wpAny_newObj_type ?_ (hpl.sizeOk5 _ _ _ _ _));have he1:=(hs.2.1 e hen).trans he;generalize eo:(Obj.mk (.type "traceback") none (.fields ([head,.ref L,.none,rawInt L,.none]++(if pl.isEmpty then List.replicate 6 Value.none else pl)).toArray) #[])=oT
 have eT:oT.data=.fields ([head,.ref L,.none,rawInt L,.none]++(if pl.isEmpty then List.replicate 6 Value.none else pl)).toArray:=by rw[←eo]
 have he2:=Heap.get?_push_of_some (h:=h1) oT he1;refine wpAny_setField he2 rfl (by simp) ?_;have ne:h1.objs.size≠e:=Nat.ne_of_gt (Heap.lt_size he1);have sz:h1.objs.size=s.heap.objs.size:=hs.1;refine k _ h1.objs.size (by rw[sz];exact Nat.le_refl _) ⟨t,?_⟩ ⟨oT,_,?_,eT,by simp⟩ ne ⟨fun b o q n m=>?_,fun b o q n m=>?_,fun b o q=>?_⟩
 .rw[Heap.get?_update_self _ he2 rfl]
  rfl
 .rw[Heap.get?_update_other _ _ ne.symm]
  exact Heap.get?_push_at rfl (Obj.isFreed_of_fields eT)
 .rw[Heap.get?_update_other _ _ (fun z=>n (by simp[z]))]
  exact Heap.get?_push_of_some _ ((hs.2.1 b m).trans q)
 .obtain⟨sl,q'⟩:=hs.2.2 b o q
  refine⟨sl,?_⟩;rw[Heap.get?_update_other _ _ (fun z=>n (by simp[z]))];exact Heap.get?_push_of_some _ q'
 .by_cases hb:b=e
  .subst hb
   exact⟨_,Heap.get?_update_self _ he2 rfl⟩
  .obtain⟨sl,q'⟩:=hs.2.2 b o q
   exact⟨_,(Heap.get?_update_other _ _ (Ne.symm hb)).trans (Heap.get?_push_of_some _ q')⟩
theorem A4(hfr:A.frames=some (env::outer))(hl:s.heap.FunFrames base (env::outer))(hf:env.frame=some L)(hx:XR e C dx .none s.heap)
  (k:∀h' T,s.heap.objs.size<=T->XR e C dx (.ref T) h'->TB T (rawInt L) h'->T≠e->Kp [e] (frs (env::outer)) s.heap h'->Q () { s with heap:=h' }):wpAny M A (noteFrame (.ref e) env) Q E s:=by
 obtain⟨t,he⟩:=id hx;unfold noteFrame;simp only[hf];refine wpAny_bind (wpAny_field he rfl (x:=.none) rfl ?_);rw[if_neg (by decide)];exact wU hfr hl hf hx k
theorem rA(hx:XR e C dx (.ref T) s.heap)(ht:TB T fl s.heap)(ne:T≠e)(k:∀h',XR e C dx (.ref T) h'->TB T .none h'->Kp [T] [] s.heap h'->Q () { s with heap:=h' }) :
  wpAny M A (setFlight (.ref e) none) Q E s:=by
 obtain⟨t,he⟩:=hx;obtain⟨oT,ts,hT,hd,h3⟩:=ht;have sz:=(Array.getElem?_eq_some_iff.mp h3).1;unfold setFlight;refine wpAny_bind (wpAny_field he rfl (x:=.ref T) rfl ?_);rw[if_pos (show (Value.ref T != Value.none)=true from by simp)];have dt:=Obj.data_mapFields hd (·.setIfInBounds 3 Value.none);have self:=Heap.get?_update_self (Obj.mapFields (·.setIfInBounds 3 Value.none)) hT (Obj.isFreed_of_fields dt);refine wpAny_setField hT hd sz (k _ ⟨t,?_⟩ ⟨_,_,self,dt,by simp[sz]⟩ ⟨fun b o q n _=>?_,fun b o q n m=>absurd m (by simp),fun b o q=>?_⟩)
 .rw[Heap.get?_update_other _ _ ne]
  exact he
 .rw[Heap.get?_update_other _ _ (fun z=>n (by simp[z]))]
  exact q
 .by_cases hb:T=b
  .subst hb;exact⟨_,self⟩
  .exact⟨o,by rw[Heap.get?_update_other _ _ hb];exact q⟩
theorem Ez(hfr:A.frames=some (env::outer))(hl:s.heap.FunFrames base (env::outer))(hf:env.frame=some L)(hx:XR e C dx (.ref T) s.heap)(ht:TB T .none s.heap)(ne:T≠e)
  (k:∀h' T',s.heap.objs.size<=T'->XR e C dx (.ref T') h'->TB T' (rawInt L) h'->T'≠e->Kp [e,T] (frs (env::outer)) s.heap h'->Q () { s with heap:=h' }):wpAny M A (noteFrame (.ref e) env) Q E s:=by
 obtain⟨t,he⟩:=id hx;obtain⟨oT,ts,hT,hd,h3⟩:=id ht;have sz:=(Array.getElem?_eq_some_iff.mp h3).1;unfold noteFrame;simp only[hf];refine wpAny_bind (wpAny_field he rfl (x:=.ref T) rfl ?_);rw[if_pos (show (Value.ref T != Value.none)=true from by simp)];refine wpAny_bind (wpAny_field hT hd h3 ?_);rw[if_neg (show ¬((Value.none == rawInt L)=true) from by simp[rawInt])];have dt:=Obj.data_mapFields hd (·.setIfInBounds 3 Value.none);have self:=Heap.get?_update_self (Obj.mapFields (·.setIfInBounds 3 Value.none)) hT (Obj.isFreed_of_fields dt)
 have kp:Kp [e,T] (frs (env::outer)) s.heap (s.heap.update T (Obj.mapFields (·.setIfInBounds 3 Value.none))):=by
  refine⟨fun b o q n _=>?_,fun b o q n m=>⟨o.slots,?_⟩,fun b o q=>?_⟩
  .rw[Heap.get?_update_other _ _ (fun z=>n (by simp[z]))]
   exact q
  .rw[Heap.get?_update_other _ _ (fun z=>n (by simp[z]))]
   exact q
  .by_cases hb:T=b
   .subst hb;exact⟨_,self⟩
   .exact⟨o,by rw[Heap.get?_update_other _ _ hb];exact q⟩
 have fn:=kp.fun_ (fun x hx=>by
  rcases List.mem_cons.mp hx with z|z
  .exact⟨_,_,z ▸ he,rfl⟩
  .exact⟨_,_,(List.mem_singleton.mp z) ▸ hT,hd⟩) hl
 refine wpAny_bind (wpAny_setField hT hd sz ?_);refine wU (base:=base) hfr fn hf ⟨t,by rw[Heap.get?_update_other _ _ ne];exact he⟩ fun h' T' g1 g2 g3 g4 g5=>?_;refine k h' T' ?_ g2 g3 g4 (kp.trans (g5.more fun x hx=>by simp at hx;simp[hx]))
 have:(s.heap.update T (Obj.mapFields (·.setIfInBounds 3 Value.none))).objs.size=s.heap.objs.size:=by first|exact Heap.size_update _ _ _|simp
 rw[←this];exact g1
end
theorem HH(u:Un fs [] H0 H2 h0 h2)(k:Kp xs fs' h2 h3)(nx:∀x∈xs,h0.objs.size<=x)(nf:∀x∈fs',x∈fs\/h0.objs.size<=x)(ha:∀o,H2 a=some o->∃φ,o=.ext φ) :
  Un fs [] H0 (forget a H2) h0 h3:=by
 have lt:∀{b:Addr}{o:Obj},h0.get? b=some o->b<h0.objs.size:=fun e=>Heap.lt_size e;have nx':∀{b:Addr}{o:Obj},h0.get? b=some o->b∉xs:=fun e z=>Nat.lt_irrefl _ (Nat.lt_of_lt_of_le (lt e) (nx _ z));refine⟨fun b o q n m x=>?_,fun b o q n m x=>?_,fun b o q n x=>?_,fun b o q x=>?_,fun b xs e=>?_,fun b o u' e=>?_,fun b ps e=>?_⟩
 .refine k.keep b o (u.keep b o q n m x) (nx' q) fun z=>?_
  rcases nf b z with z|z
  .exact m z
  .exact Nat.lt_irrefl _ (Nat.lt_of_lt_of_le (lt q) z)
 .obtain⟨sl,e⟩:=u.slot b o q n m x
  by_cases z:b∈fs'
  .obtain⟨sl',e'⟩:=k.slot b _ e (nx' q) z
   exact⟨sl',e'⟩
  .exact⟨sl,k.keep b _ e (nx' q) z⟩
 .have e:=u.free b o q n x
  by_cases z:b=a
  .rw[z];exact gN
  .rw[dJ z];exact e
 .obtain⟨o',e⟩:=u.there b o q x
  exact k.there b o' e
 .have e':=u.tups b xs e
  rw[dJ (fun z=>by rw[z] at e';obtain⟨_,w⟩:=ha _ e';cases w)];exact e'
 .have e':=u.frzs b o u' e
  rw[dJ (fun z=>by rw[z] at e';obtain⟨_,w⟩:=ha _ e';cases w)];exact e'
 .obtain⟨more,e'⟩:=u.tbls b ps e
  refine⟨more,?_⟩;rw[dJ (fun z=>by rw[z] at e';obtain⟨_,w⟩:=ha _ e';cases w)];exact e'
theorem G3(x:HOk P w H h)(k:Kp xs fs h h')(nx:∀y∈xs,y=a\/H y=none)(nf:∀y∈fs,H y=none)(ha:∀o,H a=some o->∃φ,o=.ext φ):HOk P w (forget a H) h':=by
 intro b o e
 have nb:b≠a:=fun z=>by rw[z,gN] at e;cases e
 rw[dJ nb] at e;refine(x b o e).stay (fun c u hc q=>?_) (fun c q=>?_) fun c ys q=>?_
 .have tr:∃v,H c=some v/\c≠a:=by
   rcases hc with rfl|hc
   .exact⟨_,e,nb⟩
   .exact⟨_,hc,fun z=>by rw[z] at hc;obtain⟨_,w⟩:=ha _ hc;cases w⟩
  obtain⟨v,t1,t2⟩:=tr;refine k.keep c u q (fun z=>?_) fun z=>?_
  .rcases nx c z with z|z
   .exact t2 z
   .rw[t1] at z;cases z
  .have:=nf c z
   rw[t1] at this;cases this
 .rw[dJ (fun z=>by rw[z] at q;obtain⟨_,w⟩:=ha _ q;cases w)];exact q
 .rw[dJ (fun z=>by rw[z] at q;obtain⟨_,w⟩:=ha _ q;cases w)];exact q
def CXo(P:Program)(w:World):CXT:=fun outer H s E v s'=>∃e C dx T H',v=.ref e/\s'.os=s.os/\AllBare s'.gens/\Un (frs outer) [] H H' s.heap s'.heap/\HOk P w H' s'.heap/\s.heap.objs.size<=e/\s.heap.objs.size<=T/\T≠e /\
 XR e C dx (.ref T) s'.heap/\TB T .none s'.heap/\H' e=none/\H' T=none/\E (.ref C) dx H'
section
variable {P:Program}{w:World}{K:Frag}{mg:Str->Option Value}{base:Heap}{N:List Str}{qual:Str}{scope:Scope}{f C R:Addr}{cdv:Value}{A:Around}{outer:List Env}{s0:Shared}{H0:Hp}{E:XK}
theorem gone(I2:L2.Inv (cF (CXo P w) P w K mg base N qual scope f cdv A outer s0 H0 E) pins σ H2 s2)(ha:∀o,H2 a=some o->∃φ,o=.ext φ)(ge:s0.heap.objs.size<=a)
  (g1:s0.heap.objs.size<=T) (hT:H2 T=none) (g2:XR a C dx (.ref T) h3) (g3:TB T fl h3) (g4:T≠a) (g5:Kp (a::xs) (frs (envOfC qual scope s0.heap.objs.size f cdv::outer)) s2.heap h3) (nx:∀y∈xs,s0.heap.objs.size<=y/\H2 y=none) (q:E (.ref C) dx (forget a H2)) :
  wpAny (model P w) A' (setFlight (.ref a) none) (fun _ s''=>CXo P w outer H0 s0 E (.ref a) s'') X' { s2 with heap:=h3 }:=by
 have st:=I2.env0;have un:Un (frs outer) [] H0 H2 s0.heap s2.heap:=I2.base;have osq:s2.os=s0.os:=I2.os;have hok:HOk P w H2 s2.heap:=I2.hok;refine rA g2 g3 g4 fun h4 j1 j2 j3=>?_
 have kp:Kp (a::T::xs) (frs (envOfC qual scope s0.heap.objs.size f cdv::outer)) s2.heap h4:=by
  refine(g5.more fun x hx=>by simp at hx;rcases hx with z|z <;> simp[z]).trans ?_;refine⟨fun b o q n _=>j3.keep b o q (fun z=>n (by simp at z;simp[z])) (by simp),fun b o q n m=>⟨o.slots,?_⟩,j3.there⟩;exact j3.keep b o q (fun z=>n (by simp at z;simp[z])) (by simp)
 refine⟨a,C,dx,T,forget a H2,rfl,osq,I2.bare,HH un kp (fun x hx=>?_) (fun x hx=>?_) ha,G3 hok kp (fun y hy=>?_) st.frf ha,ge,g1,g4,j1,j2,gN,?_,q⟩
 .simp at hx
  rcases hx with rfl|rfl|z
  .exact ge
  .exact g1
  .exact(nx x z).1
 .have hx':x∈frs (envOfC qual scope s0.heap.objs.size f cdv::outer):=hx
  unfold frs at hx';rw[List.filterMap_cons] at hx';have hfr:(envOfC qual scope s0.heap.objs.size f cdv).frame=some s0.heap.objs.size:=rfl;rw[hfr] at hx'
  rcases List.mem_cons.mp hx' with z|z
  .exact .inr (Nat.le_of_eq z.symm)
  .exact .inl z
 .simp at hy
  rcases hy with rfl|rfl|z
  .exact .inl rfl
  .exact .inr hT
  .exact .inr (nx y z).2
 .rw[dJ g4];exact hT
def sRaise(n0:Nat)(C:Addr)(E:XK)(te:TE):TS:=fun _ σ H=>te σ H fun v H2=>∃a dx,v=.ref a/\n0<=a/\H2 a=some (.ext (XAt a C dx))/\E (.ref C) dx (forget a H2)
theorem CB(c:XCl K C (.ref R::vE))(he:PE (cF (CXo P w) P w K mg base N qual scope f cdv A outer s0 H0 E) e te) :
  PS (cF (CXo P w) P w K mg base N qual scope f cdv A outer s0 H0 E) (.Raise (some e) none pos) (sRaise s0.heap.objs.size C E te):=by
 intro pins s σ H D I h;rw[arm_exec_Raise];refine wpAny_bind (wpAny_standAt ?_);simp only[evalOpt,Option.map];unfold raiseStmt;refine wpAny_bind (wpAny_bind (thn (he pins s σ H _ I h) fun v s2 ⟨x,H2,I2,r2,a,dx,ex,ge,ha,q⟩=>wpAny_bind (wpAny_standAt (wpAny_pure ?_))));subst ex;obtain rfl:v=.ref a:=r2;obtain⟨t,hat⟩:=XAt.of I2.hok ha;obtain⟨nm,qn,Nn,bs,sn,sub,ab,col,dd,k0,k1,k2,k3,k5,l,_⟩:=c;have hC:=I2.kIn _ _ l
 have hcB:(Value.ref C::Value.ref R::vE).contains (.type "BaseException")=true:=by simp
 have hh:=I2.ok.hd rfl;have st:=I2.env0;have sz:s0.heap.objs.size<=s2.heap.objs.size:=I2.sz;have hok:HOk P w H2 s2.heap:=I2.hok
 have fin:(cF (CXo P w) P w K mg base N qual scope f cdv A outer s0 H0 E).xe (.ref a) s2:=by
  show wpAny (model P w) (A.deeper (envOfC qual scope s0.heap.objs.size f cdv)) (leaving (envOfC qual scope s0.heap.objs.size f cdv) (.ref a)) (fun _ s''=>CXo P w outer H0 s0 E (.ref a) s'') (fun e' s''=>CXo P w outer H0 s0 E e' s'') s2;unfold leaving;exact wpAny_bind (A4 (base:=base) (outer:=outer) (C:=C) (dx:=dx) st.frames st.funs rfl ⟨t,hat⟩ fun h3 T g1 g2 g3 g4 g5=>gone (xs:=[]) I2 (fun o ho=>by rw[ha] at ho;cases ho;exact⟨_,rfl⟩) ge (Nat.le_trans sz g1) (hok.fresh g1) g2 g3 g4 g5 (fun _ z=>nomatch z) q)
 obtain⟨hp,g,d,tk,os⟩:=s2
 repeat (first|with_reducible refine wpAny_loadPart_at hat ?_|with_reducible refine wpAny_loadPart_at hC ?_|wp_step)
 refine wpAny_isSubtype_exc hC ?_;rw[hcB]
 repeat (first|with_reducible refine wpAny_loadPart_at hat ?_|with_reducible refine wpAny_loadPart_at hC ?_|wp_step)
 exact wpAny_raiseNew_none hh fin
end
end XO
namespace XO
open PySem PySem.Spec PyProof.Rows L2 D
open XE (Kp forget dJ gN jk XCl vE XAt)
structure XB0(K:Frag)(C R:Addr):Prop where
 c:XCl K C (.ref R::vE)
 r:XCl K R vE
 ci:PySem.W.findIn K (.ref C) "__init__"=some (some (.builtin "ValueError.__init__"))
 ri:PySem.W.ownIn K "__init__" (.ref R)=some none
 kp:PySem.W.keepIn K (.ref C)=true
section
variable {prog:Program}{w:World}{A:Around}{E:Value->Shared->Prop}{h:Heap}{g:Array GenState}{d:Drawn}{t:Nat}{os:OsState}{K:Frag}{C R:Addr}
theorem FH(X:K.In h)(c:XCl K C (.ref R::vE))(r:XCl K R vE)(ri:PySem.W.ownIn K "__init__" (.ref R)=some none)
  (hi:PySem.W.findIn K (.ref C) "__init__"=some (some (.builtin "ValueError.__init__"))) (hz:us.length<=sizeLine)
  (k:∀h',(∀b o,h.get? b=some o->h'.get? b=some o)->XAt (h.objs.size+1) C none h'->Q (.ref (h.objs.size+1)) ⟨h',g,d,t,os⟩) :
  wpAny (model prog w) A (call (.ref C) us) Q E ⟨h,g,d,t,os⟩:=by
 have T:=XE.DU X r ri;obtain⟨nm,q,N,bs,sn,sub,ab,col,dd,k0,k1,k2,k3,k5,l,_⟩:=c;have hC:=X _ _ l;have FB:=PySem.F.excBase_ValueError;have f1:=tc_lookup;have f2:=tc_bind (.ref C);have hT:(⟨h,g,d,t,os⟩:Shared).TypeIs (.ref C) "type":=⟨_,hC,rfl⟩;refine wpAny_call (codeAny_of_tree ?_);show wpAny _ _ (callAny (.ref C) _) _ _ _
 repeat (any_goals (first|assumption|with_reducible refine wpAny_loadPart_at hC ?_|wp_step))
 refine⟨rfl,codeAny_call_builtin_at (Code.quiet_builtin _ (by decide +kernel)) entry_typeCall (wpAny_check_type_call_sub hC ?_)⟩
 repeat (first|with_reducible refine wpAny_loadPart_at hC ?_|with_reducible refine wpAny_madeBy_exc hC ?_|wp_step)
 refine codeAny_call_builtin_code (Code.quiet_builtin _ FB.quiet) (wpAny_check_new_subU FB (by decide +kernel) T hC (codeAny_exc_new_subU FB (by decide +kernel) FB T hC ?_ hz));show wpAny _ _ _ _ _ _
 have up:∀b o,h.get? b=some o->((h.push { cls:=.type "tuple",data:=.seq us.toArray }).push { cls:=.ref C,data:=.fields #[.ref h.objs.size,.none,.none,.none,.bool false,.none] }).get? b=some o:=
  fun b o e=>Heap.get?_push_of_some _ (Heap.get?_push_of_some _ e)
 have at1:((h.push { cls:=.type "tuple",data:=.seq us.toArray }).push { cls:=.ref C,data:=.fields #[.ref h.objs.size,.none,.none,.none,.bool false,.none] }).get? (h.objs.size+1)
   = some { cls:=.ref C,data:=.fields #[.ref h.objs.size,.none,.none,.none,.bool false,.none] }:=by heap_get
 have hC1:=up _ _ hC
 have cc:(Value.ref C::Value.ref R::vE).contains (.ref C)=true:=by simp
 unfold isInstance
 repeat (first|with_reducible refine wpAny_loadPart_at at1 ?_|wp_step)
 refine wpAny_isSubtype_exc hC1 ?_;rw[cc]
 repeat (first|with_reducible refine wpAny_loadPart_at at1 ?_|wp_step)
 show wpAny _ _ (typeLookup (.ref C) _) _ _ _;refine PySem.W.looks_findIn (X.keeps up) hi _ _ _ _ (fun _ _ e=>e) ?_;refine wpAny_holding (wpAny_bind (wpAny_of_eq (FB.init.bind _) ?_));refine wpAny_bind (wpAny_call (codeAny_call_builtin FB.init.plain FB.initEntry (wpAny_check_init_subU FB (T.keeps up) hC1 at1 rfl ?_)));wp_walk;have ne:∀{b:Addr}{o:Obj},h.get? b=some o->h.objs.size+1≠b:=fun e=>Nat.ne_of_gt (Nat.lt_succ_of_lt (Heap.lt_size e));refine k _ (fun b o e=>?_) ⟨h.objs.size+2,?_⟩
 .exact(Heap.get?_update_other _ _ (ne e)).trans (Heap.get?_push_of_some _ (up b o e))
 .refine(Heap.get?_update_self _ (Heap.get?_push_of_some _ at1) rfl).trans ?_
  simp only[Heap.size_push];rfl
end
def tX0(n0:Nat)(C:Addr)(te:TE):TE:=fun σ H Q=>te σ H fun _ H1=>∀a,n0<=a->H1 a=none->Q (.ref a) (upd H1 a (.ext (XAt a C none)))
theorem Ej(G:XB0 X.K C R)(hg:Gl X cn)(hm:X.mg cn=some (.ref C))(he:PE X e te)(hdb:(cn == ("__debug__" : Str))=false:=by decide)(hs:starEach [e] X.env=[(false,eval e X.env)]:=by rfl) :
  PE X (.Call (.Name cn p) [e] [] pos) (tX0 X.s₀.heap.objs.size C te):=by
 intro pins s σ H Q I h;refine wpAny_Call_Name_kw (kQ I hg hm ?_ hdb);have pa:PA X [e] (oq te oV):=cX he dA (by rw[hs];rfl)
 have hA:=pa pos pins s σ H (fun vs H1=>match vs with
  |[_]=>∀a,X.s₀.heap.objs.size<=a->H1 a=none->Q (.ref a) (upd H1 a (.ext (XAt a C none)))
  | _=>False) I h
 refine PySem.W.callWith_K (h₀:=X.base) I.ok.mod.kin G.kp (thn hA fun us s1 ⟨vs,H1,I1,r1,q⟩=>⟨I1.kIn,?_⟩) (by rw[hs];rfl) rfl;dsimp only at q;split at q
 .have hl:us.length=1:=by rw[←r1.length];rfl
  have I1':=I1;obtain⟨hp,g,d,tk,os⟩:=s1;refine FH I1.kIn G.c G.r G.ri G.ci (by simp[hl];decide) fun h' kp at1=>?_;have I2:=I1'.laid (h':=h') (a:=hp.objs.size+1) (o:=.ext (XAt (hp.objs.size+1) C none)) (t':=tk) kp (Nat.le_succ _) at1.ok;exact⟨.ref (hp.objs.size+1),_,I2,rfl,q _ (Nat.le_trans I1.sz (Nat.le_succ _)) (I1.hok.fresh (Nat.le_succ _))⟩
 .exact False.elim q
end XO
namespace XO
open PySem PySem.Spec PyProof.Rows L2 D
open XE (Kp forget dJ gN jk XCl vE XAt)
abbrev FX:=Rho->Tp->Option (Nat×Tp)
inductive LiftXP(K:Frag)(cs:Nat->Addr)(E:XK)(f:FX)(σ:L2.St)(H:Hp):Prop where
 |mk (O₀:Addr->Prop) (H₀:Hp) (F:List ((Addr->Prop)×Hp)) (ts:List Addr) (O:Addr->Prop) (ρ:Rho) (T:Tp) (c:Nat) (T':Tp) (rs:RS K O₀ H₀ F ts O H σ ρ T) (e:f ρ T=some (c,T')) (q:∀H',SameX ts H₀ H'->HC K O₀ ts H' T'->E (.ref (cs c)) none H'):LiftXP K cs E f σ H
def IE(K:Frag)(cs:Nat->Addr)(E:XK)(f:FX):TS:=fun _ σ H=>LiftXP K cs E f σ H
structure DX(X:Cx)(cs:Nat->Addr)(E:XK)(s:List Stmt)(f:FX):Prop where
 pe:PSs X s (IE X.K cs E f)
theorem Cz:PSs X s (fun _ _ _=>False):=fun _ _ _ _ _ _ h=>h.elim
def jZ(f:FT)(c:Nat):FX:=fun ρ T=>bnd (f ρ T) fun b T1=>if b=true then some (c,T1) else none
def gZ(m:List W->Tp->Option (Nat×Tp))(g:FA):FX:=fun ρ T=>bnd (g ρ T) fun ws T1=>if cK ws=true then m ws T1 else none
def spF(K:Frag)(n:Nat)(cs:Nat->Addr)(m:List W->Tp->Option (Nat×Tp)):Sp:=fun vs H _ E=>∃(O:Addr->Prop) (ts:List Addr) (T:Tp) (ws:List W) (c:Nat) (T':Tp),HC K O ts H T/\fg K O ts H vs ws/\ws.length=n/\cK ws=true/\m ws T=some (c,T') /\
 ∀H',SameX ts H H'->HC K O ts H' T'->E (.ref (cs c)) none H'
structure FnX(P:Program)(w:World)(K:Frag)(mg:Str->Option Value)(base:Heap)(name:Str)(ps:List Str)(k:Nat)(sp:Sp):Prop where
 ex:∃f fd,FnOk P w K mg base (CXo P w) k f fd ps sp/\Binds K fd ps []/\PySem.W.keepIn K (.ref f)=true/\mg name=some (.ref f)
section
variable {X:Cx}{cs:Nat->Addr}{E:XK}{pos:Pos}
section
variable {name:Str}{ps:List Str}{k:Nat}{m:List W->Tp->Option (Nat×Tp)}{e:Expr}{es:List Expr}{g:FA}{p cpos:Pos}{sts:List Stmt}
end
end
section
variable {P:Program}{w:World}{K:Frag}{mg:Str->Option Value}{base:Heap}{N:List Str}{qual:Str}{scope:Scope}{f:Addr}{cdv:Value}{A:Around}{outer:List Env}{s0:Shared}{H0:Hp}{E:XK}{cs:Nat->Addr}
theorem Di(G:XB0 K (cs c) R)(hm:mg cn=some (.ref (cs c)))(ht:DT (cF (CXo P w) P w K mg base N qual scope f cdv A outer s0 H0 E) e ft)
  (hg:Gl (cF (CXo P w) P w K mg base N qual scope f cdv A outer s0 H0 E) cn:=by rfl) (hdb:(cn == ("__debug__" : Str))=false:=by decide) :
  DX (cF (CXo P w) P w K mg base N qual scope f cdv A outer s0 H0 E) cs E (.If e [.Raise (some (.Call (.Name cn p) [.Constant (.str x) j p1] [] cpos)) none rpos] [] pos::sts) (jZ ft c):=by
 refine⟨mP (qc (yG ht.pe (vW (CB G.c (Ej G hg hm xF hdb))) vX) Cz) fun D σ H h=>?_⟩;obtain⟨O₀,H₀,F,ts,O,ρ,T,c',T',rs,e,q⟩:=h;unfold jZ at e;obtain⟨b,T1,e1,e⟩:=aM e
 cases b with
 |false=>cases e
 |true=>
  cases e;refine⟨O,ts,ρ,T,true,_,rs.hc,rs.re,e1,fun H2 s2 hc2=>gF ?_⟩;refine fun a ge ha=>⟨a,none,rfl,ge,bt,?_⟩;rw[jk ha];exact q _ (rs.same.trans s2) (rs.step s2 hc2).frzH
end
def mkX(N:Nat)(m:FX):List W->Tp->Option (Nat×Tp):=fun ws T=>if cK ws=true then m (ws.map some++List.replicate (N-ws.length) none) T else none
theorem JF{P:Program}{w:World}{K:Frag}{mg:Str->Option Value}{base:Heap}{x qual:Str}{st:Stmt}{f:Addr}{fd:FuncData}{N ps:List Str}{k:Nat}{m:FX}{cs:Nat->Addr}(F:Fun K x qual st f fd)(S:FnScope N ps (a9 st))
  (hbody:∀(cdv:Value) (A:Around) (outer:List Env) (s:Shared) (H:Hp) (E:XK),Room k (A.deeper (envOfC qual (a9 st) s.heap.objs.size f cdv))->DX (cF (CXo P w) P w K mg base N qual (a9 st) f cdv A outer s H E) cs E (bY st) m) :
  FnOk P w K mg base (CXo P w) (k+1) f fd ps (spF K ps.length cs (mkX N.length m)):=by
 obtain⟨oc,od,kV,doc,pm,an,cdv,ct,osl,rfl,lk,hcd⟩:=F.ex;refine yV lk hcd S (fun vs H Q E h=>?_) fun A outer s H vs Q E hr h=>⟨_,(hbody cdv A outer s H E hr).pe,?_⟩
 .obtain⟨O,ts,T,ws,c,T',hc,rw',hl,_⟩:=h
  exact(Paired.length rw').trans hl
 .obtain⟨O,ts,T,ws,c,T',hc,rw',hl,hn,e,q⟩:=h
  unfold mkX at e;rw[if_pos hn] at e;exact⟨O,H,[],ts,O,_,T,c,T',XE.Cs hc rw' hn,e,q⟩
end XO
namespace XO
open PySem PySem.Spec PyProof.Rows L2 D
open XE (Kp forget dJ gN jk XCl vE XAt name_goes tf)
inductive LiftYP(K:Frag)(cs:Nat->Addr)(E:XK)(f:FX)(σ:L2.St)(H:Hp):Prop where
 |mk (O₀:Addr->Prop) (H₀:Hp) (F:List ((Addr->Prop)×Hp)) (ts:List Addr) (O:Addr->Prop) (ρ:Rho) (T:Tp) (c:Nat) (T':Tp) (rs:RS K O₀ H₀ F ts O H σ ρ T) (e:f ρ T=some (c,T')) (q:∀H',RS K O₀ H₀ F ts O H' σ ρ T'->E (.ref (cs c)) none H'):LiftYP K cs E f σ H
theorem G7{X:Cx}{cs:Nat->Addr}{m:List W->Tp->Option (Nat×Tp)}(hl:fY g n)(h:LiftYP X.K cs E (gZ m g) σ H):rP (spF X.K n cs m) [] E (rV X.K g) σ H Q:=by
 obtain⟨O₀,H₀,F,ts,O,ρ,T,c,T',rs,e,q⟩:=h;unfold gZ at e;obtain⟨ws,T1,e1,e⟩:=aM e;split at e
 .rename_i hn
  refine⟨O,ts,ρ,T,ws,T1,rs.hc,rs.re,e1,fun vs H1 s1 hc1 r1=>?_⟩;show spF X.K n cs m (vs++[]) H1 Q E;rw[List.append_nil];exact⟨O,ts,T1,ws,c,T',hc1,r1,hl _ _ _ _ e1,hn,e,fun H' s2 hc2=>q H' ((rs.step s1 hc1).step s2 hc2)⟩
 .cases e
structure DF(X:Cx)(cs:Nat->Addr)(body:List Stmt)(f:FX):Prop where
 pe:∀(pins:List (Addr×Obj)) (s:Shared) (σ:L2.St) (H:Hp) (Eh:XK),L2.Inv X pins σ H s->LiftYP X.K cs Eh f σ H->wpAny (model X.prog X.w) X.A (execs body X.env) (fun _ _=>False) (fun v s'=>∃H1 s1,L2.Inv X pins σ H1 s1/\CXo X.prog X.w X.stack H1 s1 Eh v s') s
section
variable {X:Cx}{cs:Nat->Addr}
theorem Hk(G:FnX X.prog X.w X.K X.mg X.base name ps k (spF X.K ps.length cs m))(hr:Room k X.A)(hg:Gl X name)(ha:DA X.nox (e::es) g)(hl:fY g ps.length)(hdb:(name == ("__debug__" : Str))=false:=by decide)
  (he:starEach (e::es) X.env=(false,eval e X.env)::starEach es X.env:=by exact bb rfl) (hpl:(backTo cpos (starEach es X.env)).any (·.1)=false:=by exact bS rfl)
  (hs:swapsWith (.Call (.Name name p) (e::es) [] cpos) (some (.Name x pos')) pos.line X.env=pure false:=by rfl) :
  DF X cs [.Assign [.Name x pos'] (.Call (.Name name p) (e::es) [] cpos) pos] (gZ m g):=by
 refine⟨fun pins s σ H Eh I h=>?_⟩;obtain⟨f,fd,F,hb,hk,hm⟩:=G.ex;have h2:=G7 (X:=X) (Q:=fun _ _=>False) hl h;refine wpAny_execs_cons (wpAny_Assign_Name ?_ hs);refine wpAny_Call_Name_kw (kQ I hg hm ?_ hdb);refine PySem.W.callWith_K (h₀:=X.base) I.ok.mod.kin hk ?_ he hpl;refine wpAny_mono (ha.pe cpos pins s σ H _ (I.wish _) h2) (fun us s1 ⟨vs,H1,I1',rv,q⟩=>?_) fun _ _ z=>False.elim z;have I1:L2.Inv X pins σ H1 s1:=I1'.unwish;refine⟨I1.kIn,?_⟩;have q:spF X.K ps.length cs m (vs++[]) H1 (fun _ _=>False) Eh:=q;rw[List.append_nil] at q
 have hlen:us.length=ps.length:=by rw[←rv.length];exact F.len _ _ _ _ q
 refine wpAny_call (codeAny_mono (F.run X.A X.stack s1 H1 ⟨us,[]⟩ us vs _ _ hr I1.env0 (by simpa using hb s1 us I1.kIn (by simpa using hlen)) rv q) fun res s2 hq=>?_)
 cases res with
 |ok fl=>
  cases fl with
  |ret u=>
   obtain⟨v,H2,I2,r2,q2⟩:=I1.after hq;exact False.elim q2
  |next=>exact False.elim hq
  |brk=>exact False.elim hq
  |cont=>exact False.elim hq
 |error x=>exact⟨H1,s1,I1,hq⟩
def hnd(X:Cx)(e:Addr):Cx:={ X with A:=X.A.mark (some (.ref e)),calm:=false,xe:=fun _ _=>False }
theorem G4(ok:X.Ok):(hnd X e).Ok:=⟨ok.mod,ok.kind,ok.glob,ok.blt,ok.above,ok.inj,ok.has,ok.cab,fun z=>(nomatch z),ok.frames,ok.stk,ok.exf,ok.bs,ok.bsz,ok.noex,ok.exfs,ok.funs,ok.frf⟩
theorem wF(I:L2.Inv X pins σ H s):L2.Inv (hnd X e) pins σ H s:=⟨G4 I.ok,I.os,I.bare,I.base,I.loc,I.cell,I.free,I.freeC,I.pin,I.hok,I.len⟩
theorem mF(ok:X.Ok)(I:L2.Inv (hnd X e) pins σ H s):L2.Inv X pins σ H s:=⟨ok,I.os,I.bare,I.base,I.loc,I.cell,I.free,I.freeC,I.pin,I.hok,I.len⟩
end
end XO
namespace D
open PySem PySem.Spec PyProof.Rows L2
theorem Dj(h:DSs X body fb)(hx:∀v s,¬X.xe v s):DS X (.Try body (h0::hs) [] [] pos) fb:=
 ⟨fun pins s σ H D I q=>wpAny_Try_except (wpAny_mono (h.pe pins s σ H D I q) (fun fl s1 z=>match fl,z with
  |.next,z=>wpAny_execs_nil z
  |.brk,z=>z
  |.cont,z=>z
  | .ret _,z=>z) fun _ _ z=>(hx _ _ z).elim)⟩
end D
namespace XO
open PySem PySem.Spec PyProof.Rows L2 D
open XE (Kp forget dJ gN jk XCl vE XAt name_goes tf)
theorem BG{E:Value->Shared->Prop}{K:Frag}{oe:Obj}{Q:Bool->Shared->Prop}{s:Shared}(x:K.In s.heap)(c:XCl K C (.ref R::vE))(he:s.heap.get? e=some oe)(hc:oe.cls=.ref C)(q:Q true s) :
  wpAny M A (excMatches (.ref e) (.ref C)) Q E s:=by
 obtain⟨nm,qn,N,bs,sn,sub,ab,col,dd,k0,k1,k2,k3,k5,l,_⟩:=c;have hC:=x _ _ l
 have c1:(Value.ref C::Value.ref R::vE).contains (.type "BaseException")=true:=by simp[vE]
 have c2:(Value.ref C::Value.ref R::vE).contains (.ref C)=true:=by simp
 have f:=tc_notTuple;obtain⟨hp,g,d,tk,os⟩:=s;unfold excMatches
 repeat (first|(with_reducible refine wpAny_loadPart_at he ?_;rw[hc])|with_reducible refine wpAny_loadPart_at hC ?_|wp_step)
 refine wpAny_isSubtype_exc hC ?_;rw[c1]
 repeat (first|(with_reducible refine wpAny_loadPart_at he ?_;rw[hc])|with_reducible refine wpAny_loadPart_at hC ?_|wp_step)
 refine wpAny_isSubtype_exc hC ?_;rw[c2]
 repeat wp_step
 exact q
section
variable {X:Cx}{cs:Nat->Addr}
theorem Ed(hB:DF X cs body f)(c:XCl X.K (cs c0) (.ref R::vE))(hgR:Gl X rn)(hmR:X.mg rn=some (.ref (cs c0)))(hs:∀e,PSs (hnd X e) (b0::suite) ts)
  (hfr:X.env.frame=some X.env.locals:=by rfl) (hst:X.stack=X.env::X.outer:=by rfl) (hdR:(rn == ("__debug__" : Str))=false:=by decide) :
  PS X (.Try body [.ExceptHandler (some (.Name rn p2)) none (b0::suite) hpos] [] [] pos) (fun D σ H=>LiftYP X.K cs (fun cv od H2=>cv=.ref (cs c0)/\od=none/\ts D σ H2) f σ H):=by
 intro pins s σ H D I h;refine wpAny_Try_except (wpAny_mono (hB.pe pins s σ H _ I h) (fun _ _ z=>False.elim z) fun x s2 hx=>?_);obtain⟨H1,s1,I1,hq⟩:=hx;obtain⟨a,C',dx,T,H2,rfl,os2,bare2,un2,hok2,ge,geT,neT,xr,tb,fe,fT,ec,ed,qx⟩:=hq;cases ec;cases ed;have I2:L2.Inv X pins σ H2 s2:=I1.call' (ch:=[]) os2 un2 hok2 bare2 (fun b z=>absurd z (by simp));have st:=I2.env0
 have goU:∀(xs:List Addr) (h':Heap),(∀y∈xs,s1.heap.get? y=none/\H2 y=none)->Kp xs (frs X.stack) s2.heap h'->Un (frs X.stack) [] H1 H2 s1.heap h'/\HOk X.prog X.w H2 h':=fun xs h' nx kp=>by
  have lt:∀{b:Addr}{o:Obj},s1.heap.get? b=some o->b∉xs:=fun q z=>by rw[(nx _ z).1] at q;cases q
  refine⟨⟨fun b o q n m _=>?_,fun b o q n m _=>?_,un2.free,fun b o q _=>?_,un2.tups,un2.frzs,un2.tbls⟩,fun b o e=>?_⟩
  .exact kp.keep b o (un2.keep b o q n m (by simp)) (lt q) m
  .obtain⟨sl,e1⟩:=un2.slot b o q n m (by simp)
   obtain⟨sl',e2⟩:=kp.slot b _ e1 (lt q) m;exact⟨sl',e2⟩
  .obtain⟨o',e1⟩:=un2.there b o q (by simp)
   exact kp.there b o' e1
  .refine(hok2 b o e).stay (fun c' u hc q=>?_) (fun _ q=>q) fun _ _ q=>q
   have tr:∃v,H2 c'=some v:=by
    rcases hc with rfl|hc
    .exact⟨_,e⟩
    .exact⟨_,hc⟩
   obtain⟨v,tr⟩:=tr;refine kp.keep c' u q (fun z=>?_) fun z=>?_
   .rw[(nx c' z).2] at tr;cases tr
   .rw[I2.stkFree c' z] at tr;cases tr
 have go:∀(xs:List Addr) (h':Heap),(∀y∈xs,s1.heap.get? y=none/\H2 y=none)->Kp xs (frs X.stack) s2.heap h'->L2.Inv X pins σ H2 { s2 with heap:=h' }:=fun xs h' nx kp=>I1.call' (ch:=[]) (s':={ s2 with heap:=h' }) os2 (goU xs h' nx kp).1 (goU xs h' nx kp).2 bare2 (fun b z=>absurd z (by simp))
 have frs':X.A.frames=some (X.env::X.outer):=by rw[←hst];exact st.frames
 have funs':s2.heap.FunFrames X.base (X.env::X.outer):=by rw[←hst];exact st.funs
 refine Ez (base:=X.base) (outer:=X.outer) (L:=X.env.locals) frs' funs' hfr xr tb neT fun h3 T3 g1 g2 g3 g4 g5=>?_;rw[←hst] at g5;have fT3:H2 T3=none:=hok2.fresh g1;refine rA g2 g3 g4 fun h4 j1 j2 j3=>?_;have wid:∀{x:Addr}{u v:Heap},Kp [x] [] u v->Kp [x] (frs X.stack) u v:=fun k=>⟨fun b o q n _=>k.keep b o q n (by simp),fun b o q n _=>⟨o.slots,k.keep b o q n (by simp)⟩,k.there⟩;have kp4:Kp [a,T,T3] (frs X.stack) s2.heap h4:=(g5.more fun x hx=>by simp at hx;rcases hx with z|z <;> simp[z]).trans ((wid j3).more fun x hx=>by simp at hx;simp[hx])
 have nx:∀y∈[a,T,T3],s1.heap.get? y=none/\H2 y=none:=fun y hy=>by
  simp at hy
  rcases hy with rfl|rfl|rfl
  .exact⟨Heap.get?_none_of_le ge,fe⟩
  .exact⟨Heap.get?_none_of_le geT,fT⟩
  .refine⟨?_,fT3⟩
   cases z:s1.heap.get? y with
   |none=>rfl
   |some o=>
    obtain⟨o',e1⟩:=un2.there y o z (by simp);exact absurd (Heap.lt_size e1) (Nat.not_lt.mpr g1)
 have I4:=go _ h4 nx kp4;obtain⟨t4,he4⟩:=id j1;have I5:L2.Inv (hnd X a) pins σ H2 { s2 with heap:=h4 }:=wF I4;refine wpAny_handleBy_cons (codeAny_handlers_test ?_) (by intro z;cases z);refine kQ (X:=hnd X a) I5 hgR hmR ?_ hdR;refine BG I5.kIn c he4 rfl ?_;refine codeAny_handlers_suite ?_;refine rA j1 j2 g4 fun h6 l1 l2 l3=>?_;have I7:L2.Inv (hnd X a) pins σ H2 { s2 with heap:=h6 }:=wF (go _ h6 nx (kp4.trans ((wid l3).more fun x hx=>by simp at hx;simp[hx])));refine wpAny_mono (hs a pins _ _ _ _ I7 qx) (fun f s9 sp9=>?_) fun _ _ z=>False.elim z
 cases f with
 |next=>
  obtain⟨σ9,H9,I9,q9⟩:=sp9;exact⟨_,_,mF I.ok I9,q9⟩
 |brk=>
  obtain⟨σ9,H9,I9,q9⟩:=sp9;exact⟨_,_,mF I.ok I9,q9⟩
 |cont=>
  obtain⟨σ9,H9,I9,q9⟩:=sp9;exact⟨_,_,mF I.ok I9,q9⟩
 |ret u=>
  obtain⟨v9,σ9,H9,I9,r9,q9⟩:=sp9;exact⟨_,_,_,mF I.ok I9,r9,q9⟩
def lI(f:FS)(x:FX)(h:FS):FS:=fun ρ T=>match x ρ T with
 |some (_,T1)=>h ρ T1
 |none=>f ρ T
theorem Fb(hO:DSs X body f)(hB:DF X cs body x)(hc:∀ρ T c T',x ρ T=some (c,T')->c=c0)(c:XCl X.K (cs c0) (.ref R::vE))(hmR:X.mg rn=some (.ref (cs c0)))(hs:∀e,DSs (hnd X e) (b0::suite) h)
  (hgR:Gl X rn:=by rfl) (hx:∀v s,¬X.xe v s:=by exact fun _ _ z=>z) (hfr:X.env.frame=some X.env.locals:=by rfl) (hst:X.stack=X.env::X.outer:=by rfl) (hdR:(rn == ("__debug__" : Str))=false:=by decide) :
  DS X (.Try body [.ExceptHandler (some (.Name rn p2)) none (b0::suite) hpos] [] [] pos) (lI f x h):=by
 refine⟨fun pins s σ H D I q=>?_⟩;obtain⟨O₀,H₀,F,ts,O,ρ,T,fl,ρ',T',rs,e,q⟩:=q;unfold lI at e;split at e
 .rename_i c1 T1 e1
  cases hc ρ T c1 T1 e1;exact Ed (ts:=oF X.K h) hB c hgR hmR (fun e=>(hs e).pe) hfr hst hdR pins s σ H D I ⟨O₀,H₀,F,ts,O,ρ,T,_,T1,rs,e1,fun H' rs'=>⟨rfl,rfl,O₀,H₀,F,ts,O,ρ,T1,fl,ρ',T',rs',e,q⟩⟩
 .exact(Dj hO hx).pe pins s σ H D I ⟨O₀,H₀,F,ts,O,ρ,T,fl,ρ',T',rs,e,q⟩
end
end XO
namespace XO
open PySem PySem.Spec PyProof.Rows L2 D
open XE (XCl vE oz)
theorem FJ{K:Frag}{C R:Addr}{nm q nm' q':Str}{N N':Addr}{bs bs' sub sub':List Value}{sn sn':List Str}{ab ab':Bool}{col col':Option Bool}{dd dd':Option Addr}{k0 k1 k2 k3 k5 j0 j1 j2 j3 j5:Option Value}{oN oN':Obj}
  (lC:K.lookup C=some (excClassObj nm q C N bs (.ref R::vE) true sn sub ab col dd k0 k1 k2 k3 k5 "ValueError.__new__")) (nC:K.lookup N=some oN)
  (lR:K.lookup R=some (excClassObj nm' q' R N' bs' vE true sn' sub' ab' col' dd' j0 j1 j2 j3 j5 "ValueError.__new__")) (nR:K.lookup N'=some oN') (ri:PySem.W.nsIn K N' "__init__"=some none) (ci:PySem.W.findIn K (.ref C) "__init__"=some (some (.builtin "ValueError.__init__"))) (kp:PySem.W.keepIn K (.ref C)=true)
  (oC:oz oN=true) (oR:oz oN'=true):XB0 K C R:=by
 have no:∀{N:Addr}{o:Obj},K.lookup N=some o->oz o=true->PySem.W.nsOkIn K N=true:=fun {N o} h1 h2=>by
  obtain⟨oc,od,dt,sl⟩:=o;unfold PySem.W.nsOkIn;rw[h1]
  cases dt with
  |dict es ep=>
   have h3:(es.toList.all fun e=>match e.key with
    |.str _ _=>true
    | _=>false)=true:=h2
   rw[Array.all_toList] at h3;exact h3
  |_=>cases h2
 refine⟨⟨_,_,_,_,_,_,_,_,_,_,_,_,_,_,lC,no nC oC⟩,⟨_,_,_,_,_,_,_,_,_,_,_,_,_,_,lR,no nR oR⟩,ci,?_,kp⟩;simp only[PySem.W.ownIn];rw[lR];exact ri
theorem fnX{P:Program}{w:World}{K:Frag}{mg:Str->Option Value}{base h:Heap}{name:Str}{st:Stmt}{ps:List Str}{k:Nat}{sp:Sp}(d:Df K name st)(X:K.In h)(G:h.Ns mainGlobals mg)
  (hb:∀(kV doc pm:Value) (an:Option Addr) (cdv ct:Value) (us:List Value),us.length=ps.length->bindArgs (PySem.W.fnOf name name (dz st) (bY st) (a9 st) .none kV doc pm an cdv ct) ⟨us,[]⟩=pure (ps.zip us))
  (ok:∀f fd,Fun K name name st f fd->FnOk P w K mg base (CXo P w) k f fd ps sp):FnX P w K mg base name ps k sp:=by
 obtain⟨f,oc,od,an,sl,kV,dc,pm,cd,ct,a,l,c,kp⟩:=d.ex;have F:=rC (st:=st) l c kp;exact⟨f,_,ok f _ F,F.binds hb,kp,PySem.W.mg_of X G a⟩
end XO
namespace D
open PySem PySem.Spec PyProof.Rows L2
def DfL(K:Frag)(tp:Nat->Stmt):List (Str×Nat)->Prop
 |[]=>True
 |(x,i)::r=>Df K x (tp i)/\DfL K tp r
theorem Dp{K:Frag}{tp:Nat->Stmt}{x:Str}{i:Nat}{L:List (Str×Nat)}(a:Df K x (tp i))(r:DfL K tp L):DfL K tp ((x,i)::L):=⟨a,r⟩
theorem DfL.at{K:Frag}{tp:Nat->Stmt}{x:Str}{i:Nat}:∀{L:List (Str×Nat)},DfL K tp L->L.lookup x=some i->Df K x (tp i)
 |[],_,e=>nomatch e
 |(y,j)::r,h,e=>by
  rw[List.lookup_cons] at e;split at e
  .rename_i hx
   cases e;rw[eq_of_beq hx];exact h.1
  .exact h.2.at e
def ZL(K:Frag):List Str->Prop
 |[]=>True
 |x::r=>PySem.W.nsIn K mainGlobals x=some none/\ZL K r
theorem DM{K:Frag}{x:Str}{L:List Str}(a:PySem.W.nsIn K mainGlobals x=some none)(r:ZL K L):ZL K (x::L):=⟨a,r⟩
theorem ZL.at{K:Frag}{x:Str}:∀{L:List Str},ZL K L->L.contains x=true->PySem.W.nsIn K mainGlobals x=some none
 |[],_,e=>nomatch e
 |y::r,h,e=>by
  rw[List.contains_cons,Bool.or_eq_true] at e
  rcases e with e|e
  .rw[eq_of_beq e];exact h.1
  .exact h.2.at e
def IL(K:Frag):List (Str×Int)->Prop
 |[]=>True
 |(x,i)::r=>(∃t,PySem.W.nsIn K mainGlobals x=some (some (.int i t)))/\IL K r
theorem ES{K:Frag}{x:Str}{i:Int}{t:Tok}{L:List (Str×Int)}(a:PySem.W.nsIn K mainGlobals x=some (some (.int i t)))(r:IL K L):IL K ((x,i)::L):=⟨⟨t,a⟩,r⟩
theorem IL.at{K:Frag}{x:Str}{i:Int}:∀{L:List (Str×Int)},IL K L->L.lookup x=some i->∃t,PySem.W.nsIn K mainGlobals x=some (some (.int i t))
 |[],_,e=>nomatch e
 |(y,j)::r,h,e=>by
  rw[List.lookup_cons] at e;split at e
  .rename_i hx
   cases e;rw[eq_of_beq hx];exact h.1
  .exact h.2.at e
def SL(K:Frag):List (Str×Str)->Prop
 |[]=>True
 |(x,i)::r=>(∃t,PySem.W.nsIn K mainGlobals x=some (some (.str i t)))/\SL K r
theorem D1{K:Frag}{x i:Str}{t:Tok}{L:List (Str×Str)}(a:PySem.W.nsIn K mainGlobals x=some (some (.str i t)))(r:SL K L):SL K ((x,i)::L):=⟨⟨t,a⟩,r⟩
theorem SL.at{K:Frag}{x i:Str}:∀{L:List (Str×Str)},SL K L->L.lookup x=some i->∃t,PySem.W.nsIn K mainGlobals x=some (some (.str i t))
 |[],_,e=>nomatch e
 |(y,j)::r,h,e=>by
  rw[List.lookup_cons] at e;split at e
  .rename_i hx
   cases e;rw[eq_of_beq hx];exact h.1
  .exact h.2.at e
structure Bz(K:Frag)(mg:Str->Option Value)(z:List Str)(i:List (Str×Int))(s:List (Str×Str)):Prop where
 z:∀{x:Str} (_:z.contains x=true:=by decide +kernel),mg x=none
 i:∀{x:Str}{j:Int} (_:i.lookup x=some j:=by decide +kernel),∃t,mg x=some (.int j t)
 s:∀{x y:Str} (_:s.lookup x=some y:=by decide +kernel),∃t,mg x=some (.str y t)
theorem Je{K:Frag}{h:Heap}{mg:Str->Option Value}(X:K.In h)(G:h.Ns mainGlobals mg)(a:ZL K z)(b:IL K i)(c:SL K s):Bz K mg z i s:=⟨fun e=>PySem.W.mg_none_of X G (a.at e),fun e=>let ⟨t,q⟩:=b.at e;⟨t,PySem.W.mg_of X G q⟩,fun e=>let ⟨t,q⟩:=c.at e;⟨t,PySem.W.mg_of X G q⟩⟩
structure Ev(P:Program)(w:World)(K:Frag)(mg:Str->Option Value)(base:Heap)(B:Prop)(tp:Nat->Stmt)(L:List (Str×Nat)):Prop where
 x:∃h:Heap,K.In h/\h.Ns mainGlobals mg
 b:B
 d:DfL K tp L
def scB(N P:List Str)(sc:Scope):Bool:=decide (sc.kind=.function)&&!sc.isCoroutine&&!sc.isGenerator&&decide N.Nodup&&decide (N.take P.length=P)&&P.all (fun x=>decide (sc.names.lookup x=some .local)||decide (sc.names.lookup x=some .cell))&&sc.names.all fun y=>decide (y.2≠.free)
theorem iX(h:scB N P sc=true):FnScope N P sc:=by
 simp only[scB,Bool.and_eq_true,decide_eq_true_eq,Bool.not_eq_true',List.all_eq_true,Bool.or_eq_true] at h;exact⟨h.1.1.1.1.1.1,h.1.1.1.1.1.2,h.1.1.1.1.2,h.1.1.1.2,h.1.1.2,h.1.2,h.2⟩
theorem bl1{α:Type}{p:List α->Prop}(h:∀a,p [a]):∀us,us.length=1->p us
 |[a],_=>h a
theorem bl2{α:Type}{p:List α->Prop}(h:∀a b,p [a,b]):∀us,us.length=2->p us
 |[a,b],_=>h a b
theorem bl3{α:Type}{p:List α->Prop}(h:∀a b c,p [a,b,c]):∀us,us.length=3->p us
 |[a,b,c],_=>h a b c
theorem bl4{α:Type}{p:List α->Prop}(h:∀a b c d,p [a,b,c,d]):∀us,us.length=4->p us
 |[a,b,c,d],_=>h a b c d
theorem bl6{α:Type}{p:List α->Prop}(h:∀a b c d e f,p [a,b,c,d,e,f]):∀us,us.length=6->p us
 |[a,b,c,d,e,f],_=>h a b c d e f
section
variable {P:Program}{w:World}{K:Frag}{mg:Str->Option Value}{base:Heap}{B:Prop}{tp:Nat->Stmt}{L:List (Str×Nat)}{x:Str}{ps:List Str}{k:Nat}{m:FS}
theorem se(E:Ev P w K mg base B tp L)(i:Nat)(ok:∀f fd,Fun K x x (tp i) f fd->FnOk P w K mg base CX0 k f fd ps sp)(e:L.lookup x=some i:=by decide +kernel)
  (hb:∀(kV doc pm:Value) (an:Option Addr) (cdv ct:Value) (us:List Value),us.length=ps.length->bindArgs (PySem.W.fnOf x x (dz (tp i)) (bY (tp i)) (a9 (tp i)) .none kV doc pm an cdv ct) ⟨us,[]⟩=pure (ps.zip us):=by
   intro _ _ _ _ _ _;first|(show ∀us:List Value,us.length=0->_;exact D.bl0 rfl)|(show ∀us:List Value,us.length=1->_;exact D.bl1 fun _=>rfl)|(show ∀us:List Value,us.length=2->_;exact D.bl2 fun _ _=>rfl)|(show ∀us:List Value,us.length=3->_;exact D.bl3 fun _ _ _=>rfl)|(show ∀us:List Value,us.length=4->_;exact D.bl4 fun _ _ _ _=>rfl)|(show ∀us:List Value,us.length=5->_;exact D.bl5 fun _ _ _ _ _=>rfl)|(show ∀us:List Value,us.length=6->_;exact D.bl6 fun _ _ _ _ _ _=>rfl)):Fn P w K mg base x ps k sp:=
 let ⟨_,X,G⟩:=E.x
 (E.d.at e).fn X G hb ok
theorem aV(E:Ev P w K mg base B tp L)(i:Nat)(N:List Str)(hbody:∀{f:Addr}{cdv:Value}{A:Around}{outer:List Env}{s:Shared}{H:Hp}{E:XK},B->FnScope N ps (a9 (tp i))->Room k (A.deeper (envOfC x (a9 (tp i)) s.heap.objs.size f cdv))->DSs (cF CX0 P w K mg base N x (a9 (tp i)) f cdv A outer s H E).nox (bY (tp i)) m)
  (S:scB N ps (a9 (tp i))=true:=by decide +kernel) (e:L.lookup x=some i:=by decide +kernel)
  (hb:∀(kV doc pm:Value) (an:Option Addr) (cdv ct:Value) (us:List Value),us.length=ps.length->bindArgs (PySem.W.fnOf x x (dz (tp i)) (bY (tp i)) (a9 (tp i)) .none kV doc pm an cdv ct) ⟨us,[]⟩=pure (ps.zip us):=by
   intro _ _ _ _ _ _;first|(show ∀us:List Value,us.length=0->_;exact D.bl0 rfl)|(show ∀us:List Value,us.length=1->_;exact D.bl1 fun _=>rfl)|(show ∀us:List Value,us.length=2->_;exact D.bl2 fun _ _=>rfl)|(show ∀us:List Value,us.length=3->_;exact D.bl3 fun _ _ _=>rfl)|(show ∀us:List Value,us.length=4->_;exact D.bl4 fun _ _ _ _=>rfl)|(show ∀us:List Value,us.length=5->_;exact D.bl5 fun _ _ _ _ _=>rfl)|(show ∀us:List Value,us.length=6->_;exact D.bl6 fun _ _ _ _ _ _=>rfl)):Fn P w K mg base x ps (k+1) (spM K ps.length (aN N.length m)):=se E i (fun _ _ F=>dfn F (iX S) fun _ _ _ _ _ _ hr=>hbody E.b (iX S) hr) e hb
theorem Jb(E:Ev P w K mg base B tp L)(i:Nat)(N:List Str)(hbody:∀{f:Addr}{cdv:Value}{A:Around}{outer:List Env}{s:Shared}{H:Hp}{E:XK},B->FnScope N ps (a9 (tp i))->Room k (A.deeper (envOfC x (a9 (tp i)) s.heap.objs.size f cdv))->DSs (cF CX0 P w K mg base N x (a9 (tp i)) f cdv A outer s H E).nox (bY (tp i)) m)
  (S:scB N ps (a9 (tp i))=true:=by decide +kernel) (e:L.lookup x=some i:=by decide +kernel)
  (hb:∀(kV doc pm:Value) (an:Option Addr) (cdv ct:Value) (us:List Value),us.length=ps.length->bindArgs (PySem.W.fnOf x x (dz (tp i)) (bY (tp i)) (a9 (tp i)) .none kV doc pm an cdv ct) ⟨us,[]⟩=pure (ps.zip us):=by
   intro _ _ _ _ _ _;first|(show ∀us:List Value,us.length=0->_;exact D.bl0 rfl)|(show ∀us:List Value,us.length=1->_;exact D.bl1 fun _=>rfl)|(show ∀us:List Value,us.length=2->_;exact D.bl2 fun _ _=>rfl)|(show ∀us:List Value,us.length=3->_;exact D.bl3 fun _ _ _=>rfl)|(show ∀us:List Value,us.length=4->_;exact D.bl4 fun _ _ _ _=>rfl)|(show ∀us:List Value,us.length=5->_;exact D.bl5 fun _ _ _ _ _=>rfl)|(show ∀us:List Value,us.length=6->_;exact D.bl6 fun _ _ _ _ _ _=>rfl)):Fn P w K mg base x ps (k+1) (spO K ps.length (lj N.length m)):=se E i (fun _ _ F=>JG F (iX S) fun _ _ _ _ _ _ hr=>hbody E.b (iX S) hr) e hb
theorem dG(E:Ev P w K mg base B tp L)(i:Nat)(e:L.lookup x=some i:=by decide +kernel)
  (hb:∀(kV doc pm:Value) (an:Option Addr) (cdv ct:Value) (us:List Value),us.length=ps.length->bindArgs (PySem.W.fnOf x x (dz (tp i)) (bY (tp i)) (a9 (tp i)) .none kV doc pm an cdv ct) ⟨us,[]⟩=pure (ps.zip us):=by
   intro _ _ _ _ _ _;first|(show ∀us:List Value,us.length=0->_;exact D.bl0 rfl)|(show ∀us:List Value,us.length=1->_;exact D.bl1 fun _=>rfl)|(show ∀us:List Value,us.length=2->_;exact D.bl2 fun _ _=>rfl)|(show ∀us:List Value,us.length=3->_;exact D.bl3 fun _ _ _=>rfl)|(show ∀us:List Value,us.length=4->_;exact D.bl4 fun _ _ _ _=>rfl)|(show ∀us:List Value,us.length=5->_;exact D.bl5 fun _ _ _ _ _=>rfl)|(show ∀us:List Value,us.length=6->_;exact D.bl6 fun _ _ _ _ _ _=>rfl)):Fn P w K mg base x ps k (spM K n fun _ _=>none):=se E i (fun _ _ _=>EY) e hb
theorem Jc(E:Ev P w K mg base B tp L)(N:List Str)(F:Fun K x x (tp i) f fd)(hbody:∀{cdv:Value}{A:Around}{outer:List Env}{s:Shared}{H:Hp}{E:XK},B->FnScope N ps (a9 (tp i))->Room k (A.deeper (envOfC x (a9 (tp i)) s.heap.objs.size f cdv))->DSs (cF CX0 P w K mg base N x (a9 (tp i)) f cdv A outer s H E).nox (bY (tp i)) m)
  (S:scB N ps (a9 (tp i))=true:=by decide +kernel):FnOk P w K mg base CX0 (k+1) f fd ps (spM K ps.length (aN N.length m)):=dfn F (iX S) fun _ _ _ _ _ _ hr=>hbody E.b (iX S) hr
theorem dj{p:Nat->Prop}(z:p 0)(s:∀n,p n->p (n+1)):∀n,p n
 |0=>z
 |n+1=>s n (dj z s n)
end
section
variable {X:Cx}{name p1 p2 p3 p4 p5 p6:Str}{k k':Nat}{m:FnM}{e1 e2 e3 e4 e5 e6:Expr}{g1 g2 g3 g4 g5 g6:FE}{p pos:Pos}
theorem aW(F:Fn X.prog X.w X.K X.mg X.base name [p1] k (spM X.K 1 m))(hr:Room k' X.A)(a1:DE X e1 g1)(h:k<=k':=by omega)(hg:Gl X name:=by exact rfl)(hdb:(name == ("__debug__" : Str))=false:=by decide)(n1:noStar e1=true:=by exact rfl):DE X (.Call (.Name name p) [e1] [] pos) (ar m (ae g1 ah)):=kU F (hr.mono h) hg (ai a1 ap (bb n1)) (a7 bX) hdb (bb n1) (bS rfl)
theorem aX(F:Fn X.prog X.w X.K X.mg X.base name [p1,p2] k (spM X.K 2 m))(hr:Room k' X.A)(a1:DE X e1 g1)(a2:DE X e2 g2)(h:k<=k':=by omega)(hg:Gl X name:=by exact rfl)(hdb:(name == ("__debug__" : Str))=false:=by decide)(n1:noStar e1=true:=by exact rfl)(n2:noStar e2=true:=by exact rfl):DE X (.Call (.Name name p) [e1,e2] [] pos) (ar m (ae g1 (ae g2 ah))):=kU F (hr.mono h) hg (ai a1 (ai a2 ap (bb n2)) (bb n1)) (a7 (a7 bX)) hdb (bb n1) (bS (by simp only[List.all_cons,List.all_nil,n2,Bool.and_self]))
theorem fA(F:Fn X.prog X.w X.K X.mg X.base name [p1,p2,p3] k (spM X.K 3 m))(hr:Room k' X.A)(a1:DE X e1 g1)(a2:DE X e2 g2)(a3:DE X e3 g3)(h:k<=k':=by omega)(hg:Gl X name:=by exact rfl)(hdb:(name == ("__debug__" : Str))=false:=by decide)(n1:noStar e1=true:=by exact rfl)(n2:noStar e2=true:=by exact rfl)(n3:noStar e3=true:=by exact rfl):DE X (.Call (.Name name p) [e1,e2,e3] [] pos) (ar m (ae g1 (ae g2 (ae g3 ah)))):=kU F (hr.mono h) hg (ai a1 (ai a2 (ai a3 ap (bb n3)) (bb n2)) (bb n1)) (a7 (a7 (a7 bX))) hdb (bb n1) (bS (by simp only[List.all_cons,List.all_nil,n2,n3,Bool.and_self]))
theorem gI(F:Fn X.prog X.w X.K X.mg X.base name [p1,p2,p3,p4] k (spM X.K 4 m))(hr:Room k' X.A)(a1:DE X e1 g1)(a2:DE X e2 g2)(a3:DE X e3 g3)(a4:DE X e4 g4)(h:k<=k':=by omega)(hg:Gl X name:=by exact rfl)(hdb:(name == ("__debug__" : Str))=false:=by decide)(n1:noStar e1=true:=by exact rfl)(n2:noStar e2=true:=by exact rfl)(n3:noStar e3=true:=by exact rfl)(n4:noStar e4=true:=by exact rfl):DE X (.Call (.Name name p) [e1,e2,e3,e4] [] pos) (ar m (ae g1 (ae g2 (ae g3 (ae g4 ah))))):=kU F (hr.mono h) hg (ai a1 (ai a2 (ai a3 (ai a4 ap (bb n4)) (bb n3)) (bb n2)) (bb n1)) (a7 (a7 (a7 (a7 bX)))) hdb (bb n1) (bS (by simp only[List.all_cons,List.all_nil,n2,n3,n4,Bool.and_self]))
theorem oZ(F:Fn X.prog X.w X.K X.mg X.base name [p1,p2,p3,p4,p5,p6] k (spM X.K 6 m))(hr:Room k' X.A)(a1:DE X e1 g1)(a2:DE X e2 g2)(a3:DE X e3 g3)(a4:DE X e4 g4)(a5:DE X e5 g5)(a6:DE X e6 g6)(h:k<=k':=by omega)(hg:Gl X name:=by exact rfl)(hdb:(name == ("__debug__" : Str))=false:=by decide)(n1:noStar e1=true:=by exact rfl)(n2:noStar e2=true:=by exact rfl)(n3:noStar e3=true:=by exact rfl)(n4:noStar e4=true:=by exact rfl)(n5:noStar e5=true:=by exact rfl)(n6:noStar e6=true:=by exact rfl):DE X (.Call (.Name name p) [e1,e2,e3,e4,e5,e6] [] pos) (ar m (ae g1 (ae g2 (ae g3 (ae g4 (ae g5 (ae g6 ah))))))):=kU F (hr.mono h) hg (ai a1 (ai a2 (ai a3 (ai a4 (ai a5 (ai a6 ap (bb n6)) (bb n5)) (bb n4)) (bb n3)) (bb n2)) (bb n1)) (a7 (a7 (a7 (a7 (a7 (a7 bX)))))) hdb (bb n1) (bS (by simp only[List.all_cons,List.all_nil,n2,n3,n4,n5,n6,Bool.and_self]))
end
def csB(osc:Scope)(N:List Str)(x:Str)(sc:Scope)(N':List Str):Bool:=decide (sc.kind=.function)&&(sc.names.all fun y=>decide (y.2≠.cell))&&(sc.names.all fun y=>decide (y.2=.local->sc.names.lookup y.1=some .local))&&decide (sc.names.lookup x=some .local)&&(sc.names.all fun y=>decide (y.2=.local->y.1=x\/y.1=".0"))
 && (sc.names.all fun y=>decide (y.2=.free->osc.names.lookup y.1=some .cell\/osc.names.lookup y.1=some .free))&&decide (x::N').Nodup&&decide ((".0" : Str)∉N')&&decide (N'.length=N.length)&&(N'.zip N).all fun p=>decide (p.1=p.2)||sc.names.all fun q=>decide (q.1≠p.1)
theorem yZ(h:csB osc N x sc N'=true):CS osc N x sc N':=by
 simp only[csB,Bool.and_eq_true,decide_eq_true_eq,List.all_eq_true,Bool.or_eq_true] at h;exact⟨h.1.1.1.1.1.1.1.1.1,h.1.1.1.1.1.1.1.1.2,h.1.1.1.1.1.1.1.2,h.1.1.1.1.1.1.2,h.1.1.1.1.1.2,h.1.1.1.1.2,h.1.1.1.2,h.1.1.2,h.1.2,h.2⟩
section
variable {X:Cx}{x:Str}{scope:Scope}{elt iter:Expr}{ifs:List Expr}{px pos:Pos}{it:FI}{c:FT}{f:FE}
theorem yY(st:Stmt)(N N':List Str)(hi:DI X (.Name x px) iter it)(he:∀{C s0 H0 ex},DE (bQ X x scope C s0 H0 ex N') elt f)(ht:∀{C s0 H0 ex},DTs (bQ X x scope C s0 H0 ex N') ifs c)
  (S:csB (a9 st) N x scope N'=true:=by decide +kernel) (hc:X.calm=true:=by rfl) (hs:X.env.scope=a9 st:=by rfl) (hN:X.N=N:=by rfl) (hf:∀v,foldedSetIterable iter X.env v=pure v:=by intro _;rfl):DE X (.ListComp elt [⟨.Name x px,iter,ifs,0⟩] scope pos) (bH it c f):=Fg (yZ S) hi (fun _ _ _ _=>he) (fun _ _ _ _=>ht) hc hs hN hf
theorem eE(st:Stmt)(N:List Str)(hi:DI X (.Name x px) iter it)(he:∀{C s0 H0 ex},DE (bQ X x scope C s0 H0 ex N) elt f)
  (S:csB (a9 st) N x scope N=true:=by decide +kernel) (hc:X.calm=true:=by rfl) (hs:X.env.scope=a9 st:=by rfl) (hN:X.N=N:=by rfl) (hf:∀v,foldedSetIterable iter X.env v=pure v:=by intro _;rfl):DE X (.ListComp elt [⟨.Name x px,iter,[],0⟩] scope pos) (bH it bF f):=yY st N N hi he wV S hc hs hN hf
theorem sf(st:Stmt)(N:List Str)(hi:DI X (.Name x px) iter it)(he:∀{C s0 H0 ex},DE (bQ X x scope C s0 H0 ex N) elt f)(ht:∀{C s0 H0 ex},DT (bQ X x scope C s0 H0 ex N) t c)
  (S:csB (a9 st) N x scope N=true:=by decide +kernel) (hc:X.calm=true:=by rfl) (hs:X.env.scope=a9 st:=by rfl) (hN:X.N=N:=by rfl) (hf:∀v,foldedSetIterable iter X.env v=pure v:=by intro _;rfl):DE X (.ListComp elt [⟨.Name x px,iter,[t],0⟩] scope pos) (bH it c f):=yY st N N hi he (E8 rfl ht) S hc hs hN hf
theorem Ja(st:Stmt)(N N':List Str)(nd:X.N.Nodup)(hi:DI X (.Name x px) iter it)(he:∀{C s0 H0 ex},DE (bQ X x scope C s0 H0 ex N') elt f)(ht:∀{C s0 H0 ex},DTs (bQ X x scope C s0 H0 ex N') ifs c)
  (S:csB (a9 st) N x scope N'=true:=by decide +kernel) (hi':X.N[i]? = some y:=by rfl) (hy:Loc X.env.scope y:=by first|exact Or.inl rfl|exact Or.inr rfl)
  (hf':X.fn y=true\/X.env.scope.names.lookup y=some .local:=by first|exact .inl rfl|exact .inr rfl|assumption) (hc:X.calm=true:=by rfl) (hs:X.env.scope=a9 st:=by rfl) (hN:X.N=N:=by rfl)
  (hsw:swapsWith (.ListComp elt [⟨.Name x px,iter,ifs,0⟩] scope pos) (some (.Name y py)) spos.line X.env=pure true:=by rfl) (hf:∀v,foldedSetIterable iter X.env v=pure v:=by intro _;rfl) :
  DS X (.Assign [.Name y py] (.ListComp elt [⟨.Name x px,iter,ifs,0⟩] scope pos) spos) (aG i (bH it c f)):=Fc (yZ S) nd hi (fun _ _ _ _=>he) (fun _ _ _ _=>ht) hi' hy hf' hc hs hN hsw hf
end
end D
namespace G
open PySem PySem.Spec PyProof.Rows L2 D

theorem bg(k:Nat)(h:0<k):∃j,k=j+1:=⟨k-1,by omega⟩
abbrev ac:FE:=fC (.int 1)
abbrev ad:FE:=fC (.int 0)
abbrev al:FE:=aa 0
abbrev be:FE:=aa 2
abbrev bn:FE:=fC (.int 2)
abbrev cr:FE:=aa 1
abbrev dl:FE:=fC (.str "fails")
abbrev dL:FE:=aa 3
abbrev f8:FE:=aa 4
abbrev gl:FE:=fC (.str "made")
abbrev ii:FE:=fC (.str "value")
abbrev im:FE:=fC (.bool false)
abbrev io:FE:=aa 6
abbrev kt:FE:=fC (.int 4)
abbrev ld:FE:=fC (.str "put")
abbrev mt:FE:=aa 7
abbrev pc:FE:=fC (.int 3)
abbrev pi:FE:=fC (.str "abcdefghijklmnopqrstuvwxyz")
abbrev pp:FE:=fC (.str "kind")
abbrev sB:FE:=fC (.int 8)
abbrev sK:FE:=fC (.str "got")
abbrev tz:FE:=aa 5
abbrev u8:FE:=fC (.str "want")
abbrev wf:FE:=fC (.int 5)
abbrev wn:FE:=fC (.int 10)
abbrev wp:FE:=fC (.str "row")
abbrev wv:FE:=fC (.str "wants")
abbrev ww:FE:=fC (.str "fail")
abbrev wE:FE:=fC .none
abbrev wP:FE:=fC (.int 18)
abbrev wS:FE:=fC (.str "part")
abbrev wT:FE:=fC (.str "when")
abbrev xz:FE:=fC (.int 7)
abbrev zn:FE:=fC (.str "refused")
abbrev At:FE:=fC (.str "")
abbrev AT:FE:=fC (.str "lacks")
abbrev BT:FE:=fC (.str "join")
abbrev Ch:FE:=fC (.str "say")
abbrev Cl:FE:=fC (.str "wanted")
abbrev Db:FE:=fC (.str "recipe")
abbrev Fa:FE:=fC (.str "great")
abbrev Id:FE:=fC (.str "told")
abbrev Ix:FE:=fC (.str "many")
abbrev IN:FE:=fC (.str "same")
abbrev IO:FE:=fC (.str "name")
abbrev KK:FE:=fC (.str "read")
abbrev LE:FE:=fC (.str "none")
abbrev N0:FE:=fC (.int 26)
abbrev N1:FE:=aa 8
abbrev N2:FE:=fC (.str "sum")
abbrev N3:FE:=fC (.bool true)
abbrev N4(f:FE):FA:=ae f ah
abbrev N5:FE->FE->FE:=af ixD
abbrev N6:FA->FE:=av .tuple
abbrev N7:FE->FE->FE:=af eqD
abbrev N8:FE->FE->FE:=af aS
abbrev N9:FA->FE:=fCB a8
abbrev Nk:FE->FE->FE:=af ixA
abbrev Nl:FA->FE:=av .list
abbrev Nm:FE->FE->FE:=af ltD
abbrev No:FA->FE:=fCB bE
def eM:FnM:=aN 1 (az (gC (fUn (bz .int) al) (r8 (fUn (bz .bl) al))))
def iz:FnM:=aN 2 (az (fCB j6 (N4 (bH (bc al) bF (af inD al be)))))
def jm:FnM:=aN 1 (az (gC (fUn (bz .str) al) (gC (gY leD leD ac (N9 (N4 al)) sB) (ar iz (ae al (N4 pi))))))
def kg:FnM:=aN 1 (ak (fIf (bf (ar eM (N4 al))) (az (af leD (fCB lT (N4 al)) (af fj wn wP))) aD) (az (gC (fUn (bz .str) al) (gC (af leD (N9 (N4 al)) (fC (.int 20))) (ar iz (ae al (N4 (fC (.str "abcdefghijklmnopqrstuvwxyz0123456789-")))))))))
def fE:Nat->FnM
 |0=>fun _ _=>none
 |n+1=>aN 2 (ak (fIf (cB (bf (fUn (bz .tup) al))) (az (ar kg (N4 al))) aD) (ak (fIf (dU (ay (N7 cr ad)) (ay (af gtD (N9 (N4 al)) sB))) (az im) aD) (az (fCB j6 (N4 (bH (bc al) bF (ar (fE n) (ae al (N4 (af fh be ac))))))))))
def iB:Nat->FnM
 |0=>fun _ _=>none
 |n+1=>aN 1 (ak (fIf (cB (bf (fUn (bz .tup) al))) (az ac) aD) (az (N8 ac (fCB jT (N4 (bH (bc al) bF (ar (iB n) (N4 al))))))))
def kq:FnM:=aN 1 (az (gC (ar (fE 25) (ae al (N4 kt))) (af leD (ar (iB 25) (N4 al)) (fC (.int 40)))))
def cR:FnM:=aN 1 (ak (fIf (dU (ay (N7 (N5 al ad) ld)) (ay (N7 (N5 al ad) sK))) (az (Nl ah)) aD) (ak (fIf (ay (N7 (N5 al ad) wp)) (az (fCB gx (N4 (N5 al ac)))) aD) (az (fCB gx (N4 (fSl al (fP ac) cQ))))))
def gQ:FnM:=aN 2 (ak (fIf (ay (af inA cr (N5 al ad))) (az Id) aD) (ak (fIf (ay (af inA cr (N5 al ac))) (az gl) aD) (az AT)))
def dh:Nat->FnM
 |0=>fun _ _=>none
 |n+1=>aN 1 (ak (fIf (bf (ar eM (N4 al))) (az (fCB fV (N4 al))) aD) (ak (fIf (bf (fUn (bz .str) al)) (az (N8 (fC (.str "'")) al)) aD) (az (N8 (N8 (fC (.str "(")) (af lz (fC (.str ",")) (bH (bc al) bF (ar (dh n) (N4 al))))) (fC (.str ")"))))))
def gK:FnM:=aN 1 (ak (fIf (ay (N7 (N5 al ad) ld)) (az (Nl (N4 (ar (dh 25) (N4 (N5 al ac)))))) aD) (ak (fIf (ay (N7 (N5 al ad) sK)) (az (Nl (N4 (fCB fV (N4 (N5 al ac)))))) aD) (ak (fIf (ay (N7 (N5 al ad) wp)) (az (Nl (N4 (fCB fV (N4 (N9 (N4 (N5 al ac)))))))) aD) (az (Nl ah)))))
def eJ:Nat->FnM
 |0=>fun _ _=>none
 |n+1=>aN 3 (ak (gA 1 (Nl (N4 (N5 al ad))) (ar gK (N4 al))) (ak (bw 2 (bc (ar cR (N4 al))) (ig 1 (ar (eJ n) (N4 be)))) (az cr)))
def fZ:Nat->FnM
 |0=>fun _ _=>none
 |n+1=>aN 3 (ak (fIf (ay (N7 (N5 al ad) ww)) (az (Nl (ae (N5 al ad) (N4 (N5 al ac))))) aD) (ak (gA 1 (Nl (N4 (N5 al ad))) (ar (eJ 25) (N4 (N5 al ac)))) (ak (bw 2 (bc (fSl al (fP bn) cQ)) (ig 1 (ar (fZ n) (N4 be)))) (az cr))))
def je:FnM:=aN 1 (az (af eX (fC (.str " ")) (ar (fZ 25) (N4 al))))
def gM:FnM:=aN 2 (ak (fIf (dU (cB (bf (ar eM (N4 al)))) (cB (bf (ar eM (N4 cr))))) (az (N6 (ae dl (N4 pp)))) aD) (az (N6 (ae ii (N4 (bW (ay (Nm al cr)) ac ad))))))
def gR:FnM:=aN 1 (az (bW (bf (ar kq (N4 al))) (N6 (ae ii (N4 al))) (N6 (ae dl (N4 Fa)))))
def kc:FnM:=aN 1 (ak (fIf (bf (ar eM (N4 al))) (az (N6 (ae dl (N4 pp)))) aD) (az (N6 (ae ii (N4 (N9 (N4 al)))))))
def gc:FnM:=aN 2 (ak (fIf (dU (cB (bf (fUn (bz .tup) al))) (cB (bf (ar eM (N4 cr))))) (az (N6 (ae dl (N4 pp)))) aD) (ak (fIf (cB (ay (gY leD ltD ad cr (N9 (N4 al))))) (az (N6 (ae dl (N4 wS)))) aD) (az (N6 (ae ii (N4 (N5 al cr)))))))
def iy:FnM:=aN 2 (ak (fIf (dU (cB (bf (ar eM (N4 al)))) (cB (bf (ar eM (N4 cr))))) (az (N6 (ae dl (N4 pp)))) aD) (az (ar gR (N4 (N8 al cr)))))
def gf:FnM:=aN 2 (ak (fIf (bU (bf (fUn (bz .str) al)) (bf (fUn (bz .str) cr))) (az (ar gR (N4 (N8 al cr)))) aD) (ak (fIf (bU (bf (fUn (bz .tup) al)) (bf (fUn (bz .tup) cr))) (az (ar gR (N4 (N8 al cr)))) aD) (az (N6 (ae dl (N4 pp))))))
def bh:FnM:=aN 2 (ak (fIf (ay (N7 al wp)) (az (ar gR (N4 (No (N4 cr))))) aD) (ak (fIf (ay (N7 al Ix)) (az (ar kc (N4 (N5 cr ad)))) aD) (ak (fIf (ay (N7 al wS)) (az (ar gc (ae (N5 cr ad) (N4 (N5 cr ac))))) aD) (ak (fIf (ay (N7 al N2)) (az (ar iy (ae (N5 cr ad) (N4 (N5 cr ac))))) aD) (ak (fIf (ay (N7 al BT)) (az (ar gf (ae (N5 cr ad) (N4 (N5 cr ac))))) aD) (ak (fIf (ay (N7 al IN)) (az (N6 (ae ii (N4 (bW (ay (af eqG (N5 cr ad) (N5 cr ac))) ac ad))))) aD) (az (ar gM (ae (N5 cr ad) (N4 (N5 cr ac)))))))))))
def dw:Nat->FnM
 |0=>fun _ _=>none
 |n+1=>aN 5 (ak (fIf (ay (N7 (N5 al ad) ld)) (az (N6 (ae ii (N4 (N5 al ac))))) aD) (ak (fIf (ay (N7 (N5 al ad) sK)) (az (N6 (ae ii (N4 (N5 cr (N5 al ac)))))) aD) (ak (dO 2 ah) (ak (bw 3 (bc (ar cR (N4 al))) (ak (aG 4 (ar (dw n) (ae dL (N4 cr)))) (ak (fIf (ay (N7 (N5 f8 ad) dl)) (az f8) aD) (fu 2 (N5 f8 ac))))) (az (g7 bh (ae (N5 al ad) (N4 be))))))))
def cW:Nat->FnM
 |0=>fun _ _=>none
 |n+1=>aN 3 (ak (fIf (ay (N7 (N5 al ad) ww)) (az (N6 (ae dl (N4 (N5 al ac))))) aD) (ak (aG 2 (ar (dw 25) (ae (N5 al ac) (N4 cr)))) (ak (fIf (ay (N7 (N5 be ad) dl)) (az be) aD) (ak (fIf (ay (N7 (N5 al ad) wT)) (az (ar (cW n) (ae (bW (ay (af inG (N5 be ac) (N6 (ae ad (ae At (N4 (N6 ah))))))) (N5 al pc) (N5 al bn)) (N4 cr)))) aD) (ak (fIf (ay (N7 (N5 al ad) Ch)) (az (N6 (ae gl (N4 (N5 be ac))))) aD) (ak (fIf (cB (bf (ar jm (N4 (N5 be ac))))) (az (N6 (ae dl (N4 IO)))) aD) (az (N6 (ae (N5 al ad) (ae (N5 be ac) (N4 (N5 al bn))))))))))))
def jo:FnM:=aN 1 (ak (fIf (ay (N7 (N5 al ad) gl)) (az (N6 (ae gl (N4 (ar (dh 25) (N4 (N5 al ac))))))) aD) (ak (fIf (ay (N7 (N5 al ad) dl)) (az al) aD) (az (N6 (ae wv (N4 (N5 al ac)))))))
def ke:FnM:=aN 3 (ak (aG 2 (No (N4 (bH (bc (N5 cr ac)) bF (N6 (ae (N5 al ad) (N4 (ar (dh 25) (N4 (N5 al ac)))))))))) (az (N6 (ae al (ae be (N4 (ar jo (N4 (N5 cr bn)))))))))
def lV:FnM:=aN 3 (ak (c9 1) (ak (bw 2 (bc al) (bL 1 be (ar ke (ae be (N4 (Nk al be)))))) (az cr)))
def km:FnM:=aN 1 (az (N6 (ae (N6 ah) (ae (N6 ah) (N4 (ar (cW 25) (ae al (N4 (N6 ah)))))))))
def dW:FnM:=aN 1 (az (bW (ay (af inD (N5 (N5 al bn) ad) (fC (.tuple [.str "want",.str "peek"])))) (N5 (N5 al bn) ac) wE))
def js:FnM:=aN 5 (ak (aG 2 (N5 al bn)) (ak (aG 3 (N8 (N5 al ad) (N6 (N4 cr)))) (ak (aG 4 (bW (ay (N7 (N5 be ad) u8)) (N8 (N5 al ac) (N6 (N4 (N6 (ae (N5 be ac) (N4 cr)))))) (N5 al ac))) (az (N6 (ae dL (ae f8 (N4 (ar (cW 25) (ae (N5 be bn) (N4 dL)))))))))))
def kz:FnM:=aN 2 (ak (bP (ay (af inA (ar dW (N4 al)) cr)) (aG 0 (ar js (ae al (N4 (Nk cr (ar dW (N4 al))))))) 100000) (az al))
def lU:FnM:=aN 7 (ak (jF 1 (N5 al ad)) (ak (c9 2) (ak (gB 3 4 (N5 al ac) (bL 2 dL (ar km (N4 f8)))) (ak (aG 5 N3) (ak (bP (bf tz) (ak (aG 6 (N9 (N4 cr))) (ak (bw 3 (bc (N5 al ac)) (ak (bL 2 dL (fQ (ar kz (ae (Nk be dL) (N4 cr))))) (fIf (ay (N7 (N5 (N5 (Nk be dL) bn) ad) gl)) (bL 1 dL (N5 (N5 (Nk be dL) bn) ac)) aD))) (aG 5 (af gtD (N9 (N4 cr)) io)))) 100000) (az (N6 (ae cr (N4 be)))))))))
def ko:FnM:=aN 1 (az (ar lV (N4 (N5 (ar lU (N4 al)) ac))))
def iA:FnM:=aN 5 (ak (c9 1) (ak (gB 2 3 (N5 al ad) (bL 1 be (N6 (ae gl (N4 (ar (dh 25) (N4 dL))))))) (ak (gB 2 4 (ar ko (N4 al)) (bL 1 be (N5 f8 bn))) (az cr))))
def gi:FnM:=aN 3 (ak (fIf (dU (ay (af c4 be cr)) (dU (ay (af c4 be al)) (ay (af neD (N5 (Nk cr be) ad) (ar je (N4 (Nk al be))))))) (az wE) aD) (az (N5 (Nk cr be) ac)))
def j7:FnM:=aN 5 (ak (iQ 2 3 (N5 cr ac) (ak (aG 4 (jP al (N5 dL ad) (fC (.tuple [.str "lacks"])))) (fIf (ay (af neG f8 (N6 (ae gl (N4 (N5 dL ac)))))) (az (N6 (ae KK (ae be (ae (N5 dL ad) (ae (N5 dL ac) (N4 f8))))))) aD))) (ak (fIf (bU (ay (N7 (N5 (N5 cr bn) ad) wv)) (ay (N7 (N5 (jP al (N5 (N5 cr bn) ac) (fC (.tuple [.str "lacks"]))) ad) gl))) (az (N6 (ae Cl (ae (N5 (N5 cr bn) ac) (N4 (N5 (Nk al (N5 (N5 cr bn) ac)) ac)))))) aD) (az wE)))
def gS:FnM:=aN 4 (ak (aG 3 (ar gi (ae (N5 al ac) (ae cr (N4 be))))) (az (gC (af eP dL wE) (af isD (ar j7 (ae (ar iA (N4 al)) (N4 dL))) wE))))
def ir:FnM:=aN 5 (ak (fIf (ay (af c4 dL be)) (az (N6 (N4 LE))) aD) (ak (aG 4 (ar gi (ae cr (ae be (N4 dL))))) (az (bW (ay (af isD f8 wE)) (N6 (N4 Db)) (ar j7 (ae al (N4 f8)))))))
def pB:FnM:=aN 3 (ak (fIf (ay (af neD (ar gQ (ae al (N4 be))) gl)) yW aD) (az (ar ir (ae (ar iA (N4 al)) (ae (N5 al ac) (ae cr (N4 be)))))))
def jh:List W->Tp->Option (Nat×Tp):=XO.mkX 3 (XO.jZ (ay (af neD (ar gQ (ae al (N4 be))) gl)) 0)
theorem Af(e:XO.gZ jh g ρ T=some (c,T')):c=0:=by
 unfold XO.gZ jh XO.mkX XO.jZ at e;obtain⟨ws,T1,e1,e⟩:=aM e;split at e
 .obtain⟨b,T2,e2,e⟩:=aM e
  split at e
  .cases e;rfl
  .cases e
 .cases e
def bM:FnM:=lj 2 (ak (fIf (ay (N7 (N9 (N4 al)) ad)) (nQ (ae ad (ae ad (N4 cr)))) aD) (nQ (ae (N5 al (af gD cr (N9 (N4 al)))) (ae ad (N4 cr)))))
def aP:FnM:=aN 4 (ak (lO al ac (N8 (N5 al ac) ac)) (ak (fIf (ay (af geD (N5 al ad) (af fj wn wP))) (ak (aG 2 (af gD (N5 al ad) cr)) (ak (lO al ad (af r6 (N5 al ad) cr)) (az be))) aD) (ak (aG 3 (N8 (N8 (af gD (N5 al ad) (fC (.int 2147483647))) (af eA (fC (.int 40692)) (N5 al ac))) (af eA (fC (.int 7919)) (N5 al bn)))) (ak (aG 3 (af gD (af eA (N8 dL (fC (.int 12345))) (fC (.int 48271))) (fC (.int 2147483647)))) (az (af gD (af gD (af eA (af gD (N8 (af eA dL (fC (.int 69621))) (N5 al ac)) (fC (.int 2147483399))) (fC (.int 16807))) (fC (.int 2147483563))) cr))))))
def ji:FnM:=aN 8 (ak (aG 2 (Nl (ae gl (ae Id (ae Ch (ae u8 (ae dl (ae sK (ae ld (N4 AT)))))))))) (ak (aG 3 pi) (ak (dO 4 ah) (ak (bw 5 (dF cr) (ak (aG 6 (ar aP (ae al (N4 wf)))) (ak (aG 7 (N5 dL (ar aP (ae al (N4 N0))))) (ak (fIf (ay (N7 io ad)) (aG 7 (N5 be (ar aP (ae al (N4 sB))))) aD) (ak (fIf (bU (ay (N7 io ac)) (ay (af gtD (N9 (N4 f8)) ad))) (aG 7 (fSl (N8 (N5 f8 (fUn fW ac)) mt) cQ (fP sB))) aD) (ak (fIf (ay (N7 io bn)) (aG 7 (af eA (N8 mt (N5 dL (ar aP (ae al (N4 N0))))) kt)) aD) (ak (fIf (ay (af inD mt f8)) (aG 7 (N5 (bH (bc dL) (ay (af fJ al tz)) al) ad)) aD) (lP 4 (ar aP (ae al (N4 (N8 (N9 (N4 f8)) ac)))) mt)))))))) (az f8)))))
def f9:FnM:=aN 4 (ak (aG 2 (Nl (ae ad (ae ac (ae At (ae (N6 ah) (ae bn (ae (fC (.str "a")) (ae (N6 (N4 ad)) (ae (N6 (ae ac (N4 At))) (ae (fUn fW xz) (ae (af fj wn wP) (ae (fC (.str "x-0")) (ae (N6 (ae (N6 ah) (N4 (N6 (ae (fC (.str "b")) (N4 pc)))))) (ae (N6 (ae ad (ae ac (N4 bn)))) (N4 (af fh ac (af fj wn wP)))))))))))))))))) (ak (aG 3 (ar aP (ae al (N4 wP)))) (ak (fIf (ay (Nm dL (fC (.int 14)))) (az (N5 be dL)) aD) (ak (fIf (ay (N7 dL (fC (.int 14)))) (az (ar aP (ae al (N4 (af fj wn wP))))) aD) (az (N5 cr (ar aP (ae al (N4 (N9 (N4 cr)))))))))))
def eI:Nat->FnM
 |0=>fun _ _=>none
 |n+1=>aN 3 (ak (aG 1 (bW (bf (fUn (bz .tup) al)) (bH (bc al) bF (ar (eI n) (N4 al))) (Nl ah))) (ak (aG 2 (N8 (fCB intD (N4 (fUn (bz .tup) al))) (af lm (bH (bc cr) bF (N5 al ad)) ad))) (az (N6 (ae be (N4 (N8 ac (fCB jT (N4 (bH (bc cr) bF (N5 al ac)))))))))))
def du:FnM:=aN 4 (ak (cC 1 2 (ar (eI 25) (N4 al))) (ak (fIf (bf (fUn (bz .int) al)) (az (bW (ay (af leD (fCB lT (N4 al)) (af fj wn wP))) (N6 (ae ii (N4 al))) (N6 (ae dl (N4 Fa))))) aD) (ak (aG 3 (af leD (N9 (N4 al)) (bW (bf (fUn (bz .str) al)) (fC (.int 20)) sB))) (az (bW (bU (bf dL) (bU (ay (af leD cr kt)) (ay (af leD be (fC (.int 40)))))) (N6 (ae ii (N4 al))) (N6 (ae dl (N4 Fa))))))))
def cU:Nat->FnM
 |0=>fun _ _=>none
 |n+1=>aN 1 (ak (fIf (bf (fUn (bz .int) al)) (az (fCB fV (N4 al))) aD) (ak (fIf (bf (fUn (bz .str) al)) (az (N8 (fC (.str "'")) al)) aD) (az (N8 (N8 (fC (.str "(")) (af lz (fC (.str ",")) (bH (bc al) bF (ar (cU n) (N4 al))))) (fC (.str ")"))))))
def bD:FnM:=aN 4 (ak (fIf (ay (N7 al IN)) (az (N6 (ae ii (N4 (fCB intD (N4 (af eqG cr be))))))) aD) (ak (fIf (ay (N7 al wS)) (ak (fIf (dU (cB (bf (fUn (bz .tup) cr))) (cB (bf (fUn (bz .int) be)))) (az (N6 (ae dl (N4 pp)))) aD) (az (bW (ay (gY leD ltD ad be (N9 (N4 cr)))) (N6 (ae ii (N4 (N5 cr be)))) (N6 (ae dl (N4 wS)))))) aD) (ak (aG 3 (Nl (ae (fUn (bz .int) cr) (ae (fUn (bz .int) be) (ae (fUn (bz .str) cr) (N4 (fUn (bz .str) be))))))) (ak (fIf (ay (N7 al BT)) (ak (fIf (dU (ay (af neG (fSl dL cQ (fP bn)) (Nl (ae im (N4 im))))) (ay (af neD (N5 dL bn) (N5 dL pc)))) (az (N6 (ae dl (N4 pp)))) aD) (az (ar du (N4 (N8 cr be))))) aD) (ak (fIf (ay (af neG (fSl dL cQ (fP bn)) (Nl (ae N3 (N4 N3))))) (az (N6 (ae dl (N4 pp)))) aD) (az (bW (ay (N7 al N2)) (ar du (N4 (N8 cr be))) (N6 (ae ii (N4 (fCB intD (N4 (Nm cr be)))))))))))))
def cH:Nat->FnM
 |0=>fun _ _=>none
 |n+1=>aN 5 (ak (fIf (ay (N7 (N5 al ad) ld)) (az (N6 (ae ii (N4 (N5 al ac))))) aD) (ak (fIf (ay (N7 (N5 al ad) sK)) (az (N6 (ae ii (N4 (N5 cr (N5 al ac)))))) aD) (ak (dO 2 ah) (ak (bw 3 (bc (bW (ay (N7 (N5 al ad) wp)) (N5 al ac) (fSl al (fP ac) cQ))) (ak (aG 4 (ar (cH n) (ae dL (N4 cr)))) (ak (fIf (ay (N7 (N5 f8 ad) dl)) (az f8) aD) (fu 2 (N5 f8 ac))))) (ak (fIf (ay (N7 (N5 al ad) wp)) (az (ar du (N4 (No (N4 be))))) aD) (ak (fIf (ay (N7 (N5 al ad) Ix)) (az (bW (bf (fUn (bz .int) (N5 be ad))) (N6 (ae dl (N4 pp))) (N6 (ae ii (N4 (N9 (N4 (N5 be ad)))))))) aD) (az (ar bD (ae (N5 al ad) (ae (N5 be ad) (N4 (N5 be ac))))))))))))
def iq:FnM:=aN 1 (ak (fIf (dU (cB (bf (fUn (bz .str) al))) (cB (ay (gY leD leD ac (N9 (N4 al)) sB)))) (az im) aD) (az (fCB j6 (N4 (bH (bc al) bF (af inD al pi))))))
def f6:FnM:=aN 5 (ak (dO 2 ah) (ak (dO 3 ah) (ak (bP (ay (af inD (N5 al ad) (N6 (ae u8 (ae (fC (.str "peek")) (N4 wT)))))) (ak (aG 4 (g7 (cH 25) (ae (N5 al ac) (N4 be)))) (ak (fIf (ay (N7 (N5 f8 ad) dl)) (az (N6 (ae (No (N4 dL)) (N4 f8)))) aD) (fIf (ay (N7 (N5 al ad) wT)) (aG 0 (bW (ay (af inG (N5 f8 ac) (N6 (ae ad (ae At (N4 (N6 ah))))))) (N5 al pc) (N5 al bn))) (fIf (cB (bf (ar iq (N4 (N5 f8 ac))))) (az (N6 (ae (No (N4 dL)) (N4 (N6 (ae dl (N4 IO))))))) (fIf (ay (af c4 (N5 f8 ac) cr)) (az (N6 (ae (No (N4 dL)) (N4 (N6 (ae wv (N4 (N5 f8 ac)))))))) (ak (fu 2 (Nk cr (N5 f8 ac))) (ak (fIf (ay (N7 (N5 al ad) u8)) (fu 3 (N6 (ae (N5 f8 ac) (N4 (ar (cU 25) (N4 (Nk cr (N5 f8 ac)))))))) aD) (aG 0 (N5 al bn))))))))) 100000) (ak (fIf (ay (N7 (N5 al ad) ww)) (az (N6 (ae (No (N4 dL)) (N4 (N6 (ae dl (N4 (N5 al ac)))))))) aD) (ak (aG 4 (g7 (cH 25) (ae (N5 al ac) (N4 be)))) (ak (fIf (ay (N7 (N5 f8 ad) dl)) (az (N6 (ae (No (N4 dL)) (N4 f8)))) aD) (az (N6 (ae (No (N4 dL)) (ae (N6 (ae gl (N4 (ar (cU 25) (N4 (N5 f8 ac)))))) (N4 (N5 f8 ac))))))))))))
def fD:FnM:=aN 5 (ak (jF 1 (N5 al ad)) (ak (aG 2 (fUn fW ac)) (ak (bP (ay (Nm be (N9 (N4 cr)))) (ak (aG 2 (N9 (N4 cr))) (bw 3 (bc (N5 al ac)) (fIf (ay (af c4 dL cr)) (ak (aG 4 (fQ (ar f6 (ae (Nk (N5 al ac) dL) (N4 cr))))) (fIf (ay (N7 (N5 (N5 f8 ac) ad) gl)) (bL 1 dL (N5 f8 bn)) aD)) aD))) 100000) (az cr))))
def eG:Nat->FnM
 |0=>fun _ _=>none
 |n+1=>aN 3 (ak (fIf (ay (N7 (N5 al ad) ld)) (az (N8 (fC (.str "put ")) (ar (cU 25) (N4 (N5 al ac))))) aD) (ak (fIf (ay (N7 (N5 al ad) sK)) (az (N8 (fC (.str "got ")) (fCB fV (N4 (N5 al ac))))) aD) (ak (dO 1 (N4 (N5 al ad))) (ak (aG 2 (fSl al (fP ac) cQ)) (ak (fIf (ay (N7 (N5 al ad) wp)) (ak (fu 1 (fCB fV (N4 (N9 (N4 (N5 al ac)))))) (aG 2 (N5 al ac))) aD) (az (af eX (fC (.str " ")) (N8 cr (bH (bc be) bF (ar (eG n) (N4 al)))))))))))
def df:Nat->FnM
 |0=>fun _ _=>none
 |n+1=>aN 2 (ak (fIf (ay (N7 (N5 al ad) ww)) (az (N8 (fC (.str "fail ")) (N5 al ac))) aD) (ak (aG 1 (Nl (ae (N5 al ad) (N4 (ar (eG 25) (N4 (N5 al ac))))))) (az (af eX (fC (.str " ")) (N8 cr (bH (bc (fSl al (fP bn) cQ)) bF (ar (df n) (N4 al))))))))
def cZ:Nat->FnM
 |0=>fun _ _=>none
 |n+1=>aN 7 (ak (aG 4 (ar aP (ae al (N4 (fC (.int 12)))))) (ak (fIf (bU (ay (Nm f8 kt)) (ay (af gtD cr ad))) (az (N6 (ae sK (N4 (ar aP (ae al (N4 cr))))))) aD) (ak (fIf (dU (ay (N7 dL ad)) (ay (Nm f8 xz))) (az (N6 (ae ld (N4 (ar f9 (ae al (N4 be))))))) aD) (ak (aG 5 (ar (cZ n) (ae al (ae cr (ae be (N4 (af fh dL ac))))))) (ak (fIf (ay (N7 f8 xz)) (az (N6 (ae Ix (N4 tz)))) aD) (ak (aG 6 (ar (cZ n) (ae al (ae cr (ae be (N4 (af fh dL ac))))))) (ak (fIf (ay (N7 f8 sB)) (az (N6 (ae wp (N4 (fSl (N6 (ae tz (N4 io))) cQ (fP (ar aP (ae al (N4 pc))))))))) aD) (az (N6 (ae (N5 (Nl (ae wS (ae N2 (ae BT (ae IN (N4 (fC (.str "less")))))))) (ar aP (ae al (N4 wf)))) (ae tz (N4 io))))))))))))
def jf:FnM:=aN 4 (ak (aG 3 (ar aP (ae al (N4 wn)))) (ak (fIf (ay (Nm dL xz)) (az (N6 (ae ld (N4 (N5 be (ar aP (ae al (N4 (N9 (N4 be)))))))))) aD) (ak (fIf (ay (N7 dL xz)) (az (N6 (ae BT (ae (N6 (ae ld (N4 (N5 be (ar aP (ae al (N4 (N9 (N4 be))))))))) (N4 (N6 (ae ld (N4 At)))))))) aD) (az (ar (cZ 25) (ae al (ae cr (ae be (N4 ac)))))))))
def de:Nat->FnM
 |0=>fun _ _=>none
 |n+1=>aN 10 (ak (aG 6 (ar aP (ae al (N4 sB)))) (ak (fIf (bU (ay (Nm io kt)) (ay (af gtD dL ad))) (ak (aG 7 (bW (bU (bf tz) (ay (N7 (ar aP (ae al (N4 pc))) ad))) (fC (.str "peek")) u8)) (ak (aG 8 (ar jf (ae al (ae cr (N4 be))))) (az (N6 (ae mt (ae N1 (N4 (ar (de n) (ae al (ae (N8 cr ac) (ae be (ae (af fh dL ac) (ae f8 (N4 tz)))))))))))))) aD) (ak (fIf (bU (ay (af inD io (N6 (ae kt (N4 wf))))) (ay (af gtD f8 ad))) (ak (aG 8 (ar (cZ 25) (ae al (ae cr (ae be (N4 ac)))))) (ak (aG 9 (ar (de n) (ae al (ae cr (ae be (ae dL (ae (af fh f8 ac) (N4 tz)))))))) (az (N6 (ae wT (ae N1 (ae (aa 9) (N4 (ar (de n) (ae al (ae cr (ae be (ae dL (ae (af fh f8 ac) (N4 tz))))))))))))))) aD) (ak (fIf (bU (ay (N7 io (fC (.int 6)))) (ay (N7 (ar aP (ae al (N4 bn))) ad))) (az (N6 (ae ww (N4 (N5 be (ar aP (ae al (N4 (N9 (N4 be)))))))))) aD) (az (N6 (ae Ch (N4 (ar (cZ 25) (ae al (ae cr (ae be (N4 ac)))))))))))))
def fB:FnM:=aN 5 (ak (cC 3 4 (N5 (Nl (ae (N6 (ae kt (N4 ac))) (ae (N6 (ae bn (N4 bn))) (ae (N6 (ae ac (N4 ac))) (ae (N6 (ae pc (N4 ac))) (N4 (N6 (ae ad (N4 ac))))))))) (ar aP (ae al (N4 wf))))) (az (ar (de 25) (ae al (ae ad (ae cr (ae dL (ae f8 (N4 be)))))))))
def kj:FnM:=aN 9 (ak (c9 4) (ak (c9 5) (ak (bw 6 (dF (N9 (N4 be))) (jG 7 bM (ae al (N4 (N8 cr io))) (ak (aG 8 (ar aP (ae mt (N4 sB)))) (fIf (ay (Nm N1 bn)) (bL 4 (N5 be io) (ar f9 (ae mt (N4 be)))) (fIf (ay (Nm N1 xz)) (bL 5 (N5 be io) (ar fB (ae mt (ae be (N4 dL))))) aD))))) (az (N6 (ae f8 (N4 tz)))))))
def jg:FnM:=aN 8 (ak (aG 4 (N5 be (ar aP (ae al (N4 (N9 (N4 be))))))) (ak (k6 5 (bH (bc (N5 cr ad)) (ay (af neD al tz)) (N6 (ae al (N4 (Nk (N5 be ad) al)))))) (ak (k6 6 (bH (bc (N5 cr ac)) (ay (af neD al tz)) (N6 (ae al (N4 (Nk (N5 be ac) al)))))) (ak (aG 7 (ar aP (ae al (N4 wf)))) (ak (fIf (ay (Nm mt bn)) (bL 5 f8 (ar f9 (ae al (N4 be)))) (fIf (ay (Nm mt kt)) (bL 6 f8 (ar fB (ae al (ae be (N4 dL))))) aD)) (az (N6 (ae tz (N4 io)))))))))
def ki:FnM:=aN 12 (ak (c9 4) (ak (aG 5 (bH (bc be) bF (ar fD (N4 al)))) (ak (bw 6 (dF (N9 (N4 dL))) (jG 7 bM (ae al (N4 (N8 cr io))) (ak (aG 8 (ar aP (ae mt (N4 (N9 (N4 be)))))) (ak (aG 9 (N5 tz N1)) (ak (fIf (ay (N7 (ar aP (ae mt (N4 kt))) ad)) (ak (c9 9) (bw 10 (bc dL) (fIf (ay (af gtD (ar aP (ae mt (N4 kt))) ad)) (bL 9 (aa 10) (ar f9 (ae mt (N4 dL)))) aD))) aD) (fIf (bU (ay (af inA (N5 dL io) (N5 (N5 be N1) ac))) (ay (af gtD (ar aP (ae mt (N4 wf))) ad))) (ak (aG 11 (Nk (N5 (N5 be N1) ac) (N5 dL io))) (bL 4 (N5 dL io) (fQ (N6 (ae (ar (df 25) (N4 (aa 11))) (N4 (N8 (N6 (N4 (N5 dL io))) (fSl (ar f6 (ae (aa 11) (N4 (aa 9)))) cQ (fP bn))))))))) aD)))))) (az f8))))
def j8:FnM:=aN 6 (ak (aG 2 (b6 ji bM (ae al (N4 ad)) (N4 (N8 pc (b6 aP bM (ae al (N4 ac)) (N4 wf)))))) (ak (aG 3 (ar kj (ae al (ae pc (ae be (N4 cr)))))) (ak (aG 4 (Nl (N4 dL))) (ak (bw 5 (dF (N8 ac (b6 aP bM (ae al (N4 wn)) (N4 kt)))) (aG 3 (b6 jg bM (ae al (N4 (N8 (fC (.int 11)) tz))) (ae dL (ae be (N4 cr)))))) (az (N6 (ae be (ae dL (N4 (ar ki (ae al (ae (fC (.int 16)) (ae (N8 f8 (Nl (N4 dL))) (N4 be))))))))))))))
def gj:FnM:=aN 3 (ak (fIf (ay (af inA be cr)) (az (N6 (ae gl (N4 (ar (cU 25) (N4 (Nk cr be))))))) aD) (az (bW (ay (af inA be (N5 al ac))) (N5 (ar f6 (ae (Nk (N5 al ac) be) (N4 cr))) ac) (N6 (N4 AT)))))
def gL:FnM:=aN 8 (ak (fIf (ay (af c4 dL be)) (az (N6 (N4 LE))) aD) (ak (fIf (ay (af neD (N5 (Nk be dL) ad) (ar (df 25) (N4 (Nk (N5 al ac) dL))))) (az (N6 (N4 Db))) aD) (ak (aG 4 (N5 (Nk be dL) ac)) (ak (bw 5 (dF (N9 (N4 (N5 f8 ac)))) (ak (cC 6 7 (N5 (N5 f8 ac) tz)) (fIf (ay (af neG (ar gj (ae al (ae cr (N4 io)))) (N6 (ae gl (N4 mt))))) (az (N6 (ae KK (ae tz (ae io (ae mt (N4 (ar gj (ae al (ae cr (N4 io))))))))))) aD))) (ak (fIf (bU (ay (N7 (N5 (N5 f8 bn) ad) wv)) (ay (af inA (N5 (N5 f8 bn) ac) cr))) (az (N6 (ae Cl (ae (N5 (N5 f8 bn) ac) (N4 (ar (cU 25) (N4 (Nk cr (N5 (N5 f8 bn) ac))))))))) aD) (az wE))))))
def gb:FnM:=aN 4 (ak (aG 3 (N6 (N4 zn))) (ak (XO.lI (aG 3 (ar pB (ae al (ae cr (N4 be))))) (XO.gZ jh (ae al (ae cr (N4 be)))) (aG 3 (N6 (N4 zn)))) (az dL)))
def oB:FnM:=aN 8 (ak (oH 1 2 3 (ar j8 (ae al (N4 (N7 (b6 aP bM (ae al (N4 bn)) (N4 pc)) ad))))) (ak (aG 4 (ar fD (N4 be))) (ak (aG 5 (N6 (ae (N6 (ae (hU (N5 be ad)) (N4 (hU (N5 be ac))))) (N4 (hU dL))))) (ak (bw 6 (bc (N8 cr (Nl (N4 (fC (.str "zzzz")))))) (ak (aG 7 (ar gb (ae (N5 tz ad) (ae (N5 tz ac) (N4 io))))) (fIf (ay (af c4 io (N5 be ac))) (fIf (ay (af neG mt (N6 (N4 zn)))) (az im) aD) (fIf (ay (af neG mt (ar gL (ae be (ae f8 (ae dL (N4 io))))))) (az im) (fIf (ay (af neD (af isD mt wE) (ar gS (ae be (ae dL (N4 io)))))) (az im) (fIf (bU (ay (af eP mt wE)) (cB (bf (fUn (bz .tup) mt)))) (az im) aD)))))) (az (af eqQ tz (N6 (ae be (N4 dL)))))))))
def sQ(n:Nat):FS:=(ig 1 (ar (eJ n) (N4 be)))
theorem z5(n:Nat):eJ (n+1)=aN 3 (ak (gA 1 (Nl (N4 (N5 al ad))) (ar gK (N4 al))) (ak (bw 2 (bc (ar cR (N4 al))) (sQ n)) (az cr))):=rfl
def sN(n:Nat):FS:=(ig 1 (ar (fZ n) (N4 be)))
theorem zW(n:Nat):fZ (n+1)=aN 3 (ak (fIf (ay (N7 (N5 al ad) ww)) (az (Nl (ae (N5 al ad) (N4 (N5 al ac))))) aD) (ak (gA 1 (Nl (N4 (N5 al ad))) (ar (eJ 25) (N4 (N5 al ac)))) (ak (bw 2 (bc (fSl al (fP bn) cQ)) (sN n)) (az cr)))):=rfl
def pA:FS:=(bL 1 be (N6 (ae gl (N4 (ar (dh 25) (N4 dL))))))
def pq:FS:=(bL 1 be (N5 f8 bn))
theorem Ah:iA=aN 5 (ak (c9 1) (ak (gB 2 3 (N5 al ad) pA) (ak (gB 2 4 (ar ko (N4 al)) pq) (az cr)))):=rfl
def pN:FS:=(ak (aG 6 (ar aP (ae al (N4 wf)))) (ak (aG 7 (N5 dL (ar aP (ae al (N4 N0))))) (ak (fIf (ay (N7 io ad)) (aG 7 (N5 be (ar aP (ae al (N4 sB))))) aD) (ak (fIf (bU (ay (N7 io ac)) (ay (af gtD (N9 (N4 f8)) ad))) (aG 7 (fSl (N8 (N5 f8 (fUn fW ac)) mt) cQ (fP sB))) aD) (ak (fIf (ay (N7 io bn)) (aG 7 (af eA (N8 mt (N5 dL (ar aP (ae al (N4 N0))))) kt)) aD) (ak (fIf (ay (af inD mt f8)) (aG 7 (N5 (bH (bc dL) (ay (af fJ al tz)) al) ad)) aD) (lP 4 (ar aP (ae al (N4 (N8 (N9 (N4 f8)) ac)))) mt)))))))
theorem Ba:ji=aN 8 (ak (aG 2 (Nl (ae gl (ae Id (ae Ch (ae u8 (ae dl (ae sK (ae ld (N4 AT)))))))))) (ak (aG 3 pi) (ak (dO 4 ah) (ak (bw 5 (dF cr) pN) (az f8))))):=rfl
def gO:FS:=(ak (aG 4 (g7 (cH 25) (ae (N5 al ac) (N4 be)))) (ak (fIf (ay (N7 (N5 f8 ad) dl)) (az (N6 (ae (No (N4 dL)) (N4 f8)))) aD) (fIf (ay (N7 (N5 al ad) wT)) (aG 0 (bW (ay (af inG (N5 f8 ac) (N6 (ae ad (ae At (N4 (N6 ah))))))) (N5 al pc) (N5 al bn))) (fIf (cB (bf (ar iq (N4 (N5 f8 ac))))) (az (N6 (ae (No (N4 dL)) (N4 (N6 (ae dl (N4 IO))))))) (fIf (ay (af c4 (N5 f8 ac) cr)) (az (N6 (ae (No (N4 dL)) (N4 (N6 (ae wv (N4 (N5 f8 ac)))))))) (ak (fu 2 (Nk cr (N5 f8 ac))) (ak (fIf (ay (N7 (N5 al ad) u8)) (fu 3 (N6 (ae (N5 f8 ac) (N4 (ar (cU 25) (N4 (Nk cr (N5 f8 ac)))))))) aD) (aG 0 (N5 al bn)))))))))
def dZ:FS:=(fIf (ay (af c4 dL cr)) (ak (aG 4 (fQ (ar f6 (ae (Nk (N5 al ac) dL) (N4 cr))))) (fIf (ay (N7 (N5 (N5 f8 ac) ad) gl)) (bL 1 dL (N5 f8 bn)) aD)) aD)
def mx:FS:=(ak (aG 2 (N9 (N4 cr))) (bw 3 (bc (N5 al ac)) dZ))
theorem BN:fD=aN 5 (ak (jF 1 (N5 al ad)) (ak (aG 2 (fUn fW ac)) (ak (bP (ay (Nm be (N9 (N4 cr)))) mx 100000) (az cr)))):=rfl
def jn:FS:=(ak (aG 8 (ar aP (ae mt (N4 sB)))) (fIf (ay (Nm N1 bn)) (bL 4 (N5 be io) (ar f9 (ae mt (N4 be)))) (fIf (ay (Nm N1 xz)) (bL 5 (N5 be io) (ar fB (ae mt (ae be (N4 dL))))) aD)))
def pW:FS:=(jG 7 bM (ae al (N4 (N8 cr io))) jn)
theorem BO:kj=aN 9 (ak (c9 4) (ak (c9 5) (ak (bw 6 (dF (N9 (N4 be))) pW) (az (N6 (ae f8 (N4 tz))))))):=rfl
def kE:FS:=(fIf (ay (af gtD (ar aP (ae mt (N4 kt))) ad)) (bL 9 (aa 10) (ar f9 (ae mt (N4 dL)))) aD)
def kB:FS:=(ak (aG 8 (ar aP (ae mt (N4 (N9 (N4 be)))))) (ak (aG 9 (N5 tz N1)) (ak (fIf (ay (N7 (ar aP (ae mt (N4 kt))) ad)) (ak (c9 9) (bw 10 (bc dL) kE)) aD) (fIf (bU (ay (af inA (N5 dL io) (N5 (N5 be N1) ac))) (ay (af gtD (ar aP (ae mt (N4 wf))) ad))) (ak (aG 11 (Nk (N5 (N5 be N1) ac) (N5 dL io))) (bL 4 (N5 dL io) (fQ (N6 (ae (ar (df 25) (N4 (aa 11))) (N4 (N8 (N6 (N4 (N5 dL io))) (fSl (ar f6 (ae (aa 11) (N4 (aa 9)))) cQ (fP bn))))))))) aD))))
def pV:FS:=(jG 7 bM (ae al (N4 (N8 cr io))) kB)
theorem BM:ki=aN 12 (ak (c9 4) (ak (aG 5 (bH (bc be) bF (ar fD (N4 al)))) (ak (bw 6 (dF (N9 (N4 dL))) pV) (az f8)))):=rfl
def l0:FS:=(aG 3 (b6 jg bM (ae al (N4 (N8 (fC (.int 11)) tz))) (ae dL (ae be (N4 cr)))))
theorem A9:j8=aN 6 (ak (aG 2 (b6 ji bM (ae al (N4 ad)) (N4 (N8 pc (b6 aP bM (ae al (N4 ac)) (N4 wf)))))) (ak (aG 3 (ar kj (ae al (ae pc (ae be (N4 cr)))))) (ak (aG 4 (Nl (N4 dL))) (ak (bw 5 (dF (N8 ac (b6 aP bM (ae al (N4 wn)) (N4 kt)))) l0) (az (N6 (ae be (ae dL (N4 (ar ki (ae al (ae (fC (.int 16)) (ae (N8 f8 (Nl (N4 dL))) (N4 be)))))))))))))):=rfl
def gh:FS:=(ak (cC 6 7 (N5 (N5 f8 ac) tz)) (fIf (ay (af neG (ar gj (ae al (ae cr (N4 io)))) (N6 (ae gl (N4 mt))))) (az (N6 (ae KK (ae tz (ae io (ae mt (N4 (ar gj (ae al (ae cr (N4 io))))))))))) aD))
theorem AI:gL=aN 8 (ak (fIf (ay (af c4 dL be)) (az (N6 (N4 LE))) aD) (ak (fIf (ay (af neD (N5 (Nk be dL) ad) (ar (df 25) (N4 (Nk (N5 al ac) dL))))) (az (N6 (N4 Db))) aD) (ak (aG 4 (N5 (Nk be dL) ac)) (ak (bw 5 (dF (N9 (N4 (N5 f8 ac)))) gh) (ak (fIf (bU (ay (N7 (N5 (N5 f8 bn) ad) wv)) (ay (af inA (N5 (N5 f8 bn) ac) cr))) (az (N6 (ae Cl (ae (N5 (N5 f8 bn) ac) (N4 (ar (cU 25) (N4 (Nk cr (N5 (N5 f8 bn) ac))))))))) aD) (az wE)))))):=rfl
def jp:FS:=(ak (aG 7 (ar gb (ae (N5 tz ad) (ae (N5 tz ac) (N4 io))))) (fIf (ay (af c4 io (N5 be ac))) (fIf (ay (af neG mt (N6 (N4 zn)))) (az im) aD) (fIf (ay (af neG mt (ar gL (ae be (ae f8 (ae dL (N4 io))))))) (az im) (fIf (ay (af neD (af isD mt wE) (ar gS (ae be (ae dL (N4 io)))))) (az im) (fIf (bU (ay (af eP mt wE)) (cB (bf (fUn (bz .tup) mt)))) (az im) aD)))))
theorem CN:oB=aN 8 (ak (oH 1 2 3 (ar j8 (ae al (N4 (N7 (b6 aP bM (ae al (N4 bn)) (N4 pc)) ad))))) (ak (aG 4 (ar fD (N4 be))) (ak (aG 5 (N6 (ae (N6 (ae (hU (N5 be ad)) (N4 (hU (N5 be ac))))) (N4 (hU dL))))) (ak (bw 6 (bc (N8 cr (Nl (N4 (fC (.str "zzzz")))))) jp) (az (af eqQ tz (N6 (ae be (N4 dL))))))))):=rfl
end G
namespace K1
open PySem
structure Sh(d:PyData)(k n:Nat):Prop where
 sh:d.showable=true
 lv:d.leavesShort 200=true
 dp:d.depth<=k
 wt:d.weight<=n
theorem Sh.mono(h:Sh d k n)(hk:k<=k')(hn:n<=n'):Sh d k' n':=⟨h.sh,h.lv,Nat.le_trans h.dp hk,Nat.le_trans h.wt hn⟩
theorem Sh.int(h:i.natAbs<10^40):Sh (.int i) 0 200:=by
 have l:i.natAbs.log2<150:=by
  by_cases h0:i.natAbs=0
  .rw[h0];decide
  .exact(Nat.log2_lt h0).mpr (Nat.lt_trans h (by decide))
 refine⟨?_,?_,Nat.le_refl _,?_⟩
 .show decide (i.natAbs.log2<1920)=true
  exact decide_eq_true (by omega)
 .show decide ((PyData.shown (.int i)).length<=200)=true
  refine decide_eq_true ?_;have e:=int_text_length_le10 (k:=40) (by decide) h;show (Str.ofString (toString i)).length<=200;rw[ofString_length];omega
 .show (if i == 0 then 0 else i.natAbs.log2+1)<=200
  split <;> omega
theorem Sh.str(h:∀c∈x.cps.toList,c<128)(hn:x.length<=n):Sh (.str x) 0 n:=by
 refine⟨rfl,?_,Nat.le_refl _,hn⟩;show (x.cps.toList.all fun c=>decide (c<16^8))=true;exact List.all_eq_true.mpr fun c hc=>decide_eq_true (Nat.lt_trans (h c hc) (by decide))
structure Shs(ds:List PyData)(k n:Nat):Prop where
 sh:PyData.showableAll ds=true
 lv:PyData.leavesShortAll 200 ds=true
 dp:PyData.depthAll ds<=k
 wt:PyData.weightAll ds<=n
theorem Shs.nil(k n:Nat):Shs [] k n:=⟨rfl,rfl,Nat.zero_le _,Nat.zero_le _⟩
theorem Shs.cons(h:Sh d k n)(t:Shs ds k m):Shs (d::ds) k (n+1+m):=by
 refine⟨?_,?_,?_,?_⟩
 .show (d.showable&&PyData.showableAll ds)=true
  rw[h.sh,t.sh];rfl
 .show (d.leavesShort 200&&PyData.leavesShortAll 200 ds)=true
  rw[h.lv,t.lv];rfl
 .show max d.depth (PyData.depthAll ds)<=k
  exact Nat.max_le.mpr ⟨h.dp,t.dp⟩
 .show d.weight+1+PyData.weightAll ds<=n+1+m
  have:=h.wt;have:=t.wt;omega
theorem Shs.of:∀{ds:List PyData}{k:Nat}{f:PyData->Nat},(∀d∈ds,Sh d k (f d))->Shs ds k ((ds.map fun d=>f d+1).sum)
 |[],k,f,_=>Shs.nil _ _
 |d::r,k,f,h=>by
  have q:=Shs.of (ds:=r) (f:=f) fun x hx=>h x (List.mem_cons_of_mem _ hx);have z:=Shs.cons (h d List.mem_cons_self) q;simpa using z
theorem Sh.tuple(h:Shs ds k n):Sh (.tuple ds) (k+1) n:=⟨h.sh,h.lv,Nat.succ_le_succ h.dp,h.wt⟩
theorem iO(hs:∀c∈s.cps.toList,c<128)(h:has s x=true):∀c∈x.cps.toList,c<128:=fun c hc=>
 hs c (of_decide_eq_true (List.all_eq_true.mp h c hc))
theorem jH:∀c∈TXT.cps.toList,c<128:=by decide +kernel
theorem HG:∀c∈LET.cps.toList,c<128:=by decide +kernel
theorem rf:∀(n:Nat) (d:PyData),aO n d=true->Sh d n (201*(aL n d).toNat)/\1<=aL n d
 |0,d,h=>by
  cases d with
  |int i=>
   have h':=of_decide_eq_true (p:=(if i<0 then -i else i)<=10^18) h;refine⟨(Sh.int ?_).mono (Nat.le_refl _) (by show 200<=201*(1:Int).toNat;decide),Int.le_refl 1⟩
   have:i.natAbs<=10^18:=by split at h' <;> omega
   exact Nat.lt_of_le_of_lt this (by decide)
  |str x=>
   have h':(decide (x.length<=20)&&has TXT x)=true:=h;rw[Bool.and_eq_true] at h';have:=of_decide_eq_true h'.1;exact⟨(Sh.str (n:=20) (iO jH h'.2) this).mono (Nat.le_refl _) (by show 20<=201*(1:Int).toNat;decide),Int.le_refl 1⟩
  |_=>cases h
 |n+1,d,h=>by
  cases d with
  |int i=>
   have h':=of_decide_eq_true (p:=(if i<0 then -i else i)<=10^18) h;refine⟨(Sh.int ?_).mono (Nat.zero_le _) (by show 200<=201*(1:Int).toNat;decide),Int.le_refl 1⟩
   have:i.natAbs<=10^18:=by split at h' <;> omega
   exact Nat.lt_of_le_of_lt this (by decide)
  |str x=>
   have h':(decide (x.length<=20)&&has TXT x)=true:=h;rw[Bool.and_eq_true] at h';have:=of_decide_eq_true h'.1;exact⟨(Sh.str (n:=20) (iO jH h'.2) this).mono (Nat.zero_le _) (by show 20<=201*(1:Int).toNat;decide),Int.le_refl 1⟩
  |tuple ds=>
   have h':(decide (ds.length<=8)&&ds.all (aO n))=true:=h;rw[Bool.and_eq_true] at h';have ha:=List.all_eq_true.mp h'.2;have q:=Shs.of (ds:=ds) (k:=n) (f:=fun x=>201*(aL n x).toNat) fun x hx=>(rf n x (ha x hx)).1
   have key:∀l:List PyData,(∀x∈l,1<=aL n x)->0<=(l.map (aL n)).sum/\(l.map fun x=>201*(aL n x).toNat+1).sum<=201*((l.map (aL n)).sum).toNat+l.length:=by
    intro l
    induction l with
    |nil=>intro _;exact⟨by simp,by simp⟩
    |cons x r ih=>
     intro hx;have h1:=hx x List.mem_cons_self;have h2:=ih fun y hy=>hx y (List.mem_cons_of_mem _ hy);simp only[List.map_cons,List.sum_cons,List.length_cons];omega
   have kk:=key ds fun x hx=>(rf n x (ha x hx)).2;have hl:=of_decide_eq_true h'.1;have e:aL (n+1) (.tuple ds)=1+(ds.map (aL n)).sum:=rfl;refine⟨(Sh.tuple q).mono (Nat.le_refl _) ?_,?_⟩
   .rw[e];omega
   .rw[e];omega
  |_=>cases h
end K1
namespace K1
open PySem
def Good(d:PyData):Prop:=Sh d 60 60000
end K1
namespace G
open PySem PySem.Spec PyProof.Rows L2 D
open K1 (has LET TXT single aO aL lsz isName aF tdp aY ldp)
mutual
def smB:PyData->Bool
 |.str x=>decide (x.length<=60000)&&x.cps.toList.all fun c=>decide (c<128)
 |.tuple ds=>hW ds
 |_=>true
def hW:List PyData->Bool
 |[]=>true
 |d::r=>smB d&&hW r
end
def Sm(d:PyData):Prop:=smB d=true
theorem Sm.both(h:Sm (.str x)):x.length<=60000/\∀c∈x.cps.toList,c<128:=by
 have h':(decide (x.length<=60000)&&x.cps.toList.all fun c=>decide (c<128))=true:=by
  have:smB (.str x)=true:=h;rw[smB] at this;exact this
 rw[Bool.and_eq_true,List.all_eq_true] at h';exact⟨of_decide_eq_true h'.1,fun c hc=>of_decide_eq_true (h'.2 c hc)⟩
theorem Sm.str(h:Sm (.str x)):x.cps.size<=60000:=h.both.1
theorem Sm.mkS(h:x.length<=60000)(h2:∀c∈x.cps.toList,c<128):Sm (.str x):=by
 show smB (.str x)=true;rw[smB,Bool.and_eq_true,List.all_eq_true];exact⟨decide_eq_true h,fun c hc=>decide_eq_true (h2 c hc)⟩
theorem uQ:∀{ds:List PyData}{d:PyData},hW ds=true->d∈ds->smB d=true
 |e::r,d,h,hd=>by
  have h':(smB e&&hW r)=true:=by simpa[hW] using h
  rw[Bool.and_eq_true] at h'
  rcases List.mem_cons.mp hd with z|z
  .rw[z];exact h'.1
  .exact uQ h'.2 z
theorem Sm.part(h:Sm (.tuple ds))(hd:d∈ds):Sm d:=uQ (by simpa[Sm,smB] using h) hd
theorem vL:∀{ds:List PyData},(∀d∈ds,Sm d)->hW ds=true
 |[],_=>by simp[hW]
 |d::r,h=>by
  have h1:smB d=true:=h d List.mem_cons_self;simp[hW,h1,vL (ds:=r) fun x hx=>h x (List.mem_cons_of_mem _ hx)]
theorem Sm.tup(h:∀d∈ds,Sm d):Sm (.tuple ds):=by simp[Sm,smB,vL h]
def whole:PyData->Bool
 |.int _=>true
 |_=>false
theorem jv(x:PyData)(T:Tp):eM [.d x] T=some (.bool (whole x),T):=by cases x <;> rfl
theorem uk(y x:Str):(D.signs x).all (kX y)=has y x:=by
 unfold D.signs has;rw[List.all_map]
 congr 1
 funext c;exact C4 y c
theorem ze(T:Tp)(h:x.length<=sizeLine):iz [.d (.str x),.d (.str y)] T=some (.bool (has y x),T):=by
 have hc:bC bF (af inD (aa 0) (aa 2)) [some (.d (.str x)),some (.d (.str y))] (D.signs x) T=some ((D.signs x).map fun d=>.bool (kX y d),T):=eO fun d hd=>by
  obtain⟨c,_,rfl⟩:=uj hd;rfl
 simp[iz,h,hc,uk]
theorem DH(T:Tp)(h:Sm d):kg [.d d] T=some (.bool (single d),T):=by
 cases d with
 |str x=>
  have hz:x.length<=sizeLine:=Nat.le_trans h.str (by decide);have hh:∀T,iz [.d (.str x),.d (.str "abcdefghijklmnopqrstuvwxyz0123456789-")] T=some (.bool (has TXT x),T):=fun T=>ze T hz;have e:single (.str x)=(decide (x.length<=20)&&has TXT x):=rfl;have hi:b9 .str .str=true:=rfl
  by_cases hk:x.length<=20
  .have hk':(x.length:Int)<=20:=by omega
   simp[kg,jv,whole,hh,hz,hi,e,hk,hk']
  .have hk':¬(x.length:Int)<=20:=by omega
   simp[kg,jv,whole,hh,hz,hi,e,hk,hk']
 |_=>rfl
theorem nK(h:kd d=.tup):∃ds,d=.tuple ds:=by cases d <;> first|exact⟨_,rfl⟩|cases h
theorem v6(h:kd d≠.tup):b9 (kd d) .tup=false:=by
 revert h
 cases kd d <;> simp[b9]
theorem tu(h:kd d≠.tup):aO n d=single d:=by cases d <;> first|(cases n <;> rfl)|exact absurd rfl h
theorem tL(h:kd d≠.tup):aL n d=1:=by cases d <;> first|(cases n <;> rfl)|exact absurd rfl h
theorem Ji(h:tdp 0 d=true):kd d≠.tup:=by
 intro z
 cases d <;> first|cases h;done|cases z
theorem nL:b9 .tup .tup=true:=rfl
theorem xo:∀(n k:Nat) (d:PyData) (T:Tp),Sm d->n<k->fE k [.d d,.d (.int n)] T=some (.bool (aO n d),T)
 |n,0,d,T,_,hk=>absurd hk (Nat.not_lt_zero _)
 |n,k+1,d,T,hg,hk=>by
  by_cases ht:kd d=.tup
  .obtain⟨ds,rfl⟩:=nK ht
   cases n with
   |zero=>simp[fE,nL,aO]
   |succ n=>
    have e:aO (n+1) (.tuple ds)=(decide (ds.length<=8)&&ds.all (aO n)):=rfl
    have h0:¬((n+1:Nat):Int)=0:=by omega
    have h0':¬(n:Int)+1=0:=by omega
    by_cases h8:ds.length<=8
    .have h8':¬(8:Int)<(ds.length:Int):=by omega
     have hs:((n+1:Nat):Int)-1=(n:Int):=by omega
     have hc:bC bF (ar (fE k) (ae (aa 0) (ae (af fh (aa 2) (fC (.int 1))) ah))) [some (.d (.tuple ds)),some (.d (.int ((n+1:Nat):Int)))] ds T=some (ds.map fun x=>.bool (aO n x),T):=eO fun x hx=>by
      have:=xo n k x T (hg.part hx) (by omega);simp[hs,this]
     simp[fE,nL,e,h0,h0',h8,h8'] at hc ⊢;simp[hc]
    .have h8':(8:Int)<(ds.length:Int):=by omega
     simp[fE,nL,e,h0,h0',h8,h8']
  .simp[fE,v6 ht,tu ht,DH T hg]
theorem yr:∀(n k:Nat) (d:PyData) (T:Tp),tdp n d=true->n<k->iB k [.d d] T=some (.int (aL n d),T)
 |n,0,d,T,_,hk=>absurd hk (Nat.not_lt_zero _)
 |n,k+1,d,T,hg,hk=>by
  by_cases ht:kd d=.tup
  .cases n with
   |zero=>exact absurd ht (Ji hg)
   |succ n=>
    obtain⟨ds,rfl⟩:=nK ht;have hg':ds.all (tdp n)=true:=hg;have e:aL (n+1) (.tuple ds)=1+(ds.map (aL n)).sum:=rfl
    have hc:bC bF (ar (iB k) (ae (aa 0) ah)) [some (.d (.tuple ds))] ds T=some (ds.map fun x=>.int (aL n x),T):=eO fun x hx=>by
     have:=yr n k x T (List.all_eq_true.mp hg' x hx) (by omega);simp[this]
    simp[iB,nL,e,hc]
  .simp[iB,v6 ht,tL ht]
theorem Ft(T:Tp)(h:Sm d):kq [.d d] T=some (.bool (aF d),T):=by
 have h1:=xo 4 25 d T h (by decide);have h1':fE 25 [.d d,.d (.int 4)] T=some (.bool (aO 4 d),T):=h1;have e:aF d=(aO 4 d&&decide (aL 4 d<=40)):=rfl
 cases hb:aO 4 d with
 |false=>simp[kq,h1',e,hb]
 |true=>
  have h2:=yr 4 25 d T (K1.uG 4 d hb) (by decide);simp[kq,h1',h2,e,hb]
end G
namespace D
open PySem PySem.Spec PyProof.Rows L2
def cd(x:Str):List Nat:=x.cps.toList
theorem g9(h:cd x=cd y):x=y:=by
 obtain⟨x⟩:=x;obtain⟨y⟩:=y;have h':x.toList=y.toList:=h;exact congrArg Str.mk (Array.toList_inj.mp h')
theorem fN(x:Str):(cd x).length=x.length:=Array.length_toList
theorem iS(x y:Str):cd (x++y)=cd x++cd y:=cps_toList_append x y
theorem uo{α:Type}(xs:List α)(a:Nat):∀k:Nat,(List.range k).filterMap (fun m=>xs[a+m]?)=(xs.drop a).take k
 |0=>by simp
 |k+1=>by
  rw[List.range_succ,List.filterMap_append,uo xs a k,List.take_add_one]
  congr 1
  simp only[List.filterMap_cons,List.filterMap_nil,List.getElem?_drop]
  cases xs[a+k]? <;> rfl
theorem uR(h0:0<=i)(h1:0<=j):cd (Txt.slice x (some i) (some j))=((cd x).drop i.toNat).take (j.toNat-i.toNat):=by
 have hl:x.cps.toList.length=x.length:=Array.length_toList
 have e:Builtin.Str.strSliceIndices (some i) (some j) 1 x.length=(List.range ((min j.toNat x.length)-(min i.toNat x.length))).map fun k=>min i.toNat x.length+k:=by
  unfold Builtin.Str.strSliceIndices sliceRange;simp only[show (1:Int)>0 by decide,if_true,show ¬i<0 by omega,show ¬j<0 by omega,if_false]
  have ea:max 0 (min i (x.length:Int))=((min i.toNat x.length:Nat):Int):=by omega
  have eb:max 0 (min j (x.length:Int))=((min j.toNat x.length:Nat):Int):=by omega
  rw[ea,eb]
  have ec:(if ((min i.toNat x.length:Nat):Int)<((min j.toNat x.length:Nat):Int) then (((min j.toNat x.length:Nat):Int)-((min i.toNat x.length:Nat):Int)+1-1) / 1 else 0).toNat=(min j.toNat x.length)-(min i.toNat x.length):=by
   split
   .rw[Int.ediv_one];omega
   .omega
  rw[ec];refine List.map_congr_left fun k _=>?_;omega
 have pk:(Builtin.Str.strSliceIndices (some i) (some j) 1 x.length).filterMap (x.cps[·]?)=(x.cps.toList.drop (min i.toNat x.length)).take ((min j.toNat x.length)-(min i.toNat x.length)):=by
  rw[e,List.filterMap_map,←uo]
  congr 1
  funext m;simp
 have fin:(x.cps.toList.drop (min i.toNat x.length)).take ((min j.toNat x.length)-(min i.toNat x.length))=((cd x).drop i.toNat).take (j.toNat-i.toNat):=by
  unfold cd
  by_cases hi:i.toNat<=x.length
  .have e1:min i.toNat x.length=i.toNat:=by omega
   rw[e1]
   by_cases hj:j.toNat<=x.length
   .have e2:min j.toNat x.length=j.toNat:=by omega
    rw[e2]
   .have e2:min j.toNat x.length=x.length:=by omega
    rw[e2,List.take_of_length_le (by rw[List.length_drop,hl];omega),List.take_of_length_le (by rw[List.length_drop,hl];omega)]
  .have e1:min i.toNat x.length=x.length:=by omega
   rw[e1,List.drop_eq_nil_of_le (by omega),List.drop_eq_nil_of_le (by omega)];simp
 unfold Txt.slice;split
 .rename_i h
  have h':(Builtin.Str.strSliceIndices (some i) (some j) 1 x.length).length=x.length:=by simpa using h
  rw[e,List.length_map,List.length_range] at h';rw[←fin];show x.cps.toList=_
  by_cases hz:x.length=0
  .have:x.cps.toList=[]:=List.length_eq_zero_iff.mp (by omega)
   rw[this];simp
  .have e1:min i.toNat x.length=0:=by omega
   have e2:min j.toNat x.length=x.length:=by omega
   rw[e1,e2,List.drop_zero,Nat.sub_zero,List.take_of_length_le (by omega)]
 .rw[←fin,←pk]
  rfl
def bq(c:List Nat):List (List Nat)->List Nat
 |[]=>[]
 |[x]=>x
 |x::y::r=>x++c++bq c (y::r)
theorem qH(z:Str):∀ys:List Str,cd (Str.join z ys)=bq (cd z) (ys.map cd)
 |[]=>rfl
 |[x]=>by
  show cd (Str.join z [x])=cd x;simp[Str.join]
 |x::y::r=>by
  have ih:=qH z (y::r);show cd ((x++z)++Str.join z (y::r))=_;rw[iS,iS,ih];rfl
theorem kl(c x:List Nat)(r:List (List Nat)):bq c (x::r)=x++(r.map (c++·)).flatten:=by
 induction r generalizing x with
 |nil=>simp[bq]
 |cons y r ih=>
  show x++c++bq c (y::r)=_;rw[ih y];simp
end D
namespace G
open PySem PySem.Spec PyProof.Rows L2 D
open K1 (has LET TXT single aO aL lsz isName aF tdp aY ldp)
def mk(l:List Nat):Str:=⟨l.toArray⟩
theorem dR(l:List Nat):cd (mk l)=l:=by simp[cd,mk]
theorem yO(x:Str):mk (cd x)=x:=g9 (dR _)
theorem di(l:List Nat):(mk l).length=l.length:=by simp[mk,Str.length]
def dg(m:Nat):List Nat:=(Nat.toDigits 10 m).map Char.toNat
theorem yX(m:Nat):NumText.AllDigits (dg m):=fun c hc=>by
 obtain⟨ch,hch,e⟩:=List.mem_map.mp hc;rw[←e];exact digit_range (Nat.isDigit_of_mem_toDigits (by decide) (by decide) hch)
theorem yk(h:m<=10^18):(dg m).length<=19:=by
 unfold dg;rw[List.length_map];exact toDigits_len_pow (by decide) (by decide) (Nat.lt_of_le_of_lt h (by decide))
def nc:Int->List Nat
 |.ofNat m=>dg m
 |.negSucc m=>45::dg (m+1)
theorem Iu(i:Int):cd (Str.ofString (toString i))=nc i:=by
 cases i with
 |ofNat m=>exact W.KIN.signs_num m
 |negSucc m=>
  have e:toString (Int.negSucc m)="-"++toString (m+1):=rfl;unfold cd;rw[e,signs_ofString];show ("-"++Nat.repr (m+1)).toList.map Char.toNat=_;rw[String.toList_append,List.map_append,Nat.toList_repr];rfl
theorem v8(i:Int):∀c∈nc i,c=45\/(48<=c/\c<=57):=by
 cases i with
 |ofNat m=>exact fun c hc=>.inr (yX m c hc)
 |negSucc m=>
  intro c hc
  rcases List.mem_cons.mp hc with h|h
  .exact .inl h
  .exact .inr (yX _ c h)
theorem pJ(h:single (.int i)=true):i.natAbs<=10^18:=by
 have h':(if i<0 then -i else i)<=10^18:=of_decide_eq_true h
 have e:((10:Int)^18)=1000000000000000000:=by decide
 have e2:((10:Nat)^18)=1000000000000000000:=by decide
 rw[e] at h';rw[e2]
 split at h' <;> omega
theorem xJ(h:single (.int i)=true):(nc i).length<=20:=by
 have h:=pJ h
 cases i with
 |ofNat m=>
  have:=yk (m:=m) h;show (dg m).length<=20;omega
 |negSucc m=>
  have:=yk (m:=m+1) h;show (dg (m+1)).length+1<=20;omega
theorem cS(h:single d=true):(∃i,d=.int i)\/∃x,d=.str x:=by cases d <;> first|exact .inl ⟨_,rfl⟩|exact .inr ⟨_,rfl⟩|cases h
theorem cV(h:aO n d=true):single d=true\/∃m ds,n=m+1/\d=.tuple ds/\ds.length<=8/\∀x∈ds,aO m x=true:=by
 by_cases k:kd d=.tup
 .obtain⟨ds,rfl⟩:=nK k
  cases n with
  |zero=>cases h
  |succ m=>
   right;have h':(decide (ds.length<=8)&&ds.all (aO m))=true:=h;rw[Bool.and_eq_true] at h';exact⟨m,ds,rfl,rfl,of_decide_eq_true h'.1,List.all_eq_true.mp h'.2⟩
 .left
  rw[tu k] at h;exact h
def tl(f:PyData->List Nat)(ds:List PyData)(r:List Nat):List Nat:=(ds.map fun d=>44::32::f d).flatten++41::r
theorem tD(h:single (.str x)=true):has TXT x=true:=by
 have h':(decide (x.length<=20)&&has TXT x)=true:=h;rw[Bool.and_eq_true] at h';exact h'.2
open K1 (has LET TXT single aO aL lsz isName aF tdp aY ldp Sh Shs)
theorem xZ:b9 .str .str=true:=rfl
theorem xY:b9 .tup .str=false:=rfl
def sam(a b:PyData):Bool:=@decide (a=b) (Classical.propDecidable _)
theorem D3:sam a b=true↔a=b:=by
 unfold sam;exact @decide_eq_true_iff _ (Classical.propDecidable _)
def gt(ds:List PyData)(i:Int):PyData:=(ds[i.toNat]?).getD .none
def both(ds es:List PyData):PyData->Bool
 |.int i=>sam (gt ds i) (gt es i)
 |_=>true
theorem vC:∀(n:Nat) (v:PyData),aO n v=true->Sm v
 |n,v,h=>by
  rcases cV h with h1|⟨m,ds,rfl,rfl,_,hd⟩
  .rcases cS h1 with⟨i,rfl⟩|⟨x,rfl⟩
   .show smB (.int i)=true
    rw[smB];intro _ z;cases z;intro _ z;cases z
   .have h2:(decide (x.length<=20)&&has TXT x)=true:=h1
    rw[Bool.and_eq_true] at h2;exact Sm.mkS (Nat.le_trans (of_decide_eq_true h2.1) (by decide)) (K1.iO K1.jH h2.2)
  .exact Sm.tup fun d hx=>vC m d (hd d hx)
termination_by n=>n
theorem nq(h:aF v=true):Sm v:=by
 have h':(aO 4 v&&decide (aL 4 v<=40))=true:=h;rw[Bool.and_eq_true] at h';exact vC 4 v h'.1
theorem cI(h:aF v=true):aO 4 v=true/\aL 4 v<=40:=by
 have h':(aO 4 v&&decide (aL 4 v<=40))=true:=h;rw[Bool.and_eq_true] at h';exact⟨h'.1,of_decide_eq_true h'.2⟩
theorem qe(n:Nat):∀d,1<=aL n d:=by
 induction n with
 |zero=>intro d;cases d <;> exact Int.le_refl _
 |succ n ih=>
  intro d
  by_cases k:kd d=.tup
  .obtain⟨ds,rfl⟩:=nK k
   have:=K1.xt (aL n) ih ds;show 1<=1+(ds.map (aL n)).sum;omega
  .rw[tL k]
   exact Int.le_refl _
theorem uP{f:PyData->Int}(h:∀d,0<=f d):∀{ds:List PyData}{d:PyData},d∈ds->f d<=(ds.map f).sum
 |e::r,d,hd=>by
  have nn:∀l:List PyData,0<=(l.map f).sum:=fun l=>by
   induction l with
   |nil=>exact Int.le_refl _
   |cons a l ih=>rw[List.map_cons,List.sum_cons];have:=h a;omega
  rw[List.map_cons,List.sum_cons]
  rcases List.mem_cons.mp hd with z|z
  .subst z
   have:=nn r;omega
  .have:=uP h (ds:=r) z
   have:=h e;omega
theorem pQ(h:d∈ds):aL n d<=aL (n+1) (.tuple ds):=by
 have:=uP (f:=aL n) (fun d=>by have:=qe n d;omega) h;show aL n d<=1+(ds.map (aL n)).sum;omega
theorem cq(h:n<=2000):n<=sizeLine:=Nat.le_trans h (by decide)
theorem tS{P:PyData->Prop}(h:∀a b,P a->P b->(PyData.eqv a b=true↔a=b)):∀(ds es:List PyData),(∀d∈ds,P d)->(∀d∈es,P d)->(PyData.eqvAll ds es=true↔ds=es)
 |[],[],_,_=>by simp[PyData.eqvAll]
 |[],e::es,_,_=>by simp[PyData.eqvAll]
 |d::ds,[],_,_=>by simp[PyData.eqvAll]
 |d::ds,e::es,hd,he=>by
  have ih:=tS h ds es (fun x hx=>hd x (List.mem_cons_of_mem _ hx)) (fun x hx=>he x (List.mem_cons_of_mem _ hx));have i0:=h d e (hd d List.mem_cons_self) (he e List.mem_cons_self);simp only[PyData.eqvAll];rw[Bool.and_eq_true,i0,ih];simp
theorem wN:∀(n:Nat) (a b:PyData),aO n a=true->aO n b=true->(PyData.eqv a b=true↔a=b)
 |n,a,b,ha,hb=>by
  rcases cV ha with h1|⟨m,ds,rfl,rfl,h8,hd⟩
  .rcases cS h1 with⟨i,rfl⟩|⟨x,rfl⟩
   .rcases cV hb with h2|⟨m,es,rfl,rfl,g8,he⟩
    .rcases cS h2 with⟨j,rfl⟩|⟨y,rfl⟩
     .simp[PyData.eqv]
     .simp[PyData.eqv]
    .simp[PyData.eqv]
   .rcases cV hb with h2|⟨m,es,rfl,rfl,g8,he⟩
    .rcases cS h2 with⟨j,rfl⟩|⟨y,rfl⟩
     .simp[PyData.eqv]
     .simp[PyData.eqv]
    .simp[PyData.eqv]
  .rcases cV hb with h2|⟨m',es,e,rfl,g8,he⟩
   .rcases cS h2 with⟨j,rfl⟩|⟨y,rfl⟩
    .simp[PyData.eqv]
    .simp[PyData.eqv]
   .cases e
    have:=tS (P:=fun d=>aO m d=true) (wN m) ds es hd he;simp only[PyData.eqv];rw[this];simp
termination_by n=>n
theorem E6(ha:aF a=true)(hb:aF b=true):PyData.eqv a b=sam a b:=by rw[Bool.eq_iff_iff,wN 4 a b (cI ha).1 (cI hb).1,D3]
theorem Fo(h:∀d∈ds,d.canLay0=true):PyData.canLayAll0 ds=true:=by
 induction ds with
 |nil=>simp[PyData.canLayAll0]
 |cons d r ih=>
  simp only[PyData.canLayAll0];rw[h d List.mem_cons_self,ih fun x hx=>h x (List.mem_cons_of_mem _ hx)];rfl
theorem tZ:∀(n:Nat) (d:PyData),aO n d=true->d.canLay0=true
 |n,d,h=>by
  rcases cV h with h1|⟨m,ds,rfl,rfl,h8,hd⟩
  .rcases cS h1 with⟨i,rfl⟩|⟨x,rfl⟩
   .simp[PyData.canLay0]
   .have hx:=tD h1
    simp only[PyData.canLay0];unfold PyData.strOk;rw[←Array.all_toList,List.all_eq_true];intro c hc;have:=K1.iO K1.jH hx c hc;exact decide_eq_true (by omega)
  .simp only[PyData.canLay0]
   exact Fo fun d hd'=>tZ m d (hd d hd')
termination_by n=>n
theorem xq:∀{ds:List PyData},(∀d∈ds,(d.weight:Int)+1<=61*f d)->(PyData.weightAll ds:Int)<=61*(ds.map f).sum
 |[],_=>by simp[PyData.weightAll]
 |d::r,h=>by
  have h1:=h d List.mem_cons_self;have h2:=xq (ds:=r) fun x hx=>h x (List.mem_cons_of_mem _ hx);simp only[PyData.weightAll,List.map_cons,List.sum_cons];omega
theorem xp:∀(n:Nat) (d:PyData),aO n d=true->(d.weight:Int)+1<=61*aL n d
 |n,d,h=>by
  have hp:=qe n d
  rcases cV h with h1|⟨m,ds,rfl,rfl,h8,hd⟩
  .rcases cS h1 with⟨i,rfl⟩|⟨x,rfl⟩
   .have ha:=pJ h1
    have:(PyData.int i).weight<=60:=by
     simp only[PyData.weight];split
     .omega
     .rename_i hz
      have z:i.natAbs≠0:=by simp at hz;omega
      have:=(Nat.log2_lt (k:=60) z).mpr (Nat.lt_of_le_of_lt ha (by decide));omega
    omega
   .have h':(decide (x.length<=20)&&has TXT x)=true:=h1
    rw[Bool.and_eq_true] at h';have hx:x.cps.size<=20:=of_decide_eq_true h'.1
    have:(PyData.str x).weight=x.cps.size:=by simp only[PyData.weight]
    omega
  .have:=xq (f:=aL m) (ds:=ds) fun d hd'=>xp m d (hd d hd')
   have e:(PyData.tuple ds).weight=PyData.weightAll ds:=by simp only[PyData.weight]
   rw[e];show _<=61*(1+(ds.map (aL m)).sum);omega
termination_by n=>n
theorem Cq(h:aO n d=true):Sh d n (61*aL n d).toNat:=by
 obtain⟨s,_⟩:=K1.rf n d h;have:=xp n d h;exact⟨s.sh,s.lv,s.dp,by omega⟩
theorem uS(h:aF v=true):Sh v 4 2440:=by
 obtain⟨hb,hm⟩:=cI h;exact(Cq hb).mono (Nat.le_refl _) (by omega)
theorem iw(h:aF v=true):SeqAt.shaped v=true:=by
 have:=(uS h).dp;unfold SeqAt.shaped;rw[tZ 4 v (cI h).1,decide_eq_true (by omega)];rfl
theorem yp{α:Type}{xs:List α}{i:Int}(h0:0<=i)(h1:i<(xs.length:Int)):∃a,atI xs i=some a/\a∈xs:=by
 have h:i.toNat<xs.length:=by omega
 refine⟨xs[i.toNat],?_,List.getElem_mem h⟩;unfold atI ixN;rw[if_pos h0,if_pos h1];show xs[i.toNat]? = _;rw[List.getElem?_eq_getElem h]
theorem vf(h:d9 xs=some ys):lz (.str z) (.list xs)=if (ys.map (·.length)).sum+ys.length*z.length<=16777216 then some (.str (Str.join z ys)) else none:=by
 show (match d9 xs with|some (ys:List Str)=>if (ys.map fun x:Str=>x.length).sum+ys.length*z.length<=16777216 then some (PyData.str (Str.join z ys)) else none|none=>none)=_;rw[h]
theorem kH(n:Nat):(cy 0 n).length=n:=by simp[cy]
theorem Bt(h0:0<=j)(h1:j<=1000):eS j=true:=decide_eq_true (by omega)
theorem tE(h : -1000000000000000000<=i)(h':i<=1000000000000000000):single (.int i)=true:=by
 show decide ((if i<0 then -i else i)<=10^18)=true;refine decide_eq_true ?_
 split <;> omega
theorem jj(h:single d=true):aO n d=true/\aL n d=1:=by
 cases d with
 |int i=>exact⟨by cases n <;> exact h,by cases n <;> rfl⟩
 |str x=>exact⟨by cases n <;> exact h,by cases n <;> rfl⟩
 |_=>cases h
open K1 (has LET TXT single aO aL lsz isName aF tdp aY ldp Good Sh Shs)
@[simp] theorem KD:Str.ofString a=Str.ofString b↔a=b:=by
 constructor
 .intro h
  have h2:(Str.ofString a).cps.toList=(Str.ofString b).cps.toList:=by rw[h]
  rw[signs_ofString,signs_ofString] at h2;have inj:Function.Injective Char.toNat:=fun x y e=>Char.ext (UInt32.toNat_inj.mp e);exact String.toList_inj.mp ((List.map_inj_right (fun x y e=>inj e)).mp h2)
 .rintro rfl;rfl
theorem qu:∀(n:Nat) (d:PyData),aO n d=true->aO (n+1) d=true/\aL (n+1) d=aL n d
 |n,d,h=>by
  rcases cV h with h1|⟨m,ds,rfl,rfl,h8,hd⟩
  .exact⟨(jj h1).1,by rw[(jj (n:=n+1) h1).2,(jj (n:=n) h1).2]⟩
  .have ih:=fun d hd'=>qu m d (hd d hd')
   refine⟨?_,?_⟩
   .show (decide (ds.length<=8)&&ds.all (aO (m+1)))=true
    rw[decide_eq_true h8,List.all_eq_true.mpr fun d hd'=>(ih d hd').1];rfl
   .show 1+(ds.map (aL (m+1))).sum=1+(ds.map (aL m)).sum
    rw[List.map_congr_left fun d hd'=>(ih d hd').2]
termination_by n=>n
@[simp] theorem K3:IV f ρ T=bnd (f ρ T) fun w T1=>yE T1 w:=rfl
def vl(v:PyData):PyData:=.tuple [.str "value",v]
def fl(w:String):PyData:=.tuple [.str "fails",.str (Str.ofString w)]
def FW:List String:=["kind","part","great"]
def c6(R:PyData):Prop:=(∃v,R=vl v/\aF v=true)\/∃w∈FW,R=fl w
theorem cJ:c6 (fl "kind"):=.inr ⟨_,by simp[FW],rfl⟩
theorem DR:c6 (fl "part"):=.inr ⟨_,by simp[FW],rfl⟩
theorem A1:c6 (fl "great"):=.inr ⟨_,by simp[FW],rfl⟩
def bd(d:PyData):PyData:=if aF d=true then vl d else fl "great"
theorem mL(d:PyData):c6 (bd d):=by
 unfold bd;split
 .rename_i h;exact .inl ⟨d,rfl,h⟩
 .exact A1
theorem mw(T:Tp)(h:Sm d):gR [.d d] T=some (bd d,T):=by
 have:=Ft T h;unfold bd
 cases hv:aF d with
 |true=>rw[hv] at this;simp[gR,this,vl]
 |false=>rw[hv] at this;simp[gR,this,fl]
theorem kF(h:aF (.tuple ds)=true)(hd:d∈ds):aF d=true:=by
 obtain⟨hb,hm⟩:=cI h
 rcases cV hb with h1|⟨m,ds',e,e',h8,hb'⟩
 .rcases cS h1 with⟨i,z⟩|⟨x,z⟩ <;> cases z
 .cases e;cases e'
  obtain⟨u1,u2⟩:=qu 3 d (hb' d hd);have:aL 3 d<=aL 4 (.tuple ds):=pQ (n:=3) hd;show (aO 4 d&&decide (aL 4 d<=40))=true;rw[u1,u2,decide_eq_true (by omega)];rfl
theorem dY(h:aF v=true):(∃i,v=.int i/\single (.int i)=true)\/(∃x,v=.str x/\x.length<=20/\∀c∈x.cps.toList,c<128)\/∃ds,v=.tuple ds/\ds.length<=8:=by
 rcases cV (cI h).1 with h1|⟨m,ds,e,rfl,h8,hd⟩
 .rcases cS h1 with⟨i,rfl⟩|⟨x,rfl⟩
  .exact .inl ⟨i,rfl,h1⟩
  .have h':(decide (x.length<=20)&&has TXT x)=true:=h1
   rw[Bool.and_eq_true] at h';exact .inr (.inl ⟨x,rfl,of_decide_eq_true h'.1,K1.iO K1.jH h'.2⟩)
 .exact .inr (.inr ⟨ds,rfl,h8⟩)
theorem mK(h : -1000000000000000000<=i)(h':i<=1000000000000000000):aF (.int i)=true:=by
 show (single (.int i)&&decide ((1:Int)<=40))=true;rw[tE h h'];rfl
theorem F7(i:Int):Sm (.int i):=by simp[Sm,smB]
theorem He(h1:aF x=true)(h2:aF y=true):eqG x y=some (.bool (sam x y)):=by
 unfold eqG;rw[if_pos ⟨iw h1,iw h2⟩,E6 h1 h2]
@[simp] theorem L0{α:Type}{a b:α}:atI [a,b] 0=some a:=rfl
@[simp] theorem LZ{α:Type}{a b:α}:atI [a,b] 1=some b:=rfl
@[simp] theorem L3{α:Type}{a:α}:atI [a] 0=some a:=rfl
@[simp] theorem LY{α:Type}{a b c:α}:atI [a,b,c] 0=some a:=rfl
@[simp] theorem LX{α:Type}{a b c:α}:atI [a,b,c] 1=some b:=rfl
@[simp] theorem LW{α:Type}{a b c:α}:atI [a,b,c] 2=some c:=rfl
@[simp] theorem Nh:b9 .int .int=true:=rfl
@[simp] theorem Ng:b9 .int .str=false:=rfl
@[simp] theorem Nf:b9 .int .tup=false:=rfl
@[simp] theorem Ni:b9 .int .bl=false:=rfl
@[simp] theorem Nc:b9 .str .str=true:=rfl
@[simp] theorem Nb:b9 .str .tup=false:=rfl
@[simp] theorem Nd:b9 .str .int=false:=rfl
@[simp] theorem M8:b9 .tup .tup=true:=rfl
@[simp] theorem Na:b9 .tup .int=false:=rfl
@[simp] theorem M9:b9 .tup .str=false:=rfl
@[simp] theorem KC(x:PyData)(T:Tp):eM [.d x] T=some (.bool (whole x),T):=jv x T
@[simp] theorem M7(i:Int):whole (.int i)=true:=rfl
@[simp] theorem M6(x:Str):whole (.str x)=false:=rfl
@[simp] theorem M5(x:List PyData):whole (.tuple x)=false:=rfl
def Pairs(w:String)(a b:PyData):Prop:=∃R,c6 R/\∀T,bh [.d (.str (Str.ofString w)),.d (.list [a,b])] T=some (R,T)
theorem Hr(h:aF (.tuple ds)=true)(h0:0<=i)(h1:i<(ds.length:Int)):∃d,atI ds i=some d/\aF d=true:=by
 obtain⟨d,e,hd⟩:=yp h0 h1;exact⟨d,e,kF h hd⟩
def PW:List String:=["part","sum","join","same","less"]
inductive Ex(m:Int):Nat->PyData->Prop where
 |put {n:Nat}{v:PyData}:aF v=true->Ex m n (.tuple [.str "put",v])
 |got {n:Nat}{i:Int}:0<=i->i<m->Ex m n (.tuple [.str "got",.int i])
 |row {n:Nat}{es:List PyData}:es.length<=8->(∀e∈es,Ex m n e)->Ex m (n+1) (.tuple [.str "row",.tuple es])
 |many {n:Nat}{e:PyData}:Ex m n e->Ex m (n+1) (.tuple [.str "many",e])
 |pair {n:Nat}{w:String}{a b:PyData}:w∈PW->Ex m n a->Ex m n b->Ex m (n+1) (.tuple [.str (Str.ofString w),a,b])
def isF:PyData->Bool
 |.tuple (.str x::_)=>decide (x=Str.ofString "fails")
 |_=>false
def vOf:PyData->PyData
 |.tuple [_,v]=>v
 |_=>.none
theorem GU(v:PyData):isF (vl v)=false:=by
 show decide (Str.ofString "value"=Str.ofString "fails")=false
 decide +kernel
theorem GW(w:String):isF (fl w)=true:=by
 show decide (Str.ofString "fails"=Str.ofString "fails")=true;exact decide_eq_true rfl
theorem ue(h:c6 R):(isF R=true/\∃w∈FW,R=fl w)\/(isF R=false/\R=vl (vOf R)/\aF (vOf R)=true):=by
 rcases h with⟨v,rfl,hv⟩|⟨w,hw,rfl⟩
 .exact .inr ⟨GU v,rfl,hv⟩
 .exact .inl ⟨GW w,w,hw,rfl⟩
def iT(m:FnM)(ws:List D.W)(T1:Tp):Option (D.W×Tp):=if lL ws=true then (match m (ws.map jY) [] with
 |some (x,_)=>if aZ x=true then some (.d x,T1) else none
 | none=>none) else none
@[simp] theorem KA:g7 m a ρ T=bnd (a ρ T) (iT m):=rfl
theorem ms(h1:lL ws=true)(h2:m (ws.map jY) []=some (x,T'))(h3:aZ x=true):iT m ws T=some (.d x,T):=by
 unfold iT;rw[if_pos h1,h2];exact if_pos h3
theorem iD:∀{ds:List PyData},(∀d∈ds,aZ d=true)->bi ds=true
 |[],_=>by simp[bi]
 |d::r,h=>by simp[bi,h d List.mem_cons_self,iD (ds:=r) fun x hx=>h x (List.mem_cons_of_mem _ hx)]
theorem uc:∀(n:Nat) (d:PyData),aO n d=true->aZ d=true
 |n,d,h=>by
  rcases cV h with h1|⟨m,ds,rfl,rfl,_,hd⟩
  .rcases cS h1 with⟨i,rfl⟩|⟨x,rfl⟩ <;> simp[aZ]
  .simp[aZ,iD fun x hx=>uc m x (hd x hx)]
termination_by n=>n
theorem jq(h:aF v=true):aZ v=true:=uc 4 v (cI h).1
theorem mz(h:c6 R):aZ R=true:=by
 rcases h with⟨v,rfl,hv⟩|⟨w,_,rfl⟩
 .simp[vl,aZ,bi,jq hv]
 .simp[fl,aZ,bi]
def yz(k:Nat):FS:=(ak (aG 4 (ar (dw k) (ae (aa 3) (ae (aa 1) ah)))) (ak (fIf (ay (af eqD (af ixD (aa 4) (fC (.int 0))) (fC (.str "fails")))) (az (aa 4)) aD) (fu 2 (af ixD (aa 4) (fC (.int 1))))))
def sD(k:FS)(p:Fl×Rho)(T:Tp):Option ((Fl×Rho)×Tp):=match p with
 |(.nx,ρ1)=>k ρ1 T
 |(.ct,ρ1)=>k ρ1 T
 |(.bk,ρ1)=>some ((.nx,ρ1),T)
 |(.rt x,ρ1)=>some ((.rt x,ρ1),T)
 |(.ro x,ρ1)=>some ((.ro x,ρ1),T)
theorem EX:sD k (.nx,ρ) T=k ρ T:=rfl
theorem B7:forL i b (d::r) ρ T=bnd (b (ρ.set i (some (.d d))) T) (sD (forL i b r)):=rfl
structure Node(e0:PyData)(w0:Str)(es:List PyData):Prop where
 w1:∀T,cR [.d e0] T=some (.list es,T)
 ix:ixD e0 (.int 0)=some (.str w0)
 np:(w0=Str.ofString "put")=False
 ng:(w0=Str.ofString "got")=False
 ln:es.length<=8
def TB(G:PyData)(n:Nat)(e:PyData):Prop:=∃R,c6 R/\∀k T,n<k->dw k [.d e,.d G] T=some (R,T)
def zf(G:PyData)(gs:List PyData):Prop:=∀i:Int,ixD G (.int i)=atI gs i
theorem pT(gs:List PyData):zf (.tuple gs) gs:=fun _=>rfl
theorem uf(n:Nat):dw (n+1)=aN 5 (ak (fIf (ay (af eqD (af ixD (aa 0) (fC (.int 0))) (fC (.str "put")))) (az (av .tuple (ae (fC (.str "value")) (ae (af ixD (aa 0) (fC (.int 1))) ah)))) aD) (ak (fIf (ay (af eqD (af ixD (aa 0) (fC (.int 0))) (fC (.str "got")))) (az (av .tuple (ae (fC (.str "value")) (ae (af ixD (aa 1) (af ixD (aa 0) (fC (.int 1)))) ah)))) aD) (ak (dO 2 ah) (ak (bw 3 (bc (ar cR (ae (aa 0) ah))) (yz n)) (az (g7 bh (ae (af ixD (aa 0) (fC (.int 0))) (ae (aa 2) ah)))))))):=by rw[dw];rfl
theorem jc:cG (a::r) (some 1) none=r:=by
 have e:HT.sIx (a::r).length 0 (some 1)=1:=by
  have:=HT.vP (a::r).length 0 1;rw[show ((1:Nat):Int)=1 from rfl] at this;rw[this];simp
 have e2:HT.sIx (a::r).length (a::r).length none=(a::r).length:=rfl;unfold cG;rw[e,e2];simp
theorem wc:∀(l:List Int) (b n:Int),K1.dy b l<=n↔b<=n/\∀x∈l,x<=n
 |[],b,n=>by simp[K1.dy]
 |a::r,b,n=>by
  show K1.dy (if a>b then a else b) r<=n↔_;rw[wc r];simp only[List.mem_cons,forall_eq_or_imp]
  split <;> constructor <;> (rintro⟨h1,h2⟩;constructor <;> first|omega|exact h2|exact h2.2|exact⟨by omega,h2⟩)
theorem wj(h:0<=n):K1.cE 0 l<=n↔∀x∈l,x<=n:=by
 cases l with
 |nil=>simp[K1.cE,h]
 |cons a r=>
  show K1.dy a r<=n↔_;rw[wc];simp
theorem lZ:∀(n:Nat) (d:PyData),aO (n+1) d=true->(aY (n+1) d<=n↔aO n d=true)
 |n,d,h=>by
  rcases cV h with h1|⟨m,ds,e,rfl,h8,hd⟩
  .rcases cS h1 with⟨i,rfl⟩|⟨x,rfl⟩
   .exact⟨fun _=>(jj h1).1,fun _=>Int.natCast_nonneg n⟩
   .exact⟨fun _=>(jj h1).1,fun _=>Int.natCast_nonneg n⟩
  .cases e
   have q:aY (n+1) (.tuple ds)=1+K1.cE 0 (ds.map (aY n)):=rfl
   have nn:=K1.wg (ds.map (aY n)) fun x hx=>by
    obtain⟨y,_,rfl⟩:=List.mem_map.mp hx;exact K1.vp n y
   rw[q]
   cases n with
   |zero=>exact⟨fun z=>absurd z (by omega),fun z=>nomatch z⟩
   |succ n=>
    have ml:=wj (l:=ds.map (aY (n+1))) (n:=n) (Int.natCast_nonneg n);have eb:aO (n+1) (.tuple ds)=(decide (ds.length<=8)&&ds.all (aO n)):=rfl;rw[eb,decide_eq_true h8,Bool.true_and,List.all_eq_true];constructor
    .intro z d hd'
     exact(lZ n d (hd d hd')).mp (ml.mp (by omega) _ (List.mem_map.mpr ⟨d,hd',rfl⟩))
    .intro z
     have:=ml.mpr fun x hx=>by
      obtain⟨d,hd',rfl⟩:=List.mem_map.mp hx;exact(lZ n d (hd d hd')).mpr (z d hd')
     omega
termination_by n=>n
theorem pL{α:Type}{e:FE}{ρ:Rho}{T:Tp}{q:α->PyData}{g:α->PyData}:∀{ds:List α},(∀d∈ds,e (some (.d (q d))::ρ) T=some (.d (g d),T))->bC bF e ρ (ds.map q) T=some (ds.map g,T)
 |[],_=>rfl
 |d::r,h=>by
  have ih:=pL (ds:=r) fun x hx=>h x (List.mem_cons_of_mem _ hx);have h0:=h d List.mem_cons_self;simp[bC,h0,ih]
theorem mx0:lm (.list []) (.int 0)=some (.int 0):=rfl
theorem sm0:jT [.list []]=some (.int 0):=rfl
theorem nM(b:Bool):intD [.bool b]=some (.int (if b then 1 else 0)):=rfl
theorem yv(h:∀d∈ds,∀T,eI k [.d d] T=some (.tuple [.int (aY n d),.int (aL n d)],T))(T:Tp):eI (k+1) [.d (.tuple ds)] T=some (.tuple [.int (1+K1.cE 0 (ds.map (aY n))),.int (1+(ds.map (aL n)).sum)],T):=by
 have c:∀T,bC bF (ar (eI k) (ae (aa 0) ah)) [some (.d (.tuple ds)),none,none] ds T=some (ds.map fun d=>.tuple [.int (aY n d),.int (aL n d)],T):=fun T=>eO (g:=fun d=>.tuple [.int (aY n d),.int (aL n d)]) fun d hd=>by simp[h d hd T]
 have cs:∀(ρ:Rho) (T:Tp),bC bF (af ixD (aa 0) (fC (.int 0))) ρ (ds.map fun d=>.tuple [.int (aY n d),.int (aL n d)]) T=some (ds.map fun d=>.int (aY n d),T):=fun ρ T=>pL (q:=fun d=>.tuple [.int (aY n d),.int (aL n d)]) (g:=fun d=>.int (aY n d)) fun d hd=>by simp
 have ct:∀(ρ:Rho) (T:Tp),bC bF (af ixD (aa 0) (fC (.int 1))) ρ (ds.map fun d=>.tuple [.int (aY n d),.int (aL n d)]) T=some (ds.map fun d=>.int (aL n d),T):=fun ρ T=>pL (q:=fun d=>.tuple [.int (aY n d),.int (aL n d)]) (g:=fun d=>.int (aL n d)) fun d hd=>by simp
 unfold eI;simp[c,cs,ct,nM]
theorem rN(h:(∃i,d=.int i)\/∃x,d=.str x)(k:Nat)(T:Tp):eI (k+1) [.d d] T=some (.tuple [.int 0,.int 1],T):=by rcases h with⟨i,rfl⟩|⟨x,rfl⟩ <;> simp[eI,bC,mx0,sm0,nM]
theorem vF:∀(n k:Nat) (d:PyData) (T:Tp),aO n d=true->n<k->eI k [.d d] T=some (.tuple [.int (aY n d),.int (aL n d)],T)
 |n,k,d,T,h,hk=>by
  obtain⟨k,rfl⟩:=bg k (by omega)
  rcases cV h with h1|⟨m,ds,rfl,rfl,h8,hd⟩
  .rw[rN (cS h1),(jj h1).2]
   rcases cS h1 with⟨i,rfl⟩|⟨x,rfl⟩ <;> cases n <;> rfl
  .exact yv (fun d hd' T=>vF m k d T (hd d hd') (by omega)) T
termination_by n=>n
def BQ(d:PyData):Prop:=(∃i,d=.int i)\/(∃x,d=.str x/\x.length<=60000/\has TXT x=true)\/∃ds,d=.tuple ds/\∀x∈ds,aO 4 x=true
theorem oi(T:Tp)(h:BQ d):du [.d d] T=some (bd d,T):=by
 rcases h with⟨i,rfl⟩|⟨x,rfl,hl,hx⟩|⟨ds,rfl,hd⟩
 .have e:aF (.int i)=decide ((if i<0 then -i else i)<=1000000000000000000):=by
   show (decide ((if i<0 then -i else i)<=10^18)&&decide ((1:Int)<=40))=_;rw[Bool.and_comm];rfl
  have w:=rN (d:=.int i) (.inl ⟨i,rfl⟩) 24
  by_cases c:(if i<0 then -i else i)<=1000000000000000000
  .simp[du,cC,w,bd,e,c,vl]
  .simp[du,cC,w,bd,e,c,fl]
 .have e:aF (.str x)=decide (x.length<=20):=by
   show (decide (x.length<=20)&&has TXT x&&decide ((1:Int)<=40))=_;rw[hx];simp
  have w:=rN (d:=.str x) (.inr ⟨x,rfl⟩) 24;have hz:x.length<=sizeLine:=Nat.le_trans hl (by decide)
  by_cases c:x.length<=20
  .have c':(x.length:Int)<=20:=by omega
   simp[du,cC,w,bd,e,c,c',vl,hz]
  .have c':¬(x.length:Int)<=20:=by omega
   simp[du,cC,w,bd,e,c,c',fl,hz]
 .have w:∀T,eI 25 [.d (.tuple ds)] T=_:=yv (n:=4) fun d hd' T=>vF 4 24 d T (hd d hd') (by decide)
  have ml:=wj (l:=ds.map (aY 4)) (n:=3) (by decide);have e:aF (.tuple ds)=(decide (ds.length<=8)&&ds.all (aO 3)&&decide (1+(ds.map (aL 3)).sum<=40)):=rfl
  have e3:ds.all (aO 3)=decide (1+K1.cE 0 (ds.map (aY 4))<=4):=by
   rw[Bool.eq_iff_iff,List.all_eq_true,decide_eq_true_iff];constructor
   .intro z
    have:=ml.mpr fun x hx=>by
     obtain⟨d,hd',rfl⟩:=List.mem_map.mp hx;exact(lZ 3 d (hd d hd')).mpr (z d hd')
    omega
   .intro z d hd'
    exact(lZ 3 d (hd d hd')).mp (ml.mp (by omega) _ (List.mem_map.mpr ⟨d,hd',rfl⟩))
  by_cases h8:ds.length<=8
  .have h8':(ds.length:Int)<=8:=by omega
   by_cases h4:1+K1.cE 0 (ds.map (aY 4))<=4
   .have b3:∀d∈ds,aO 3 d=true:=List.all_eq_true.mp (e3.trans (decide_eq_true h4))
    have em:ds.map (aL 4)=ds.map (aL 3):=List.map_congr_left fun d hd'=>(qu 3 d (b3 d hd')).2;rw[em] at w
    by_cases h40:1+(ds.map (aL 3)).sum<=40
    .simp[du,cC,w,bd,e,e3,h8,h8',h4,h40,vl]
    .simp[du,cC,w,bd,e,e3,h8,h8',h4,h40,fl]
   .simp[du,cC,w,bd,e,e3,h8,h8',h4,fl]
  .have h8':¬(ds.length:Int)<=8:=by omega
   simp[du,cC,w,bd,e,h8,h8',fl]
theorem ct2{α:Type}{a b c d:α}:cG [a,b,c,d] none (some 2)=[a,b]:=rfl
theorem pd{α:Type}{a b c d:α}:atI [a,b,c,d] 2=some c:=rfl
theorem pb{α:Type}{a b c d:α}:atI [a,b,c,d] 3=some d:=rfl
theorem ktt:neG (.list [.bool a,.bool b]) (.list [.bool true,.bool true])=some (.bool (!(a&&b))):=by cases a <;> cases b <;> rfl
theorem kff:neG (.list [.bool a,.bool b]) (.list [.bool false,.bool false])=some (.bool (a||b)):=by cases a <;> cases b <;> rfl
theorem vI(h:aF (.str x)=true):has TXT x=true:=by
 have:=(cI h).1;have h':(decide (x.length<=20)&&has TXT x)=true:=this;rw[Bool.and_eq_true] at h';exact h'.2
def jI(w:String)(a b:PyData):Prop:=∃R,c6 R/\(∀T,bh [.d (.str (Str.ofString w)),.d (.list [a,b])] T=some (R,T))/\∀T,bD [.d (.str (Str.ofString w)),.d a,.d b] T=some (R,T)
theorem Hs(ha:aF a=true)(hb:aF b=true):jI "same" a b:=by
 have e1:=He ha hb;refine⟨vl (.int (if sam a b=true then 1 else 0)),.inl ⟨_,rfl,by split <;> exact mK (by decide) (by decide)⟩,fun T=>?_,fun T=>?_⟩
 .cases hs:sam a b with
  |true=>rw[hs] at e1;simp[bh,e1,vl]
  |false=>rw[hs] at e1;simp[bh,e1,vl]
 .simp[bD,e1,vl,nM]
theorem Ht(ha:aF a=true)(hb:aF b=true):jI "part" a b:=by
 rcases dY ha with⟨i,rfl,hi⟩|⟨x,rfl,hx,hx2⟩|⟨ds,rfl,hd⟩
 .refine⟨_,cJ,fun T=>?_,fun T=>?_⟩ <;> simp[bh,gc,bD,fl]
 .refine⟨_,cJ,fun T=>?_,fun T=>?_⟩ <;> simp[bh,gc,bD,fl]
 .rcases dY hb with⟨j,rfl,hj⟩|⟨y,rfl,hy,hy2⟩|⟨es,rfl,he⟩
  .by_cases c:0<=j/\j<(ds.length:Int)
   .obtain⟨d,e,hv⟩:=Hr ha c.1 c.2
    refine⟨vl d,.inl ⟨d,rfl,hv⟩,fun T=>?_,fun T=>?_⟩ <;> simp[bh,gc,bD,vl,c.1,c.2,e]
   .refine⟨_,DR,fun T=>?_,fun T=>?_⟩
    .by_cases c0:0<=j
     .have c1:¬j<(ds.length:Int):=fun z=>c ⟨c0,z⟩
      simp[bh,gc,fl,c0,c1]
     .simp[bh,gc,fl,c0]
    .by_cases c0:0<=j
     .have c1:¬j<(ds.length:Int):=fun z=>c ⟨c0,z⟩
      simp[bD,fl,c0,c1]
     .simp[bD,fl,c0]
  .refine⟨_,cJ,fun T=>?_,fun T=>?_⟩ <;> simp[bh,gc,bD,fl]
  .refine⟨_,cJ,fun T=>?_,fun T=>?_⟩ <;> simp[bh,gc,bD,fl]
theorem Jf(ha:aF a=true)(hb:aF b=true):jI "sum" a b:=by
 rcases dY ha with⟨i,rfl,hi⟩|⟨x,rfl,hx,hx2⟩|⟨ds,rfl,hd⟩
 .rcases dY hb with⟨j,rfl,hj⟩|⟨y,rfl,hy,hy2⟩|⟨es,rfl,he⟩
  .have b1:=fun T=>mw T (F7 (i+j))
   have b2:=fun T=>oi T (.inl ⟨i+j,rfl⟩);refine⟨_,mL (.int (i+j)),fun T=>?_,fun T=>?_⟩
   .simp[bh,iy,b1]
   .simp[bD,ct2,ktt,b2]
  .refine⟨_,cJ,fun T=>?_,fun T=>?_⟩ <;> simp[bh,iy,bD,ct2,ktt,fl]
  .refine⟨_,cJ,fun T=>?_,fun T=>?_⟩ <;> simp[bh,iy,bD,ct2,ktt,fl]
 .refine⟨_,cJ,fun T=>?_,fun T=>?_⟩ <;> simp[bh,iy,bD,ct2,ktt,fl]
 .refine⟨_,cJ,fun T=>?_,fun T=>?_⟩ <;> simp[bh,iy,bD,ct2,ktt,fl]
theorem Hu(ha:aF a=true)(hb:aF b=true):jI "less" a b:=by
 rcases dY ha with⟨i,rfl,hi⟩|⟨x,rfl,hx,hx2⟩|⟨ds,rfl,hd⟩
 .rcases dY hb with⟨j,rfl,hj⟩|⟨y,rfl,hy,hy2⟩|⟨es,rfl,he⟩
  .refine⟨vl (.int (if i<j then 1 else 0)),.inl ⟨_,rfl,by split <;> exact mK (by decide) (by decide)⟩,fun T=>?_,fun T=>?_⟩
   .by_cases c:i<j
    .simp[bh,gM,c,vl]
    .simp[bh,gM,c,vl]
   .simp[bD,ct2,ktt,vl,nM]
  .refine⟨_,cJ,fun T=>?_,fun T=>?_⟩ <;> simp[bh,gM,bD,ct2,ktt,fl]
  .refine⟨_,cJ,fun T=>?_,fun T=>?_⟩ <;> simp[bh,gM,bD,ct2,ktt,fl]
 .refine⟨_,cJ,fun T=>?_,fun T=>?_⟩ <;> simp[bh,gM,bD,ct2,ktt,fl]
 .refine⟨_,cJ,fun T=>?_,fun T=>?_⟩ <;> simp[bh,gM,bD,ct2,ktt,fl]
theorem Hv(ha:aF a=true)(hb:aF b=true):jI "join" a b:=by
 rcases dY ha with⟨i,rfl,hi⟩|⟨x,rfl,hx,hx2⟩|⟨ds,rfl,hd⟩
 .refine⟨_,cJ,fun T=>?_,fun T=>?_⟩
  .simp[bh,gf,fl]
  .rcases dY hb with⟨j,rfl,hj⟩|⟨y,rfl,hy,hy2⟩|⟨es,rfl,he⟩ <;> simp[bD,ct2,kff,fl]
 .rcases dY hb with⟨j,rfl,hj⟩|⟨y,rfl,hy,hy2⟩|⟨es,rfl,he⟩
  .refine⟨_,cJ,fun T=>?_,fun T=>?_⟩ <;> simp[bh,gf,bD,ct2,kff,fl]
  .have l:x.length+y.length<=sizeLine:=cq (by omega)
   have ll:(x++y).length<=60000:=by rw[←fN,iS,List.length_append,fN,fN];omega
   have sx:Sm (.str (x++y)):=Sm.mkS ll fun c hc=>by
    have hc':c∈cd (x++y):=hc;rw[iS] at hc';exact(List.mem_append.mp hc').elim (hx2 c) (hy2 c)
   have hh:has TXT (x++y)=true:=by
    refine List.all_eq_true.mpr fun c hc=>?_;have hc':c∈cd (x++y):=hc;rw[iS] at hc';exact(List.mem_append.mp hc').elim (List.all_eq_true.mp (vI ha) c) (List.all_eq_true.mp (vI hb) c)
   have b1:=fun T=>mw T sx;have b2:=fun T=>oi (d:=.str (x++y)) T (.inr (.inl ⟨_,rfl,ll,hh⟩));refine⟨_,mL (.str (x++y)),fun T=>?_,fun T=>?_⟩
   .simp[bh,gf,b1,l]
   .simp[bD,ct2,kff,pd,pb,b2,l]
  .refine⟨_,cJ,fun T=>?_,fun T=>?_⟩ <;> simp[bh,gf,bD,ct2,kff,pd,pb,fl]
 .rcases dY hb with⟨j,rfl,hj⟩|⟨y,rfl,hy,hy2⟩|⟨es,rfl,he⟩
  .refine⟨_,cJ,fun T=>?_,fun T=>?_⟩ <;> simp[bh,gf,bD,ct2,kff,fl]
  .refine⟨_,cJ,fun T=>?_,fun T=>?_⟩ <;> simp[bh,gf,bD,ct2,kff,pd,pb,fl]
  .have l:ds.length+es.length<=sizeLine:=cq (by omega)
   have sx:Sm (.tuple (ds++es)):=Sm.tup fun d hd=>by
    rcases List.mem_append.mp hd with z|z
    .exact nq (kF ha z)
    .exact nq (kF hb z)
   have b1:=fun T=>mw T sx;have b2:=fun T=>oi (d:=.tuple (ds++es)) T (.inr (.inr ⟨_,rfl,fun z hz=>(List.mem_append.mp hz).elim (fun q=>(cI (kF ha q)).1) fun q=>(cI (kF hb q)).1⟩));refine⟨_,mL (.tuple (ds++es)),fun T=>?_,fun T=>?_⟩
   .simp[bh,gf,b1,l]
   .simp[bD,ct2,kff,pd,pb,b2,l]
theorem Jg(hw:w∈PW)(ha:aF a=true)(hb:aF b=true):jI w a b:=by
 simp[PW] at hw
 rcases hw with rfl|rfl|rfl|rfl|rfl
 .exact Ht ha hb
 .exact Jf ha hb
 .exact Hv ha hb
 .exact Hs ha hb
 .exact Hu ha hb
def eQ(M:FnM):FS:=(ak (aG 4 (ar M (ae (aa 3) (ae (aa 1) ah)))) (ak (fIf (ay (af eqD (af ixD (aa 4) (fC (.int 0))) (fC (.str "fails")))) (az (aa 4)) aD) (fu 2 (af ixD (aa 4) (fC (.int 1))))))
def hJ:FI:=(bc (bW (ay (af eqD (af ixD (aa 0) (fC (.int 0))) (fC (.str "row")))) (af ixD (aa 0) (fC (.int 1))) (fSl (aa 0) (fP (fC (.int 1))) cQ)))
def iM:FS:=(ak (fIf (ay (af eqD (af ixD (aa 0) (fC (.int 0))) (fC (.str "row")))) (az (ar du (ae (fCB bE (ae (aa 2) ah)) ah))) aD) (ak (fIf (ay (af eqD (af ixD (aa 0) (fC (.int 0))) (fC (.str "many")))) (az (bW (bf (fUn (bz .int) (af ixD (aa 2) (fC (.int 0))))) (av .tuple (ae (fC (.str "fails")) (ae (fC (.str "kind")) ah))) (av .tuple (ae (fC (.str "value")) (ae (fCB a8 (ae (af ixD (aa 2) (fC (.int 0))) ah)) ah))))) aD) (az (ar bD (ae (af ixD (aa 0) (fC (.int 0))) (ae (af ixD (aa 2) (fC (.int 0))) (ae (af ixD (aa 2) (fC (.int 1))) ah)))))))
theorem tM(n:Nat):cH (n+1)=aN 5 (ak (fIf (ay (af eqD (af ixD (aa 0) (fC (.int 0))) (fC (.str "put")))) (az (av .tuple (ae (fC (.str "value")) (ae (af ixD (aa 0) (fC (.int 1))) ah)))) aD) (ak (fIf (ay (af eqD (af ixD (aa 0) (fC (.int 0))) (fC (.str "got")))) (az (av .tuple (ae (fC (.str "value")) (ae (af ixD (aa 1) (af ixD (aa 0) (fC (.int 1)))) ah)))) aD) (ak (dO 2 ah) (ak (bw 3 hJ (eQ (cH n))) iM)))):=by rw[cH];rfl
theorem uO(k:Nat):yz k=eQ (dw k):=rfl
theorem lu{M:FnM}{T:Tp}{e0 G:PyData}{f:PyData->PyData}:∀(es:List PyData) (acc:List PyData) (o3 o4:Option D.W),(∀e∈es,c6 (f e)/\M [.d e,.d G] T=some (f e,T))->acc.length+es.length<=1000 ->
  match (es.map f).filter isF with
  |R::_=>∃ρ',forL 3 (eQ M) es [some (.d e0),some (.d G),some (.loc (.list acc)),o3,o4] T=some ((.rt R,ρ'),T)
  |[]=>∃o3' o4',forL 3 (eQ M) es [some (.d e0),some (.d G),some (.loc (.list acc)),o3,o4] T=some ((.nx,[some (.d e0),some (.d G),some (.loc (.list (acc++es.map fun e=>vOf (f e)))),(o3':Option D.W),o4']),T)
 |[],acc,o3,o4,_,_=>⟨o3,o4,by simp[forL]⟩
 |e::es,acc,o3,o4,h,hl=>by
  obtain⟨t,ht⟩:=h e List.mem_cons_self;have hl':acc.length<sizeLine:=Nat.lt_of_lt_of_le (by simp at hl;omega:acc.length<1000) (by decide);have go:forL 3 (eQ M) (e::es) [some (.d e0),some (.d G),some (.loc (.list acc)),o3,o4] T=bnd (eQ M [some (.d e0),some (.d G),some (.loc (.list acc)),some (.d e),o4] T) (sD (forL 3 (eQ M) es)):=rfl;rw[go]
  rcases ue t with⟨hf,w,_,hw⟩|⟨hf,hv,_⟩
  .rw[List.map_cons,List.filter_cons,if_pos hf]
   rw[hw] at ht
   have hb:eQ M [some (.d e0),some (.d G),some (.loc (.list acc)),some (.d e),o4] T=some ((.rt (fl w),[some (.d e0),some (.d G),some (.loc (.list acc)),some (.d e),some (.d (fl w))]),T):=by
    simp[eQ,ht,fl]
   rw[hb,hw];exact⟨_,rfl⟩
  .rw[List.map_cons,List.filter_cons,hf]
   have ih:=lu (e0:=e0) es (acc++[vOf (f e)]) (some (.d e)) (some (.d (f e))) (fun x hx=>h x (List.mem_cons_of_mem _ hx)) (by simp at hl ⊢;omega)
   have hb:eQ M [some (.d e0),some (.d G),some (.loc (.list acc)),some (.d e),o4] T=some ((.nx,[some (.d e0),some (.d G),some (.loc (.list (acc++[vOf (f e)]))),some (.d e),some (.d (f e))]),T):=by
    generalize hV:vOf (f e)=v at hv;rw[hv] at ht ⊢;simp[eQ,ht,vl,hl']
   rw[hb,fL,EX];simp only[Bool.false_eq_true,if_false]
   cases hF:(es.map f).filter isF with
   |nil=>
    rw[hF] at ih;obtain⟨o3',o4',hi⟩:=ih;exact⟨o3',o4',by rw[hi];simp⟩
   |cons R r=>
    rw[hF] at ih;exact ih
def TBB(G:PyData)(gs:List PyData)(n:Nat)(e:PyData):Prop:=∃R,c6 R/\(∀k T,n<k->cH k [.d e,.d (.list gs)] T=some (R,T))/\∀k T,n<k->dw k [.d e,.d G] T=some (R,T)
structure NodeB(e0:PyData)(w0:Str)(es:List PyData):Prop where
 nd:Node e0 w0 es
 w2:∀G T,hJ [some (.d e0),some (.d G),some (.loc (.list [])),none,none] T=some (es,T)
theorem pI{es:List PyData}{f:PyData->PyData}(N:NodeB e0 w0 es)
  (hf:∀e∈es,c6 (f e)/\(∀k T,n<k->cH k [.d e,.d (.list gs)] T=some (f e,T))/\∀k T,n<k->dw k [.d e,.d G] T=some (f e,T))
  (fin:(∀e∈es,f e=vl (vOf (f e))/\aF (vOf (f e))=true)->∃R,c6 R/\(∀T,bh [.d (.str w0),.d (.list (es.map fun e=>vOf (f e)))] T=some (R,T))/\∀o3 o4 T,dE (iM [some (.d e0),some (.d (.list gs)),some (.loc (.list (es.map fun e=>vOf (f e)))),o3,o4] T)=some (R,T)):TBB G gs (n+1) e0:=by
 have ix:=N.nd.ix;have np:=N.nd.np;have ng:=N.nd.ng;have byP:∀k T,n<k->(∀e∈es,c6 (f e)/\dw k [.d e,.d G] T=some (f e,T)):=fun k T hk e he=>⟨(hf e he).1,(hf e he).2.2 k T hk⟩;have byL:∀k T,n<k->(∀e∈es,c6 (f e)/\cH k [.d e,.d (.list gs)] T=some (f e,T)):=fun k T hk e he=>⟨(hf e he).1,(hf e he).2.1 k T hk⟩
 cases hF:(es.map f).filter isF with
 |cons R r=>
  have hR:R∈(es.map f).filter isF:=by rw[hF];exact List.mem_cons_self
  obtain⟨e,he,eR⟩:=List.mem_map.mp (List.mem_filter.mp hR).1;refine⟨R,by rw[←eR];exact(hf e he).1,fun k T hk=>?_,fun k T hk=>?_⟩
  .obtain⟨k,rfl⟩:=bg k (by omega)
   have lp:=lu (e0:=e0) es [] none none (byL k T (by omega)) (by have:=N.nd.ln;simp;omega);rw[hF] at lp;obtain⟨ρ',lp⟩:=lp;rw[tM];simp[ix,np,ng,N.w2,lp]
  .obtain⟨k,rfl⟩:=bg k (by omega)
   have lp:=lu (e0:=e0) es [] none none (byP k T (by omega)) (by have:=N.nd.ln;simp;omega);rw[hF] at lp;obtain⟨ρ',lp⟩:=lp;rw[uf];simp[ix,np,ng,N.nd.w1,uO,lp]
 |nil=>
  have all:∀e∈es,f e=vl (vOf (f e))/\aF (vOf (f e))=true:=fun e he=>by
   rcases ue (hf e he).1 with⟨h1,_⟩|⟨_,h2⟩
   .have:f e∈(es.map f).filter isF:=List.mem_filter.mpr ⟨List.mem_map.mpr ⟨e,he,rfl⟩,h1⟩
    rw[hF] at this;cases this
   .exact h2
  obtain⟨R,t,q1,q2⟩:=fin all;refine⟨R,t,fun k T hk=>?_,fun k T hk=>?_⟩
  .obtain⟨k,rfl⟩:=bg k (by omega)
   have lp:=lu (e0:=e0) es [] none none (byL k T (by omega)) (by have:=N.nd.ln;simp;omega);rw[hF] at lp;obtain⟨o3',o4',lp⟩:=lp;rw[tM];have q:=q2 o3' o4' T;simp[ix,np,ng,N.w2,lp,q]
  .obtain⟨k,rfl⟩:=bg k (by omega)
   have lp:=lu (e0:=e0) es [] none none (byP k T (by omega)) (by have:=N.nd.ln;simp;omega);rw[hF] at lp;obtain⟨o3',o4',lp⟩:=lp;have cf:∀T,iT bh [.d (.str w0),.d (.list (es.map fun e=>vOf (f e)))] T=some (.d R,T):=fun T=>ms rfl (q1 []) (mz t);rw[uf];simp[ix,np,ng,N.nd.w1,uO,lp,cf]
theorem pE{G:PyData}{gs:List PyData}{n:Nat}{es:List PyData}(h:∀e∈es,TBB G gs n e):∃f:PyData->PyData,∀e∈es,c6 (f e)/\(∀k T,n<k->cH k [.d e,.d (.list gs)] T=some (f e,T))/\∀k T,n<k->dw k [.d e,.d G] T=some (f e,T):=by
 classical
 refine⟨fun e=>if h':e∈es then (h e h').choose else .none,fun e he=>?_⟩;simp only[dif_pos he];exact(h e he).choose_spec
theorem Ex.tup(h:Ex m n e):∃xs,e=.tuple xs:=by cases h <;> exact⟨_,rfl⟩
theorem pO(hG:zf G gs)(hg:∀g∈gs,aF g=true)(hm:m<=(gs.length:Int)):∀(n:Nat) (e:PyData),Ex m n e->TBB G gs n e:=by
 intro n e h
 induction h with
 |put hv=>
  rename_i n v;refine⟨vl v,.inl ⟨v,rfl,hv⟩,fun k T hk=>?_,fun k T hk=>?_⟩
  .obtain⟨k,rfl⟩:=bg k (by omega)
   simp[cH,vl]
  .obtain⟨k,rfl⟩:=bg k (by omega)
   simp[dw,vl]
 |got h0 h1=>
  rename_i n i;obtain⟨g,e,hgm⟩:=yp (xs:=gs) h0 (by omega);refine⟨vl g,.inl ⟨g,rfl,hg g hgm⟩,fun k T hk=>?_,fun k T hk=>?_⟩
  .obtain⟨k,rfl⟩:=bg k (by omega)
   simp[cH,vl,e]
  .obtain⟨k,rfl⟩:=bg k (by omega)
   simp[dw,vl,hG i,e]
 |row hl _ ih=>
  rename_i n es _;obtain⟨f,hf⟩:=pE ih
  have e1:∀T,cR [.d (.tuple [.str "row",.tuple es])] T=some (.list es,T):=fun T=>by simp[cR]
  have e2:∀G T,hJ [some (.d (.tuple [.str "row",.tuple es])),some (.d G),some (.loc (.list [])),none,none] T=some (es,T):=fun G T=>by simp[hJ,jc,D.intD,D.gx]
  refine pI (w0:=Str.ofString "row") (es:=es) (f:=f) ⟨⟨e1,rfl,by simp,by simp,hl⟩,e2⟩ hf fun all=>?_
  have sx:Sm (.tuple (es.map fun e=>vOf (f e))):=Sm.tup fun d hd=>by
   obtain⟨e,he,rfl⟩:=List.mem_map.mp hd;exact nq (all e he).2
  have bp:BQ (.tuple (es.map fun e=>vOf (f e))):=.inr (.inr ⟨_,rfl,fun d hd=>by
   obtain⟨e,he,rfl⟩:=List.mem_map.mp hd
   exact(cI (all e he).2).1⟩)
  refine⟨bd (.tuple (es.map fun e=>vOf (f e))),mL _,fun T=>?_,fun o3 o4 T=>?_⟩
  .simp[bh,mw T sx]
  .have lv:=oi T bp
   generalize es.map (fun e=>vOf (f e))=ps at lv ⊢;simp[iM,lv,D.bE]
 |many _ ih=>
  rename_i n e he;obtain⟨xs,hxs⟩:=Ex.tup he;obtain⟨f,hf⟩:=pE (es:=[e]) (fun x hx=>by rw[List.mem_singleton.mp hx];exact ih)
  have e1:∀T,cR [.d (.tuple [.str "many",e])] T=some (.list [e],T):=fun T=>by simp[cR,jc]
  have e2:∀G T,hJ [some (.d (.tuple [.str "many",e])),some (.d G),some (.loc (.list [])),none,none] T=some ([e],T):=fun G T=>by subst hxs;simp[hJ,jc,D.intD,D.gx]
  refine pI (w0:=Str.ofString "many") (es:=[e]) (f:=f) ⟨⟨e1,rfl,by simp,by simp,by simp⟩,e2⟩ hf fun all=>?_;obtain⟨a1,a2⟩:=all e (by simp);generalize hV:vOf (f e)=v at a1 a2
  rcases dY a2 with⟨i,rfl,hi⟩|⟨x,rfl,hx,_⟩|⟨ds,rfl,hd⟩
  .refine⟨fl "kind",cJ,fun T=>?_,fun o3 o4 T=>?_⟩
   .simp[bh,kc,hV,fl]
   .simp[iM,hV,fl]
  .have hx':x.length<=sizeLine:=cq (by omega)
   refine⟨vl (.int x.length),.inl ⟨_,rfl,mK (by omega) (by omega)⟩,fun T=>?_,fun o3 o4 T=>?_⟩
   .simp[bh,kc,hV,vl,hx']
   .simp[iM,hV,vl,hx']
  .refine⟨vl (.int ds.length),.inl ⟨_,rfl,mK (by omega) (by omega)⟩,fun T=>?_,fun o3 o4 T=>?_⟩
   .simp[bh,kc,hV,vl]
   .simp[iM,hV,vl]
 |pair hw ha hb iha ihb=>
  rename_i n w a b;obtain⟨xs,hxs⟩:=Ex.tup ha
  obtain⟨f,hf⟩:=pE (es:=[a,b]) (fun x hx=>by
   simp at hx
   rcases hx with rfl|rfl
   .exact iha
   .exact ihb)
  have ne:¬w="put"/\¬w="got"/\¬w="row"/\¬w="many":=by
   simp[PW] at hw
   rcases hw with rfl|rfl|rfl|rfl|rfl <;> simp
  obtain⟨n1,n2,n4,n5⟩:=ne
  have e1:∀T,cR [.d (.tuple [.str (Str.ofString w),a,b])] T=some (.list [a,b],T):=fun T=>by simp[cR,jc,n1,n2,n4]
  have e2:∀G T,hJ [some (.d (.tuple [.str (Str.ofString w),a,b])),some (.d G),some (.loc (.list [])),none,none] T=some ([a,b],T):=fun G T=>by subst hxs;simp[hJ,jc,D.intD,D.gx,n4]
  refine pI (w0:=Str.ofString w) (es:=[a,b]) (f:=f) ⟨⟨e1,rfl,by simp[n1],by simp[n2],by simp⟩,e2⟩ hf fun all=>?_;obtain⟨a1,a2⟩:=all a (by simp);obtain⟨b1,b2⟩:=all b (by simp);obtain⟨R,t,q1,q2⟩:=Jg hw a2 b2;refine⟨R,t,fun T=>q1 T,fun o3 o4 T=>?_⟩;simp[iM,n4,n5,q2]
inductive Rg(p:Bool):Nat->Nat->PyData->Prop where
 |fail {g n:Nat}{x:Str}:isName (.str x)=true->Rg p g n (.tuple [.str "fail",.str x])
 |say {g n:Nat}{e:PyData}:Ex (g:Int) n e->Rg p g (n+1) (.tuple [.str "say",e])
 |ask {g n:Nat}{w:String}{e r:PyData}:(w="want"\/(w="peek"/\p=true))->g<12->Ex (g:Int) n e->Rg p (g+1) n r->Rg p g (n+1) (.tuple [.str (Str.ofString w),e,r])
 |whn {g n:Nat}{e r s:PyData}:Ex (g:Int) n e->Rg p g n r->Rg p g n s->Rg p g (n+1) (.tuple [.str "when",e,r,s])
def mdT(v:PyData):PyData:=.tuple [.str "made",v]
def flT(x:Str):PyData:=.tuple [.str "fails",.str x]
def asT(b:Bool)(x:Str)(r:PyData):PyData:=.tuple [.str (Str.ofString (if b then "peek" else "want")),.str x,r]
inductive StepOk(p:Bool)(g n:Nat):PyData->Prop where
 |md {v:PyData}:aF v=true->StepOk p g n (mdT v)
 |fl {x:Str}:isName (.str x)=true->StepOk p g n (flT x)
 |ask {b:Bool}{x:Str}{r:PyData}{n':Nat}:(b=true->p=true)->isName (.str x)=true->g<12->n'<=n->Rg p (g+1) n' r->StepOk p g n (asT b x r)
theorem StepOk.up(h:StepOk p g n S)(l:n<=m):StepOk p g m S:=by
 cases h with
 |md a=>exact .md a
 |fl a=>exact .fl a
 |ask a b c d e=>exact .ask a b c (Nat.le_trans d l) e
theorem qJ:∀w∈FW,isName (.str (Str.ofString w))=true:=by decide +kernel
theorem EA:isName (.str "name")=true:=by decide +kernel
theorem BX(h:aF v=true):∃b,inG v (.tuple [.int 0,.str "",.tuple []])=some (.bool b):=by
 have h2:([PyData.int 0,.str "",.tuple []]).all SeqAt.shaped=true:=by
  have a:SeqAt.shaped (.int 0)=true:=iw (by decide +kernel);have b:SeqAt.shaped (.str "")=true:=iw (by decide +kernel);have c:SeqAt.shaped (.tuple [])=true:=iw (by decide +kernel);simp[a,b,c]
 exact⟨_,if_pos ⟨iw h,h2⟩⟩
theorem DL(T:Tp)(h:Sm d):jm [.d d] T=some (.bool (isName d),T):=by
 cases d with
 |str x=>
  have hz:x.length<=sizeLine:=Nat.le_trans h.str (by decide);have hh:∀T,iz [.d (.str x),.d (.str "abcdefghijklmnopqrstuvwxyz")] T=some (.bool (has LET x),T):=fun T=>ze T hz;have e:isName (.str x)=(decide (1<=x.length)&&decide (x.length<=8)&&has LET x):=rfl
  by_cases h1:1<=x.length
  .have h1':(1:Int)<=(x.length:Int):=by omega
   by_cases h8:x.length<=8
   .have h8':(x.length:Int)<=8:=by omega
    simp[jm,hz,hh,e,h1,h1',h8,h8']
   .have h8':¬(x.length:Int)<=8:=by omega
    simp[jm,hz,hh,e,h1,h1',h8,h8']
  .have h1':¬(1:Int)<=(x.length:Int):=by omega
   simp[jm,hz,hh,e,h1,h1']
 |_=>rfl
theorem oP{α:Type}{a b c d:α}:atI [a,b,c,d] 0=some a:=rfl
theorem oO{α:Type}{a b c d:α}:atI [a,b,c,d] 1=some b:=rfl
theorem zi{α:Type}{a b c d:α}:atI [a,b,c,d] 2=some c:=rfl
theorem zh{α:Type}{a b c d:α}:atI [a,b,c,d] 3=some d:=rfl
def cst:Nat->PyData->List Nat
 |n+1,.tuple ds=>40::(bq [44] (ds.map (cst n))++[41])
 |0,.tuple _=>[]
 |_,.int i=>nc i
 |_,.str x=>39::cd x
 |_,_=>[]
theorem m9(n:Nat)(i:Int):cst n (.int i)=nc i:=by cases n <;> rfl
theorem m8(n:Nat)(x:Str):cst n (.str x)=39::cd x:=by cases n <;> rfl
theorem Cp(h:single d=true):(cst n d).length<=21:=by
 rcases cS h with⟨i,rfl⟩|⟨x,rfl⟩
 .rw[m9]
  have:=xJ h;omega
 .rw[m8]
  have h':(decide (x.length<=20)&&has TXT x)=true:=h;rw[Bool.and_eq_true] at h';have:=of_decide_eq_true h'.1;rw[List.length_cons,fN];omega
theorem pM(f:PyData->List Nat):∀ds:List PyData,(ds.map fun d=>(f d).length).sum+ds.length<=(bq [44] (ds.map f)).length+1/\(bq [44] (ds.map f)).length<=(ds.map fun d=>(f d).length).sum+ds.length
 |[]=>by simp[bq]
 |[d]=>by simp[bq]
 |d::e::r=>by
  have ih:=pM f (e::r);have e1:bq [44] ((d::e::r).map f)=f d++[44]++bq [44] ((e::r).map f):=rfl;rw[e1];simp only[List.map_cons,List.sum_cons,List.length_cons,List.length_append,List.length_nil] at ih ⊢;omega
theorem qG:∀{ds:List PyData},(∀d∈ds,((cst n d).length:Int)+1<=25*aL n d)->(((ds.map fun d=>(cst n d).length).sum+ds.length:Nat):Int)<=25*(ds.map (aL n)).sum
 |[],_=>by simp
 |d::r,h=>by
  have h1:=h d List.mem_cons_self;have h2:=qG (ds:=r) fun x hx=>h x (List.mem_cons_of_mem _ hx);simp only[List.map_cons,List.sum_cons,List.length_cons];omega
theorem qT:∀(n:Nat) (d:PyData),aO n d=true->((cst n d).length:Int)+1<=25*aL n d
 |n,d,h=>by
  rcases cV h with h1|⟨m,ds,rfl,rfl,h8,hb⟩
  .have:=Cp (n:=n) h1
   have:=qe n d;omega
  .have ih:=qT m
   have h1:=qG (ds:=ds) fun d hd=>ih d (hb d hd);have h2:=(pM (cst m) ds).2;show (((40::(bq [44] (ds.map (cst m))++[41])).length:Nat):Int)+1<=25*(1+(ds.map (aL m)).sum);simp only[List.length_cons,List.length_append,List.length_nil];omega
termination_by n=>n
theorem qP(h:single (.int i)=true):fV [.int i]=some (.str (mk (nc i))):=by
 have h1:=pJ h
 have h2:i.natAbs.log2<1920:=by
  by_cases z:i.natAbs=0
  .rw[z];decide
  .exact Nat.lt_of_lt_of_le ((Nat.log2_lt (k:=64) z).mpr (Nat.lt_of_le_of_lt h1 (by decide))) (by decide)
 have e:Str.ofString (toString i)=mk (nc i):=g9 (by rw[Iu,dR]);show (if i.natAbs.log2<1920 then some (PyData.str (Str.ofString (toString i))) else none)=_;rw[if_pos h2,e]
theorem jB(a b:List Nat):mk a++mk b=mk (a++b):=g9 (by rw[iS,dR,dR,dR])
theorem lit(h:cd (Str.ofString s)=l):Str.ofString s=mk l:=g9 (by rw[h,dR])
theorem wa(f:PyData->List Nat)(ds:List PyData):((ds.map fun d=>mk (f d)).map (·.length)).sum=(ds.map fun d=>(f d).length).sum:=by
 rw[List.map_map];exact congrArg List.sum (List.map_congr_left fun d _=>di _)
theorem wy(f:PyData->List Nat)(ds:List PyData):Str.join (mk [44]) (ds.map fun d=>mk (f d))=mk (bq [44] (ds.map f)):=g9 (by
 rw[qH,dR,dR,List.map_map]
 exact congrArg (bq [44]) (List.map_congr_left fun d _=>dR _))
theorem vy(hm:aL (m+1) (.tuple ds)<=40)(hb:∀x∈ds,aO m x=true):(bq [44] (ds.map (cst m))).length<=1000/\(ds.map fun d=>(cst m d).length).sum+ds.length<=1000:=by
 have h1:=qG (ds:=ds) fun d hd=>qT m d (hb d hd);have h2:=(pM (cst m) ds).2;have h3:1+(ds.map (aL m)).sum<=40:=hm;omega
theorem str_len{n:Nat}{x:Str}(h:single (.str x)=true):x.length<=20:=by
 have h':(decide (x.length<=20)&&has TXT x)=true:=h;rw[Bool.and_eq_true] at h';exact of_decide_eq_true h'.1
theorem xk:∀(n k:Nat) (d:PyData) (T:Tp),aO n d=true->aL n d<=40->n<k->dh k [.d d] T=some (.str (mk (cst n d)),T)
 |n,0,d,T,h,hm,hk=>absurd hk (Nat.not_lt_zero _)
 |n,k+1,d,T,h,hm,hk=>by
  have q1:=lit (s:="'") (l:=[39]) (by decide +kernel);have q2:=lit (s:="(") (l:=[40]) (by decide +kernel);have q3:=lit (s:=")") (l:=[41]) (by decide +kernel);have q4:=lit (s:=",") (l:=[44]) (by decide +kernel)
  rcases cV h with h1|⟨m,ds,rfl,rfl,h8,hb⟩
  .rcases cS h1 with⟨i,rfl⟩|⟨x,rfl⟩
   .simp[dh,jv,whole,qP h1,m9]
   .have e:mk [39]++x=mk (39::cd x):=by rw[←yO x,jB,dR];rfl
    have l:(mk [39]).length+x.length<=sizeLine:=cq (by rw[di];have:=str_len (n:=0) h1;simp;omega);simp[dh,jv,whole,m8,xZ,q1,l,e]
  .obtain⟨l1,l2⟩:=vy hm hb
   have c:=eO (e:=ar (dh k) (ae (aa 0) ah)) (ρ:=[some (.d (.tuple ds))]) (T:=T) (g:=fun d=>.str (mk (cst m d))) (ds:=ds) fun d hd=>by
    have:=xk m k d T (hb d hd) (Int.le_trans (pQ hd) hm) (by omega);simp[this]
   have j:=vf (z:=mk [44]) (l7 (fun d=>mk (cst m d)) ds);rw[wa,wy,List.length_map,di] at j;rw[if_pos (by simp;omega)] at j;have a1:(mk [40]).length+(mk (bq [44] (ds.map (cst m)))).length<=sizeLine:=cq (by rw[di,di];simp;omega);have a2:(mk (40::bq [44] (ds.map (cst m)))).length+(mk [41]).length<=sizeLine:=cq (by rw[di,di];simp;omega)
   have e1:mk [40]++mk (bq [44] (ds.map (cst m)))=mk (40::bq [44] (ds.map (cst m))):=by rw[jB];rfl
   have e2:mk (40::bq [44] (ds.map (cst m)))++mk [41]=mk (cst (m+1) (.tuple ds)):=by rw[jB];rfl
   simp[dh,jv,whole,xY,q2,q3,q4,c,j,a1,a2,e1,e2]
def dI(w:String)(x:PyData):PyData:=.tuple [.str (Str.ofString w),x]
def cN(b:Bool)(x:Str)(v:PyData):List PyData:=if b then [] else [.tuple [.str x,v]]
def stS(v:PyData):PyData:=.str (mk (cst 4 v))
def rdS:PyData->PyData
 |.tuple [.str x,v]=>.tuple [.str x,stS v]
 |d=>d
theorem nr(T:Tp)(h:aF v=true):dh 25 [.d v] T=some (stS v,T):=xk 4 25 v T (cI h).1 (cI h).2 (by decide)
theorem vH:∀(n k:Nat) (d:PyData) (T:Tp),aO n d=true->aL n d<=40->n<k->cU k [.d d] T=some (.str (mk (cst n d)),T)
 |n,0,d,T,h,hm,hk=>absurd hk (Nat.not_lt_zero _)
 |n,k+1,d,T,h,hm,hk=>by
  have q1:=lit (s:="'") (l:=[39]) (by decide +kernel);have q2:=lit (s:="(") (l:=[40]) (by decide +kernel);have q3:=lit (s:=")") (l:=[41]) (by decide +kernel);have q4:=lit (s:=",") (l:=[44]) (by decide +kernel)
  rcases cV h with h1|⟨m,ds,rfl,rfl,h8,hb⟩
  .rcases cS h1 with⟨i,rfl⟩|⟨x,rfl⟩
   .simp[cU,qP h1,m9]
   .have e:mk [39]++x=mk (39::cd x):=by rw[←yO x,jB,dR];rfl
    have l:(mk [39]).length+x.length<=sizeLine:=cq (by rw[di];have:=str_len (n:=0) h1;simp;omega);simp[cU,m8,xZ,q1,l,e]
  .obtain⟨l1,l2⟩:=vy hm hb
   have c:=eO (e:=ar (cU k) (ae (aa 0) ah)) (ρ:=[some (.d (.tuple ds))]) (T:=T) (g:=fun d=>.str (mk (cst m d))) (ds:=ds) fun d hd=>by
    have:=vH m k d T (hb d hd) (Int.le_trans (pQ hd) hm) (by omega);simp[this]
   have j:=vf (z:=mk [44]) (l7 (fun d=>mk (cst m d)) ds);rw[wa,wy,List.length_map,di] at j;rw[if_pos (by simp;omega)] at j;have a1:(mk [40]).length+(mk (bq [44] (ds.map (cst m)))).length<=sizeLine:=cq (by rw[di,di];simp;omega);have a2:(mk (40::bq [44] (ds.map (cst m)))).length+(mk [41]).length<=sizeLine:=cq (by rw[di,di];simp;omega)
   have e1:mk [40]++mk (bq [44] (ds.map (cst m)))=mk (40::bq [44] (ds.map (cst m))):=by rw[jB];rfl
   have e2:mk (40::bq [44] (ds.map (cst m)))++mk [41]=mk (cst (m+1) (.tuple ds)):=by rw[jB];rfl
   simp[cU,xY,q2,q3,q4,c,j,a1,a2,e1,e2]
theorem kO(T:Tp)(h:aF v=true):cU 25 [.d v] T=some (stS v,T):=vH 4 25 v T (cI h).1 (cI h).2 (by decide)
theorem Fx(T:Tp)(h:aF v=true):iq [.d v] T=some (.bool (isName v),T):=by
 rcases dY h with⟨i,rfl,_⟩|⟨x,rfl,hx,hx2⟩|⟨ds,rfl,_⟩
 .rfl
 .have z:x.length<=sizeLine:=Nat.le_trans hx (by decide)
  have e:isName (.str x)=(decide (1<=x.length)&&decide (x.length<=8)&&has LET x):=rfl
  have c:∀(ρ:Rho) (T:Tp),bC bF (af inD (aa 0) (fC (.str "abcdefghijklmnopqrstuvwxyz"))) ρ (D.signs x) T=some ((D.signs x).map fun d=>.bool (kX LET d),T):=fun ρ T=>eO (g:=fun d=>.bool (kX LET d)) fun d hd=>by
   obtain⟨c,_,rfl⟩:=uj hd;simp[kX];rfl
  by_cases h1:1<=x.length
  .have h1':(1:Int)<=x.length:=by omega
   by_cases h8:x.length<=8
   .have h8':(x.length:Int)<=8:=by omega
    have sa:=uk LET x;simp[iq,z,h1,h1',h8,h8',c,e,sa]
   .have h8':¬(x.length:Int)<=8:=by omega
    simp[iq,z,h1,h1',h8,h8',e]
  .have h1':¬(1:Int)<=x.length:=by omega
   have h0:x.length=0:=by omega
   simp[iq,z,h0,e]
 .rfl
theorem lN(x a b c:Str):inD (.str x) (.tuple [.str a,.str b,.str c])=some (.bool (decide (x=a)||decide (x=b)||decide (x=c))):=by
 have e:inD (.str x) (.tuple [.str a,.str b,.str c])=some (.bool (decide (a=x)||(decide (b=x)||(decide (c=x)||false)))):=rfl;rw[e,Bool.or_false,Bool.or_assoc]
 congr 2
 rw[decide_eq_decide.mpr (show a=x↔x=a from⟨fun z=>z.symm,fun z=>z.symm⟩),decide_eq_decide.mpr (show b=x↔x=b from⟨fun z=>z.symm,fun z=>z.symm⟩),decide_eq_decide.mpr (show c=x↔x=c from⟨fun z=>z.symm,fun z=>z.symm⟩)]
def eB:FT:=(ay (af inD (af ixD (aa 0) (fC (.int 0))) (av .tuple (ae (fC (.str "want")) (ae (fC (.str "peek")) (ae (fC (.str "when")) ah))))))
abbrev oX:FS:=gO
def jW:FS:=(ak (fIf (ay (af eqD (af ixD (aa 0) (fC (.int 0))) (fC (.str "fail")))) (az (av .tuple (ae (fCB bE (ae (aa 3) ah)) (ae (av .tuple (ae (fC (.str "fails")) (ae (af ixD (aa 0) (fC (.int 1))) ah))) ah)))) aD) (ak (aG 4 (g7 (cH 25) (ae (af ixD (aa 0) (fC (.int 1))) (ae (aa 2) ah)))) (ak (fIf (ay (af eqD (af ixD (aa 4) (fC (.int 0))) (fC (.str "fails")))) (az (av .tuple (ae (fCB bE (ae (aa 3) ah)) (ae (aa 4) ah)))) aD) (az (av .tuple (ae (fCB bE (ae (aa 3) ah)) (ae (av .tuple (ae (fC (.str "made")) (ae (ar (cU 25) (ae (af ixD (aa 4) (fC (.int 1))) ah)) ah))) (ae (af ixD (aa 4) (fC (.int 1))) ah))))))))
theorem BL:f6=aN 5 (ak (dO 2 ah) (ak (dO 3 ah) (ak (bP eB oX 100000) jW))):=rfl
def ρL(r:PyData)(G:List (PyData×PyData))(gs rd:List PyData)(o:Option D.W):Rho:=[some (.d r),some (.d (.dict G)),some (.loc (.list gs)),some (.loc (.list (rd.map rdS))),o]
def goL(m:Nat)(r:PyData)(G:List (PyData×PyData))(gs rd:List PyData)(o:Option D.W)(T:Tp):Option (PyData×Tp):=dE (bnd (bP eB oX m (ρL r G gs rd o) T) (i7 jW))
def pf(n:Nat)(r:PyData)(gs:List PyData)(S:PyData):Prop:=∀(G:List (PyData×PyData)) (m:Nat) (rd:List PyData) (o:Option D.W) (T:Tp),n<m->rd.length<1000->(∀x v,aA G x=some v->aF v=true) ->
 (∀v,S=mdT v->goL m r G gs rd o T=some (.tuple [.tuple (rd.map rdS),.tuple [.str "made",stS v],v],T)) /\
 (∀x,S=flT x->goL m r G gs rd o T=some (.tuple [.tuple (rd.map rdS),dI "fails" (.str x)],T)) /\
 (∀b x r',S=asT b x r'->(aA G x=none->goL m r G gs rd o T=some (.tuple [.tuple (rd.map rdS),dI "wants" (.str x)],T)) /\
  ∀v,aA G x=some v->∃m' o',m<=m' + n/\goL m r G gs rd o T=goL m' r' G (gs++[v]) (rd++cN b x v) o' T)
theorem gu:mdT v≠flT x:=by simp[mdT,flT]
theorem whl{c:FT}{b:FS}{m:Nat}{ρ:Rho}{T:Tp}(h:c ρ T=some (true,T)):bP c b (m+1) ρ T=bnd (b ρ T) fun p T2=>match p with
   |(.nx,ρ1)=>bP c b m ρ1 T2
   |(.ct,ρ1)=>bP c b m ρ1 T2
   |(.bk,ρ1)=>some ((.nx,ρ1),T2)
   |(.rt x,ρ1)=>some ((.rt x,ρ1),T2)
   |(.ro x,ρ1)=>some ((.ro x,ρ1),T2):=by
 show bnd (c ρ T) _=_;rw[h];rfl
theorem FK(h:c ρ T=some (true,T))(hb:b ρ T=some ((.rt x,ρ'),T)):bP c b (m+1) ρ T=some ((.rt x,ρ'),T):=by rw[whl h,hb];rfl
theorem nj(h:c ρ T=some (true,T))(hb:b ρ T=some ((.nx,ρ'),T)):bP c b (m+1) ρ T=bP c b m ρ' T:=by rw[whl h,hb];rfl
theorem mJ(h:c ρ T=some (false,T)):bP c b (m+1) ρ T=some ((.nx,ρ),T):=by
 show bnd (c ρ T) _=_;rw[h];rfl
theorem nN(h:eB (ρL r G gs rd o) T=some (true,T))(hb:oX (ρL r G gs rd o) T=some ((.rt x,ρ'),T)):goL (m+1) r G gs rd o T=some (x,T):=by
 unfold goL;rw[FK h hb];rfl
theorem yd(h:eB (ρL r G gs rd o) T=some (true,T))(hb:oX (ρL r G gs rd o) T=some ((.nx,ρL r' G gs' rd' o'),T)):goL (m+1) r G gs rd o T=goL m r' G gs' rd' o' T:=by
 unfold goL;rw[nj h hb]
theorem qI(h:eB (ρL r G gs rd o) T=some (false,T)):goL (m+1) r G gs rd o T=dE (jW (ρL r G gs rd o) T):=by
 unfold goL;rw[mJ h];rfl
theorem C5:goL (m+1) (.tuple [.str "fail",.str x]) G gs rd o T=some (.tuple [.tuple (rd.map rdS),dI "fails" (.str x)],T):=by
 rw[qI (by simp[eB,ρL,lN])];simp[ρL,jW,dI,D.bE]
theorem CW:∀(n g:Nat) (r:PyData),Rg p g n r->∀gs:List PyData,gs.length=g->(∀v∈gs,aF v=true)->n<=20->∃S,StepOk p g n S/\(∀k T,n<k->cW k [.d r,.d (.tuple gs)] T=some (S,T))/\pf n r gs S:=by
 intro n g r h
 induction h with
 |fail hx=>
  rename_i g n x;intro gs hl hv hn;refine⟨flT x,.fl hx,fun k T hk=>?_,fun G m rd o T hm hr hG=>⟨fun v e=>absurd e.symm gu,fun y e=>?_,fun b y r' e=>?_⟩⟩
  .obtain⟨k,rfl⟩:=bg k (by omega)
   simp[cW,flT]
  .obtain⟨m,rfl⟩:=bg m (by omega)
   have:x=y:=by simpa[flT] using e
   subst this;exact C5
  .cases b <;> simp[flT,asT] at e
 |say he=>
  rename_i g n e;intro gs hl hv hn;have hls:gs.length<=12\/True:=.inr trivial;obtain⟨R,t,hL,hP⟩:=pO (pT gs) hv (by rw[hl];exact Int.le_refl _) n e he;have tb:=fun T=>hP 25 T (by omega);have tl:∀T,iT (cH 25) [.d e,.loc (.list gs)] T=some (.d R,T):=fun T=>ms rfl (hL 25 [] (by omega)) (mz t)
  rcases t with⟨v,rfl,hv'⟩|⟨w,hw,rfl⟩
  .refine⟨mdT v,.md hv',fun k T hk=>?_,fun G m rd o T hm hr hG=>⟨fun u e'=>?_,fun y e'=>absurd e' gu,fun b y r' e'=>?_⟩⟩
   .obtain⟨k,rfl⟩:=bg k (by omega)
    simp[cW,mdT,tb,vl]
   .obtain⟨m,rfl⟩:=bg m (by omega)
    have:v=u:=by simpa[mdT] using e'
    subst this;rw[qI (by simp[eB,ρL,lN])];simp[ρL,jW,tl,vl,kO _ hv',D.bE]
   .cases b <;> simp[mdT,asT] at e'
  .refine⟨flT (Str.ofString w),.fl (qJ w hw),fun k T hk=>?_,fun G m rd o T hm hr hG=>⟨fun u e'=>absurd e'.symm gu,fun y e'=>?_,fun b y r' e'=>?_⟩⟩
   .obtain⟨k,rfl⟩:=bg k (by omega)
    simp[cW,flT,tb,fl]
   .obtain⟨m,rfl⟩:=bg m (by omega)
    have:Str.ofString w=y:=by simpa[flT] using e'
    subst this;rw[qI (by simp[eB,ρL,lN])];simp[ρL,jW,tl,fl,dI,D.bE]
   .cases b <;> simp[flT,asT] at e'
 |ask hw hg he hr ih=>
  rename_i g n w e r;intro gs hl hv hn;obtain⟨R,t,hL,hP⟩:=pO (pT gs) hv (by rw[hl];exact Int.le_refl _) n e he;have tb:=fun T=>hP 25 T (by omega);have tl:∀T,iT (cH 25) [.d e,.loc (.list gs)] T=some (.d R,T):=fun T=>ms rfl (hL 25 [] (by omega)) (mz t)
  have nw:¬w="fail"/\¬w="when"/\¬w="say":=by rcases hw with rfl|⟨rfl,_⟩ <;> simp
  obtain⟨n1,n2,n3⟩:=nw
  have hcA:∀G rd o T,eB (ρL (.tuple [.str (Str.ofString w),e,r]) G gs rd o) T=some (true,T):=fun G rd o T=>by rcases hw with rfl|⟨rfl,_⟩ <;> simp[eB,ρL,lN]
  have hgl:gs.length<sizeLine:=Nat.lt_of_lt_of_le (by omega:gs.length<1000) (by decide)
  rcases t with⟨v,rfl,hv'⟩|⟨u,hu,rfl⟩
  .have ln:=fun T=>DL (d:=v) T (nq hv')
   have ll:=fun T=>Fx (v:=v) T hv'
   cases hi:isName v with
   |false=>
    refine⟨flT "name",.fl EA,fun k T hk=>?_,fun G m rd o T hm hr hG=>⟨fun u e'=>absurd e'.symm gu,fun y e'=>?_,fun b y r' e'=>?_⟩⟩
    .obtain⟨k,rfl⟩:=bg k (by omega)
     simp[cW,flT,tb,vl,n1,n2,n3,ln,hi]
    .obtain⟨m,rfl⟩:=bg m (by omega)
     have:Str.ofString "name"=y:=by simpa[flT] using e'
     subst this;exact nN (hcA G rd o T) (by simp[gO,ρL,tl,vl,dI,n2,n3,ll,hi,D.bE];rfl)
    .cases b <;> simp[flT,asT] at e'
   |true=>
    obtain⟨x,rfl⟩:∃x,v=.str x:=by cases v <;> first|exact⟨_,rfl⟩|cases hi
    obtain⟨b,hb,hbp⟩:∃b:Bool,w=(if b then "peek" else "want")/\(b=true->p=true):=by
     rcases hw with rfl|⟨rfl,hp⟩
     .exact⟨false,rfl,fun z=>by cases z⟩
     .exact⟨true,rfl,fun _=>hp⟩
    refine⟨asT b x r,.ask hbp hi hg (Nat.le_succ n) hr,fun k T hk=>?_,fun G m rd o T hm hrd hG=>⟨fun u e'=>?_,fun y e'=>?_,fun b' y r' e'=>?_⟩⟩
    .obtain⟨k,rfl⟩:=bg k (by omega)
     simp[cW,asT,tb,vl,n1,n2,n3,ln,hi,hb]
     cases b <;> simp
    .cases b <;> simp[mdT,asT] at e'
    .cases b <;> simp[flT,asT] at e'
    .obtain⟨m,rfl⟩:=bg m (by omega)
     have hc:=hcA G rd o T
     obtain⟨rfl,rfl,rfl⟩:b=b'/\x=y/\r=r':=by
      cases b <;> cases b' <;> simp[asT] at e' <;> simp[e']
     have hrl:rd.length<sizeLine:=Nat.lt_of_lt_of_le hrd (by decide);refine⟨fun hk=>nN hc (by simp[gO,ρL,tl,vl,dI,n2,n3,ll,hi,c4,hk,D.bE];rfl),fun v hk=>⟨m,some (.d (vl (.str x))),by omega,?_⟩⟩;refine yd hc ?_
     cases b with
     |true=>
      subst hb;simp[gO,ρL,tl,vl,n2,n3,ll,hi,c4,ixA,hk,hgl,cN]
     |false=>
      subst hb;simp[gO,ρL,tl,vl,n2,n3,ll,hi,c4,ixA,hk,hgl,hrl,cN,rdS,kO T (hG x v hk)]
  .refine⟨flT (Str.ofString u),.fl (qJ u hu),fun k T hk=>?_,fun G m rd o T hm hr hG=>⟨fun u e'=>absurd e'.symm gu,fun y e'=>?_,fun b y r' e'=>?_⟩⟩
   .obtain⟨k,rfl⟩:=bg k (by omega)
    simp[cW,flT,tb,fl,n1]
   .obtain⟨m,rfl⟩:=bg m (by omega)
    have:Str.ofString u=y:=by simpa[flT] using e'
    subst this;exact nN (hcA G rd o T) (by simp[gO,ρL,tl,fl,dI,D.bE];rfl)
   .cases b <;> simp[flT,asT] at e'
 |whn he hr hs ihr ihs=>
  rename_i g n e r s;intro gs hl hv hn;obtain⟨R,t,hL,hP⟩:=pO (pT gs) hv (by rw[hl];exact Int.le_refl _) n e he;have tb:=fun T=>hP 25 T (by omega);have tl:∀T,iT (cH 25) [.d e,.loc (.list gs)] T=some (.d R,T):=fun T=>ms rfl (hL 25 [] (by omega)) (mz t)
  have hc:∀G rd o T,eB (ρL (.tuple [.str "when",e,r,s]) G gs rd o) T=some (true,T):=fun G rd o T=>by simp[eB,ρL,oP,lN]
  rcases t with⟨v,rfl,hv'⟩|⟨u,hu,rfl⟩
  .obtain⟨b,hb⟩:=BX hv'
   have key:∀q,q=(if b=true then s else r)->∀S,StepOk p g n S->(∀k T,n<k->cW k [.d q,.d (.tuple gs)] T=some (S,T))->pf n q gs S->∃S,StepOk p g (n+1) S/\(∀k T,n+1<k->cW k [.d (.tuple [.str "when",e,r,s]),.d (.tuple gs)] T=some (S,T))/\pf (n+1) (.tuple [.str "when",e,r,s]) gs S:=by
    intro q hq S hS hq2 hq3;refine⟨S,hS.up (Nat.le_succ n),fun k T hk=>?_,fun G m rd o T hm hrd hG=>?_⟩
    .obtain⟨k,rfl⟩:=bg k (by omega)
     have:=hq2 k T (by omega)
     cases b <;> (simp at hq;subst hq;simp[cW,tb,vl,hb,oP,oO,zi,zh,this])
    .obtain⟨m,rfl⟩:=bg m (by omega)
     have st:goL (m+1) (.tuple [.str "when",e,r,s]) G gs rd o T=goL m q G gs rd (some (.d (vl v))) T:=by
      refine yd (hc G rd o T) ?_
      cases b <;> (simp at hq;subst hq;simp[gO,ρL,tl,vl,hb,oP,oO,zi,zh])
     obtain⟨a1,a2,a3⟩:=hq3 G m rd (some (.d (vl v))) T (by omega) hrd hG;refine⟨fun u e'=>by rw[st];exact a1 u e',fun y e'=>by rw[st];exact a2 y e',fun b' y r' e'=>?_⟩;obtain⟨c1,c2⟩:=a3 b' y r' e';refine⟨fun hk=>by rw[st];exact c1 hk,fun w hk=>?_⟩;obtain⟨m',o',l,q'⟩:=c2 w hk;exact⟨m',o',by omega,by rw[st];exact q'⟩
   cases b with
   |true=>
    obtain⟨S,h1,h2,h3⟩:=ihs gs hl hv (by omega);exact key s rfl S h1 h2 h3
   |false=>
    obtain⟨S,h1,h2,h3⟩:=ihr gs hl hv (by omega);exact key r rfl S h1 h2 h3
  .refine⟨flT (Str.ofString u),.fl (qJ u hu),fun k T hk=>?_,fun G m rd o T hm hr hG=>⟨fun u e'=>absurd e'.symm gu,fun y e'=>?_,fun b y r' e'=>?_⟩⟩
   .obtain⟨k,rfl⟩:=bg k (by omega)
    simp[cW,flT,tb,fl,oP,oO]
   .obtain⟨m,rfl⟩:=bg m (by omega)
    have:Str.ofString u=y:=by simpa[flT] using e'
    subst this;exact nN (hc G rd o T) (by simp[gO,ρL,tl,fl,dI,oO,D.bE];rfl)
   .cases b <;> simp[flT,asT] at e'
@[simp] theorem Li:fQ f ρ T=ly T (f (cY ρ) []):=rfl
@[simp] theorem J0:cY []=[]:=rfl
@[simp] theorem JX:cY (none::r)=none::cY r:=rfl
@[simp] theorem JZ:cY (some (.d x)::r)=some (.d x)::cY r:=rfl
@[simp] theorem JY:cY (some (.loc x)::r)=some (.d x)::cY r:=rfl
@[simp] theorem JW:cY (some (.tp i)::r)=none::cY r:=rfl
theorem qg(h:aZ x=true):ly T (some (.d x,T'))=some (.d x,T):=if_pos h
theorem qX(h:Ex m n e):aZ e=true:=by
 induction h with
 |put hv=>simp[aZ,bi,jq hv]
 |got _ _=>simp[aZ,bi]
 |row _ _ ih=>simp[aZ,bi,iD ih]
 |many _ ih=>simp[aZ,bi,ih]
 |pair _ _ _ iha ihb=>simp[aZ,bi,iha,ihb]
theorem FY(h:Rg p g n r):aZ r=true:=by
 induction h with
 |fail _=>simp[aZ,bi]
 |say he=>simp[aZ,bi,qX he]
 |ask _ _ he _ ih=>simp[aZ,bi,qX he,ih]
 |whn he _ _ ih1 ih2=>simp[aZ,bi,qX he,ih1,ih2]
theorem Cj(h:StepOk p g n S):aZ S=true:=by
 cases h with
 |md hv=>simp[mdT,aZ,bi,jq hv]
 |fl _=>simp[flT,aZ,bi]
 |ask _ _ _ _ hr=>simp[asT,aZ,bi,FY hr]
def stp(r:PyData)(gs:List PyData):PyData:=match cW 25 [.d r,.d (.tuple gs)] [] with
 |some (S,_)=>S
 |none=>.none
theorem jx(h:Rg p g n r)(hl:gs.length=g)(hv:∀v∈gs,aF v=true)(hn:n<=20) :
  StepOk p g n (stp r gs)/\(∀k T,n<k->cW k [.d r,.d (.tuple gs)] T=some (stp r gs,T))/\pf n r gs (stp r gs):=by
 obtain⟨S,h1,h2,h3⟩:=CW n g r h gs hl hv hn
 have e:stp r gs=S:=by
  unfold stp;rw[h2 25 [] (by omega)]
 rw[e];exact⟨h1,h2,h3⟩
def fS:PyData->Option (Bool×Str×PyData)
 |.tuple [.str w,.str x,r]=>if w=Str.ofString "want" then some (false,x,r) else if w=Str.ofString "peek" then some (true,x,r) else none
 |_=>none
@[simp] theorem yq:fS (asT b x r)=some (b,x,r):=by cases b <;> simp[asT,fS]
@[simp] theorem MS:fS (mdT v)=none:=by simp[mdT,fS]
@[simp] theorem MT:fS (flT x)=none:=by simp[flT,fS]
structure St3 where
 gs:List PyData
 rd:List PyData
 S:PyData
abbrev Dc:=List (PyData×PyData)
def i9:Nat->Dc->St3->St3
 |0,_,s=>s
 |f+1,G,s=>match fS s.S with
  |none=>s
  |some (b,x,r)=>match aA G x with
   |none=>s
   |some v=>i9 f G ⟨s.gs++[v],s.rd++cN b x v,stp r (s.gs++[v])⟩
def run(G:Dc)(s:St3):St3:=i9 (12-s.gs.length) G s
structure OkS(p:Bool)(n:Nat)(s:St3):Prop where
 v:∀v∈s.gs,aF v=true
 st:StepOk p s.gs.length n s.S
 rd:s.rd.length<=s.gs.length
 rv:∀d∈s.rd,∃x v,d=.tuple [.str x,v]/\aF v=true
 le:s.gs.length<=12
 rn:∀d∈s.rd,∃x v,d=.tuple [.str x,v]/\isName (.str x)=true
def GV(G:Dc):Prop:=∀x v,aA G x=some v->aF v=true
theorem mO(h:fS s.S=none):run G s=s:=by
 unfold run
 cases 12-s.gs.length with
 |zero=>rfl
 |succ f=>rw[i9,h]
theorem qa(h:s.S=asT b x r)(hk:aA G x=none):run G s=s:=by
 unfold run
 cases 12-s.gs.length with
 |zero=>rfl
 |succ f=>rw[i9,h,yq];simp only[hk]
theorem gp(h:s.S=asT b x r)(hl:s.gs.length<12)(hk:aA G x=some v):run G s=run G ⟨s.gs++[v],s.rd++cN b x v,stp r (s.gs++[v])⟩:=by
 have e:12-s.gs.length=(12-(s.gs++[v]).length)+1:=by simp;omega
 show i9 (12-s.gs.length) G s=_;rw[e,i9,h,yq];simp only[hk];rfl
theorem OkS.next{p:Bool}{n:Nat}{s:St3}{b:Bool}{x:Str}{r v:PyData}(h:OkS p n s)(e:s.S=asT b x r)(hn:n<=20)(hv:aF v=true):s.gs.length<12/\OkS p n ⟨s.gs++[v],s.rd++cN b x v,stp r (s.gs++[v])⟩:=by
 have st:=h.st;rw[e] at st;generalize hS:asT b x r=S at st
 cases st with
 |md _=>cases b <;> simp[asT,mdT] at hS
 |fl _=>cases b <;> simp[asT,flT] at hS
 |@ask b' x' r' n' hp hx hg hn' hr=>
  obtain⟨rfl,rfl,rfl⟩:b=b'/\x=x'/\r=r':=by
   cases b <;> cases b' <;> simp[asT] at hS <;> simp[hS]
  have hv':∀u∈s.gs++[v],aF u=true:=fun u hu=>(List.mem_append.mp hu).elim (h.v u) fun z=>by rw[List.mem_singleton.mp z];exact hv
  obtain⟨a1,_,_⟩:=jx hr (by simp) hv' (by omega:n'<=20);refine⟨hg,hv',by have:=a1.up hn';simpa using this,?_,fun d hd=>?_,by simp;omega,fun d hd=>?_⟩
  .have:=h.rd
   cases b <;> simp[cN] <;> omega
  .rcases List.mem_append.mp hd with z|z
   .exact h.rv d z
   .cases b with
    |true=>simp[cN] at z
    |false=>simp[cN] at z;exact⟨x,v,z,hv⟩
  .rcases List.mem_append.mp hd with z|z
   .exact h.rn d z
   .cases b with
    |true=>simp[cN] at z
    |false=>simp[cN] at z;exact⟨x,v,z,hx⟩
def sr(G:Dc)(S:PyData):Prop:=fS S=none\/∃b x r,S=asT b x r/\aA G x=none
theorem eK(h:StepOk p g n S):(∃v,S=mdT v/\aF v=true)\/(∃x,S=flT x/\isName (.str x)=true)\/∃b x r,S=asT b x r/\isName (.str x)=true:=by
 cases h with
 |md hv=>exact .inl ⟨_,rfl,hv⟩
 |fl hx=>exact .inr (.inl ⟨_,rfl,hx⟩)
 |ask _ hx _ _ _=>exact .inr (.inr ⟨_,_,_,rfl,hx⟩)
theorem iF(hG:GV G)(hn:n<=20)(Q:St3->St3->Prop)(h0:∀s,OkS p n s->sr G s.S->Q s s)(h1:∀s b x r v,OkS p n s->s.S=asT b x r->aA G x=some v->s.gs.length<12->OkS p n ⟨s.gs++[v],s.rd++cN b x v,stp r (s.gs++[v])⟩ ->
  Q ⟨s.gs++[v],s.rd++cN b x v,stp r (s.gs++[v])⟩ (run G ⟨s.gs++[v],s.rd++cN b x v,stp r (s.gs++[v])⟩)->Q s (run G s)):∀(f:Nat) (s:St3),OkS p n s->12-s.gs.length=f->Q s (run G s)
 |f,s,h,hf=>by
  rcases eK h.st with⟨v,e,_⟩|⟨x,e,_⟩|⟨b,x,r,e,_⟩
  .rw[mO (by rw[e];simp)]
   exact h0 s h (.inl (by rw[e];simp))
  .rw[mO (by rw[e];simp)]
   exact h0 s h (.inl (by rw[e];simp))
  .cases hk:aA G x with
   |none=>
    rw[qa e hk];exact h0 s h (.inr ⟨b,x,r,e,hk⟩)
   |some v=>
    obtain⟨hl,h'⟩:=h.next e hn (hG x v hk);exact h1 s b x r v h e hk hl h' (iF hG hn Q h0 h1 (f-1) _ h' (by simp;omega))
termination_by f=>f
decreasing_by omega
theorem gW(hG:GV G)(hn:n<=20)(h:OkS p n s):OkS p n (run G s)/\sr G (run G s).S:=iF hG hn (fun _ s'=>OkS p n s'/\sr G s'.S) (fun s h e=>⟨h,e⟩) (fun s b x r v _ e hk hl _ q=>by rw[gp e hl hk];exact q) _ s h rfl
def cm(s:St3):PyData:=.tuple [.tuple s.gs,.tuple s.rd,s.S]
theorem FZ(h:OkS p n s):aZ (cm s)=true:=by
 have h1:bi s.gs=true:=iD fun d hd=>jq (h.v d hd)
 have h2:bi s.rd=true:=iD fun d hd=>by
  obtain⟨x,v,rfl,hv⟩:=h.rv d hd;simp[aZ,bi,jq hv]
 simp[cm,aZ,bi,h1,h2,Cj h.st]
theorem qv(T:Tp):dW [.d (cm ⟨gs,rd,asT b x r⟩)] T=some (.str x,T):=by cases b <;> simp[dW,cm,asT,inD,inS,cz,eqF]
theorem DC(T:Tp):dW [.d (cm ⟨gs,rd,mdT v⟩)] T=some (.none,T):=by simp[dW,cm,mdT,inD,inS,cz,eqF]
theorem DD(T:Tp):dW [.d (cm ⟨gs,rd,flT x⟩)] T=some (.none,T):=by simp[dW,cm,flT,inD,inS,cz,eqF]
theorem FC(T:Tp)(h:OkS p n s)(e:s.S=asT b x r)(hn:n<=20)(hv:aF v=true) :
  js [.d (cm s),.d v] T=some (cm ⟨s.gs++[v],s.rd++cN b x v,stp r (s.gs++[v])⟩,T):=by
 have st:=h.st;rw[e] at st;generalize hS:asT b x r=S at st
 cases st with
 |md _=>cases b <;> simp[asT,mdT] at hS
 |fl _=>cases b <;> simp[asT,flT] at hS
 |@ask b' x' r' n' hp hx hg hn' hr=>
  obtain⟨rfl,rfl,rfl⟩:b=b'/\x=x'/\r=r':=by
   cases b <;> cases b' <;> simp[asT] at hS <;> simp[hS]
  have hv':∀u∈s.gs++[v],aF u=true:=fun u hu=>(List.mem_append.mp hu).elim (h.v u) fun z=>by rw[List.mem_singleton.mp z];exact hv
  obtain⟨_,a2,_⟩:=jx hr (by simp) hv' (by omega:n'<=20);have st:=a2 25 T (by omega);have l1:s.gs.length+1<=sizeLine:=cq (by omega);have l2:s.rd.length+1<=sizeLine:=cq (by have:=h.rd;omega);obtain⟨gs,rd,S0⟩:=s;subst e
  cases b with
  |true=>simp[js,cm,asT,l1,st,cN]
  |false=>simp[js,cm,asT,l1,l2,st,cN]
def goC:FT:=(ay (af inA (ar dW (ae (aa 0) ah)) (aa 1)))
def goB:FS:=(aG 0 (ar js (ae (aa 0) (ae (af ixA (aa 1) (ar dW (ae (aa 0) ah))) ah))))
theorem EU:kz=aN 2 (ak (bP goC goB 100000) (az (aa 0))):=rfl
theorem B1(hG:GV G)(hn:n<=20)(T:Tp)(s:St3)(h:OkS p n s):∀m,12-s.gs.length<m->bP goC goB m [some (.d (cm s)),some (.d (.dict G))] T=some ((.nx,[some (.d (cm (run G s))),some (.d (.dict G))]),T):=by
 refine iF hG hn (fun s s'=>∀m,12-s.gs.length<m->bP goC goB m [some (.d (cm s)),some (.d (.dict G))] T=some ((.nx,[some (.d (cm s')),some (.d (.dict G))]),T)) (fun s h e m hm=>?_) (fun s b x r v h e hk hl h' q m hm=>?_) _ s h rfl
 .obtain⟨m,rfl⟩:=bg m (by omega)
  refine mJ ?_;obtain⟨gs,rd,S⟩:=s
  rcases eK h.st with⟨v,e1,_⟩|⟨x,e1,_⟩|⟨b,x,r,e1,_⟩
  .have e1:S=mdT v:=e1
   subst e1;simp[goC,DC,inA,inB,inK]
  .have e1:S=flT x:=e1
   subst e1;simp[goC,DD,inA,inB,inK]
  .have e1:S=asT b x r:=e1
   subst e1
   rcases e with e|⟨b',x',r',e2,hk⟩
   .simp at e
   .have:x=x':=by
     have e2:asT b x r=asT b' x' r':=e2
     cases b <;> cases b' <;> simp[asT] at e2 <;> simp[e2]
    subst this;simp[goC,qv,inA,inB,inK,hk]
 .obtain⟨m,rfl⟩:=bg m (by omega)
  have gv:=FC T h e hn (hG x v hk);rw[gp e hl hk]
  have hc:goC [some (.d (cm s)),some (.d (.dict G))] T=some (true,T):=by
   obtain⟨gs,rd,S⟩:=s;have e1:S=asT b x r:=e;subst e1;simp[goC,qv,inA,inB,inK,hk]
  have hb:goB [some (.d (cm s)),some (.d (.dict G))] T=some ((.nx,[some (.d (cm ⟨s.gs++[v],s.rd++cN b x v,stp r (s.gs++[v])⟩)),some (.d (.dict G))]),T):=by
   have aw:dW [.d (cm s)] T=some (.str x,T):=by
    obtain⟨gs,rd,S⟩:=s;have e1:S=asT b x r:=e;subst e1;exact qv T
   simp[goB,aw,ixA,hk,gv]
  rw[nj hc hb];exact q m (by simp;omega)
theorem HD(T:Tp)(hG:GV G)(hn:n<=20)(h:OkS p n s):kz [.d (cm s),.d (.dict G)] T=some (cm (run G s),T):=by
 rw[EU];have:=B1 hG hn T s h 100000 (by omega);simp[this]
def s0(r:PyData):St3:=⟨[],[],stp r []⟩
theorem c8(h:Rg p 0 n r)(hn:n<=20):OkS p n (s0 r):=by
 obtain⟨a1,_,_⟩:=jx (gs:=[]) h rfl (by simp) hn;exact⟨by simp[s0],a1,by simp[s0],by simp[s0],by simp[s0],by simp[s0]⟩
theorem Fu(T:Tp)(h:Rg p 0 n r)(hn:n<=20):km [.d r] T=some (cm (s0 r),T):=by
 obtain⟨_,a2,_⟩:=jx (gs:=[]) h rfl (by simp) hn;simp[km,a2 25 T (by omega),cm,s0]
def dq:PyData->PyData
 |.tuple [.str w,v]=>if w=Str.ofString "made" then .tuple [.str w,stS v] else .tuple [.str w,v]
 |.tuple [_,.str x,_]=>dI "wants" (.str x)
 |_=>.none
@[simp] theorem m4:dq (mdT v)=.tuple [.str "made",stS v]:=by simp[mdT,dq]
@[simp] theorem m5:dq (flT x)=flT x:=by simp[flT,dq]
@[simp] theorem m6:dq (asT b x r)=dI "wants" (.str x):=rfl
def vMd:PyData->List PyData
 |.tuple [.str w,v]=>if w=Str.ofString "made" then [v] else []
 |_=>[]
@[simp] theorem FM:vMd (mdT v)=[v]:=by simp[mdT,vMd]
@[simp] theorem FN:vMd (flT x)=[]:=by simp[flT,vMd]
@[simp] theorem FQ:vMd (asT b x r)=[]:=rfl
def cO(s:St3):PyData:=.tuple (.tuple (s.rd.map rdS)::dq s.S::vMd s.S)
def AtL(p:Bool)(n:Nat)(s:St3)(r:PyData):Prop:=∃n',n'<=n/\Rg p s.gs.length n' r/\s.S=stp r s.gs
theorem CZ(hG:GV G)(hn:n<=20)(T:Tp)(s:St3)(h:OkS p n s):∀r m o,AtL p n s r->(13-s.gs.length)*21<m->goL m r G s.gs s.rd o T=some (cO (run G s),T):=by
 refine iF hG hn (fun s s'=>∀r m o,AtL p n s r->(13-s.gs.length)*21<m->goL m r G s.gs s.rd o T=some (cO s',T)) (fun s h e r m o a hm=>?_) (fun s b x r0 v h e hk hl h' q r m o a hm=>?_) _ s h rfl
 .obtain⟨n',hn',hr,hs⟩:=a
  obtain⟨_,_,a3⟩:=jx hr rfl h.v (by omega);obtain⟨c1,c2,c3⟩:=a3 G m s.rd o T (by have:=h.le;omega) (by have:=h.rd;have:=h.le;omega) hG;rw[←hs] at c1 c2 c3
  rcases eK h.st with⟨v,e1,_⟩|⟨x,e1,_⟩|⟨b,x,r,e1,_⟩
  .rw[c1 v e1,cO,e1];simp
  .rw[c2 x e1,cO,e1];simp;rfl
  .rcases e with e|⟨b',x',r',e2,hk⟩
   .rw[e1] at e;simp at e
   .rw[(c3 b' x' r' e2).1 hk,cO,e2];simp
 .obtain⟨n',hn',hr,hs⟩:=a
  obtain⟨a1,_,a3⟩:=jx hr rfl h.v (by omega);obtain⟨_,_,c3⟩:=a3 G m s.rd o T (by omega) (by have:=h.rd;omega) hG;rw[←hs] at c3 a1;obtain⟨m',o',l,go⟩:=(c3 b x r0 e).2 v hk;rw[go,gp e hl hk];rw[e] at a1;generalize hS:asT b x r0=S at a1
  cases a1 with
  |md _=>cases b <;> simp[asT,mdT] at hS
  |fl _=>cases b <;> simp[asT,flT] at hS
  |@ask b' x' r' n2 hp hx hg hn2 hr2=>
   obtain⟨rfl,rfl,rfl⟩:b=b'/\x=x'/\r0=r':=by
    cases b <;> cases b' <;> simp[asT] at hS <;> simp[hS]
   refine q r0 m' o' ⟨n2,by omega,by simpa using hr2,rfl⟩ ?_;simp;omega
theorem qw(T:Tp)(hG:GV G)(hn:n<=20)(h:Rg p 0 n r):f6 [.d r,.d (.dict G)] T=some (cO (run G (s0 r)),T):=by
 have:=CZ hG hn T (s0 r) (c8 h hn) r 100000 none ⟨n,Nat.le_refl _,h,rfl⟩ (by simp[s0]);rw[←this,BL];simp[goL,ρL,s0]
theorem qy:aZ (stS v)=true:=by simp[stS,aZ]
theorem Ck(h:OkS p n s):aZ (cO s)=true:=by
 have h2:bi (s.rd.map rdS)=true:=iD fun d hd=>by
  obtain⟨e,he,rfl⟩:=List.mem_map.mp hd;obtain⟨x,v,rfl,hv⟩:=h.rv e he;simp[rdS,aZ,bi,qy]
 rcases eK h.st with⟨v,e,hv⟩|⟨y,e,_⟩|⟨b',y,r',e,_⟩
 .simp[cO,e,aZ,bi,h2,qy,jq hv]
 .simp[cO,e,aZ,bi,h2]
  simp[flT,aZ,bi]
 .simp[cO,e,aZ,bi,h2,dI]
theorem BV{ds:Dc}{x y:Str}{v:PyData}:aA (ds++[(.str x,v)]) y=match aA ds y with
  |some u=>some u
  |none=>if x=y then some v else none:=by
 induction ds with
 |nil=>rfl
 |cons q r ih=>
  obtain⟨k,d⟩:=q
  cases k with
  |str k=>
   show (if k=y then some d else aA (r++[(.str x,v)]) y)=_
   by_cases h:k=y
   .rw[if_pos h]
    have:aA ((PyData.str k,d)::r) y=some d:=if_pos h;rw[this]
   .rw[if_neg h,ih]
    have:aA ((PyData.str k,d)::r) y=aA r y:=if_neg h;rw[this]
  |_=>exact ih
theorem BU:aA (bN ds x v) y=if x=y then (aA ds x).map (fun _=>v) else aA ds y:=by
 induction ds with
 |nil=>by_cases h:x=y <;> simp[bN,aA,h]
 |cons q r ih=>
  obtain⟨k,d⟩:=q
  cases k with
  |str k=>
   by_cases hk:k=x
   .subst hk
    have e1:bN ((PyData.str k,d)::r) k v=(.str k,v)::bN r k v:=if_pos rfl;rw[e1]
    by_cases h:k=y
    .subst h
     simp[aA]
    .simp[aA,h,ih]
   .have e1:bN ((PyData.str k,d)::r) x v=(.str k,d)::bN r x v:=if_neg hk
    rw[e1]
    by_cases h:x=y
    .subst h
     simp[aA,hk,ih]
    .simp[aA,h] at ih ⊢
     rw[ih]
  |_=>exact ih
theorem tG:(bN ds x v).length=ds.length:=by
 induction ds with
 |nil=>rfl
 |cons q r ih=>
  obtain⟨k,d⟩:=q
  cases k with
  |str k=>
   by_cases hk:k=x
   .have e1:bN ((PyData.str k,d)::r) x v=(.str k,v)::bN r x v:=if_pos hk
    rw[e1,List.length_cons,List.length_cons,ih]
   .have e1:bN ((PyData.str k,d)::r) x v=(.str k,d)::bN r x v:=if_neg hk
    rw[e1,List.length_cons,List.length_cons,ih]
  |_=>exact congrArg (· + 1) ih
theorem kr:aA (putN ds x v) y=if x=y then some v else aA ds y:=by
 unfold putN
 cases h:aA ds x with
 |some u=>
  rw[if_pos (by rfl),BU,h];rfl
 |none=>
  rw[if_neg (by simp),BV]
  by_cases hx:x=y
  .subst hx;rw[h,if_pos rfl]
  .rw[if_neg hx,if_neg hx]
   cases aA ds y <;> rfl
def Sub(G G':Dc):Prop:=∀x v,aA G x=some v->aA G' x=some v
theorem Sub.refl(G:Dc):Sub G G:=fun _ _ h=>h
theorem Sub.trans(h:Sub A B)(g:Sub B C):Sub A C:=fun x v q=>g x v (h x v q)
theorem Sub.new(h:aA G x=none):Sub G (putN G x v):=fun y u q=>by
 rw[kr]
 by_cases e:x=y
 .subst e;rw[h] at q;cases q
 .rw[if_neg e];exact q
theorem p7(hs:Sub G G')(hG:GV G)(hn:n<=20)(h:OkS p n s):run G' (run G s)=run G' s:=
 iF hG hn (fun s s'=>run G' s'=run G' s) (fun _ _ _=>rfl) (fun s b x r v _ e hk hl _ q=>by
  rw[gp e hl hk,q,gp e hl (hs x v hk)]) _ s h rfl
theorem qb(h:s.S=mdT v):run G' s=s:=mO (by rw[h];simp)
theorem l8(hs:∀x,aA G x=aA G' x)(hG:GV G)(hn:n<=20)(h:OkS p n s):run G s=run G' s:=
 iF hG hn (fun s s'=>s'=run G' s) (fun s h e=>by
  rcases e with e|⟨b,x,r,e,hk⟩
  .exact(mO e).symm
  .rw[hs] at hk;exact(qa e hk).symm) (fun s b x r v _ e hk hl _ q=>by
  rw[gp e hl hk,q,←gp e hl (by rw[←hs];exact hk)]) _ s h rfl
structure Bk(p:Bool)(n:Nat)(D0 R0:Dc):Prop where
 dk:∀q∈D0,∃x v,q=(.str x,v)/\aF v=true
 rk:∀q∈R0,∃x r,q=(.str x,r)/\Rg p 0 n r/\aA R0 x=some r/\aA D0 x=none
 rnd:(R0.map (·.1)).Nodup
 len:D0.length+R0.length<=900
 n20:n<=20
inductive Der(D0 R0:Dc):Str->PyData->Prop where
 |told {x:Str}{v:PyData}:aA D0 x=some v->Der D0 R0 x v
 |made {x:Str}{v r:PyData}{G:Dc}:aA R0 x=some r->GV G->(∀y u,aA G y=some u->Der D0 R0 y u)->(run G (s0 r)).S=mdT v->Der D0 R0 x v
theorem kA(h:aA ds x=some v):(.str x,v)∈ds:=by
 induction ds with
 |nil=>cases h
 |cons q r ih=>
  obtain⟨k,d⟩:=q
  cases k with
  |str k=>
   by_cases hk:k=x
   .have e:aA ((PyData.str k,d)::r) x=some d:=if_pos hk
    rw[e] at h;cases h;rw[hk];exact List.mem_cons_self
   .have e:aA ((PyData.str k,d)::r) x=aA r x:=if_neg hk
    rw[e] at h;exact List.mem_cons_of_mem _ (ih h)
  |_=>exact List.mem_cons_of_mem _ (ih h)
section
variable {p:Bool}{n:Nat}{D0 R0:Dc}
theorem Bk.rg(b:Bk p n D0 R0)(h:aA R0 x=some r):Rg p 0 n r/\aA D0 x=none:=by
 obtain⟨x',r',e,h1,h2,h3⟩:=b.rk _ (kA h);cases e;exact⟨h1,h3⟩
theorem Bk.gv(b:Bk p n D0 R0):GV D0:=fun x v h=>by
 obtain⟨x',v',e,h1⟩:=b.dk _ (kA h);cases e;exact h1
theorem Der.val(b:Bk p n D0 R0)(h:Der D0 R0 x v):aF v=true:=by
 cases h with
 |told h=>exact b.gv _ _ h
 |made hr hG _ e=>
  obtain⟨h1,_⟩:=gW hG b.n20 (c8 (b.rg hr).1 b.n20)
  rcases eK h1.st with⟨v',e1,hv⟩|⟨x,e1,_⟩|⟨b,x,r,e1,_⟩
  .rw[e1] at e
   have:v'=v:=by simpa[mdT] using e
   rw[←this];exact hv
  .rw[e1] at e;exact absurd e.symm gu
  .rw[e1] at e;cases b <;> simp[asT,mdT] at e
def Snd(D0 R0 G:Dc):Prop:=∀x v,aA G x=some v->Der D0 R0 x v
def ClsAt(R0 G:Dc)(x:Str):Prop:=∀r v,aA R0 x=some r->(run G (s0 r)).S=mdT v->aA G x=some v
theorem Snd.gv(b:Bk p n D0 R0)(h:Snd D0 R0 G):GV G:=fun x v q=>(h x v q).val b
theorem rJ(b:Bk p n D0 R0)(hd:Sub D0 G)(hs:Snd D0 R0 G)(hc:∀x,ClsAt R0 G x)(h:Der D0 R0 x v):aA G x=some v:=by
 induction h with
 |told h=>exact hd _ _ h
 |made hr hG hall e ih=>
  rename_i x v r G1;refine hc x r v hr ?_;have hsub:Sub G1 G:=fun y u q=>ih y u q;have h1:=p7 hsub hG b.n20 (c8 (b.rg hr).1 b.n20);rw[qb e] at h1;rw[←h1];exact e
theorem B0(b:Bk p n D0 R0)(hd:Sub D0 G)(hs:Snd D0 R0 G)(hc:∀x,ClsAt R0 G x)(hd':Sub D0 G')(hs':Snd D0 R0 G')(hc':∀x,ClsAt R0 G' x)(x:Str):aA G x=aA G' x:=by
 cases h:aA G x with
 |some v=>exact(rJ b hd' hs' hc' (hs x v h)).symm
 |none=>
  cases h':aA G' x with
  |none=>rfl
  |some v=>rw[rJ b hd hs hc (hs' x v h')] at h;cases h
def mu(R0 G:Dc):Nat:=R0.countP fun q=>match q.1 with
 |.str x=>(aA G x).isNone
 |_=>false
theorem countP_le{α:Type}{f g:α->Bool}:∀{l:List α},(∀a∈l,g a=true->f a=true)->l.countP g<=l.countP f
 |[],_=>Nat.le_refl _
 |a::r,h=>by
  have ih:=countP_le (l:=r) fun x hx=>h x (List.mem_cons_of_mem _ hx);rw[List.countP_cons,List.countP_cons];have h1:=h a List.mem_cons_self
  cases hg:g a with
  |true=>rw[h1 hg];simp;exact ih
  |false=>simp;omega
theorem uC{α:Type}{f g:α->Bool}{a:α}:∀{l:List α},(∀a∈l,g a=true->f a=true)->a∈l->f a=true->g a=false->l.countP g<l.countP f
 |[],_,h,_,_=>by cases h
 |b::r,h,hm,hf,hg=>by
  have hr:∀x∈r,g x=true->f x=true:=fun x hx=>h x (List.mem_cons_of_mem _ hx);rw[List.countP_cons,List.countP_cons]
  rcases List.mem_cons.mp hm with e|e
  .subst e
   have:=countP_le hr;rw[hf,hg];simp;omega
  .have ih:=uC hr e hf hg
   have h1:=h b List.mem_cons_self
   cases hb:g b with
   |true=>rw[h1 hb];simp;exact ih
   |false=>simp;omega
theorem rR(h:Sub G G'):mu R0 G'<=mu R0 G:=countP_le fun q _ hq=>by
 split at hq
 .rename_i x e
  cases hk:aA G x with
  |none=>rfl
  |some v=>rw[h x v hk] at hq;cases hq
 .cases hq
theorem yN(hr:aA R0 x=some r)(h:aA G x=none):mu R0 (putN G x v)+1<=mu R0 G:=by
 have hs:=Sub.new (v:=v) h;refine uC (a:=(.str x,r)) (fun q _ hq=>?_) (kA hr) (by simp[h]) (by simp[kr]);split at hq
 .rename_i x e
  cases hk:aA G x with
  |none=>rfl
  |some v=>rw[hs x v hk] at hq;cases hq
 .cases hq
theorem uW(h:aA G x=none):(putN G x v).length=G.length+1:=by
 unfold putN;rw[h,if_neg (by simp)];simp
end
theorem kR(h:b (ρ.set i (some (.d d))) T=some ((.nx,ρ'),T)):forL i b (d::r) ρ T=forL i b r ρ' T:=by
 rw[B7,h];rfl
@[simp] theorem K4:bL i fk fv ρ T=bnd (fv ρ T) fun w T1=>ou i fk ρ w T1 ρ[i]?:=rfl
@[simp] theorem Kk:ou i fk ρ w T (some (some (.loc (.dict ds))))=bnd (fk ρ T) (oy i ρ ds w):=rfl
@[simp] theorem Kl:oy i ρ ds (.d x) (.d (.str s)) T=if ds.length<=1000 then some ((.nx,ρ.set i (some (.loc (.dict (putN ds s x))))),T) else none:=rfl
@[simp] theorem Kh:jF i f ρ T=bnd (f ρ T) fun w T1=>nz i ρ (jb (view T1 w)) T1:=rfl
@[simp] theorem LI:jb (some (.dict ds))=some ds:=rfl
@[simp] theorem JT:nz i ρ (some ds) T=some ((.nx,ρ.set i (some (.loc (.dict ds)))),T):=rfl
@[simp] theorem KP:c9 i ρ T=some ((.nx,ρ.set i (some (.loc (.dict [])))),T):=rfl
@[simp] theorem JV:c4 (.str s) (.dict ds)=some (.bool (!(aA ds s).isSome)):=rfl
@[simp] theorem Ls:inA (.str s) (.dict ds)=some (.bool (aA ds s).isSome):=rfl
@[simp] theorem Lm:ixA (.dict ds) (.str s)=aA ds s:=rfl
@[simp] theorem Kn:op2 o T (.d x) (.loc (.dict ds))=mkD T (o x (.dict ds)):=rfl
@[simp] theorem Km:op2 o T (.loc (.dict ds)) (.d y)=mkD T (o (.dict ds) y):=rfl
@[simp] theorem Ko:op1 o T (.loc (.dict ds))=mkD T (o (.dict ds)):=rfl
@[simp] theorem ev_viewLD:view T (.loc (.dict ds))=some (.dict ds):=rfl
@[simp] theorem JN:views T (.loc (.dict ds)::r)=lJ (.dict ds) (views T r):=rfl
def bkD(D0 R0:Dc):PyData:=.tuple [.dict D0,.dict R0]
def ρG(D0 R0 G:Dc)(m:Int)(on o4:Option D.W):Rho:=[some (.d (bkD D0 R0)),some (.loc (.dict G)),some (.d (.int m)),on,o4]
section
variable {p:Bool}{n:Nat}{D0 R0:Dc}
def lK(R0:Dc)(k:PyData):Prop:=∃x r,k=.str x/\aA R0 x=some r
theorem Snd.put(B:Bk p n D0 R0)(hs:Snd D0 R0 G)(hr:aA R0 x=some r)(e:(run G (s0 r)).S=mdT v):Snd D0 R0 (putN G x v):=fun y u q=>by
 rw[kr] at q
 by_cases h:x=y
 .subst h
  rw[if_pos rfl] at q;cases q;exact .made hr (hs.gv B) hs e
 .rw[if_neg h] at q
  exact hs y u q
theorem Dr(B:Bk p n D0 R0)(h:Der D0 R0 x v):∀u,Der D0 R0 x u->v=u:=by
 induction h with
 |told h=>
  intro u hu
  cases hu with
  |told h'=>rw[h] at h';cases h';rfl
  |made hr _ _ _=>rw[(B.rg hr).2] at h;cases h
 |made hr hG hall e ih=>
  rename_i x v r G1;intro u hu
  cases hu with
  |told h'=>rw[(B.rg hr).2] at h';cases h'
  |made hr' hG' hall' e'=>
   rename_i r' G2;rw[hr] at hr';cases hr'
   have key:∀(s:St3),OkS p n s->∀v u,(run G1 s).S=mdT v->(run G2 s).S=mdT u->v=u:=fun s hs=>by
    refine iF hG B.n20 (fun s s'=>∀v u,s'.S=mdT v->(run G2 s).S=mdT u->v=u) (fun s h st v u e1 e2=>?_) (fun s b x r w h e hk hl h' q v u e1 e2=>?_) _ s hs rfl
    .rw[qb e1,e1] at e2
     simpa[mdT] using e2
    .rw[gp e hl hk] at e1
     cases hk2:aA G2 x with
     |none=>rw[qa e hk2,e] at e2;cases b <;> simp[asT,mdT] at e2
     |some w'=>
      have:w=w':=ih x w hk w' (hall' x w' hk2);subst this;rw[gp e hl hk2] at e2;exact q v u e1 e2
   exact key _ (c8 (B.rg hr).1 B.n20) v u e e'
theorem tT(B:Bk p n D0 R0)(hs:Snd D0 R0 G)(hr:aA R0 x=some r)(h:aA G x=some v)(e:(run G (s0 r)).S=mdT u):v=u:=Dr B (hs x v h) u (.made hr (hs.gv B) hs e)
theorem IS(h:aA G x=some v):dZ (ρG D0 R0 G m (some (.d (.str x))) o4) T=some ((.nx,ρG D0 R0 G m (some (.d (.str x))) o4),T):=by simp[dZ,ρG,h]
theorem G6(B:Bk p n D0 R0)(hs:Snd D0 R0 G)(hr:aA R0 x=some r)(h:aA G x=none)(hl:G.length<=1000) :
  ∃o,(∃v,(run G (s0 r)).S=mdT v/\dZ (ρG D0 R0 G m (some (.d (.str x))) o4) T=some ((.nx,ρG D0 R0 (putN G x v) m (some (.d (.str x))) o),T)) \/
  ((∀v,(run G (s0 r)).S≠mdT v)/\dZ (ρG D0 R0 G m (some (.d (.str x))) o4) T=some ((.nx,ρG D0 R0 G m (some (.d (.str x))) o),T)):=by
 have hG:=hs.gv B;have lr:=qw [] hG B.n20 (B.rg hr).1;obtain⟨ok,_⟩:=gW hG B.n20 (c8 (B.rg hr).1 B.n20);have lk:=qg (T:=T) (T':=[]) (Ck ok);refine⟨some (.d (cO (run G (s0 r)))),?_⟩
 rcases eK ok.st with⟨v,e,hv⟩|⟨y,e,_⟩|⟨b',y,r',e,_⟩
 .refine .inl ⟨v,e,?_⟩
  simp[dZ,ρG,h,bkD,hr,lr,lk];simp[cO,e,hl]
 .refine .inr ⟨fun v q=>gu (q.symm.trans e),?_⟩
  simp[dZ,ρG,h,bkD,hr,lr,lk];simp[cO,e];simp[flT]
 .refine .inr ⟨fun v q=>by rw[e] at q;cases b' <;> simp[asT,mdT] at q,?_⟩
  simp[dZ,ρG,h,bkD,hr,lr,lk];simp[cO,e,dI]
theorem nP(B:Bk p n D0 R0):∀(ks:List PyData) (G:Dc) (on o4:Option D.W),(∀k∈ks,lK R0 k)->Snd D0 R0 G->G.length+mu R0 G<=900 ->
  ∃G' on' o4',forL 3 dZ ks (ρG D0 R0 G m on o4) T=some ((.nx,ρG D0 R0 G' m on' o4'),T)/\Snd D0 R0 G'/\Sub G G'/\G'.length+mu R0 G'<=900/\((G'=G/\∀x,.str x∈ks->ClsAt R0 G x)\/(G.length<G'.length/\mu R0 G' < mu R0 G))
 |[],G,on,o4,_,hs,hl=>⟨G,on,o4,by simp[forL],hs,.refl G,hl,.inl ⟨rfl,fun x h=>by cases h⟩⟩
 |k::ks,G,on,o4,hk,hs,hl=>by
  obtain⟨x,r,rfl,hr⟩:=hk _ List.mem_cons_self;have hk':∀k∈ks,lK R0 k:=fun k h=>hk k (List.mem_cons_of_mem _ h);have st:∀{ρ':Rho},dZ (ρG D0 R0 G m (some (.d (.str x))) o4) T=some ((.nx,ρ'),T)->forL 3 dZ (.str x::ks) (ρG D0 R0 G m on o4) T=forL 3 dZ ks ρ' T:=fun h=>kR h
  cases h:aA G x with
  |some v=>
   rw[st (IS h)];obtain⟨G',on',o4',e1,e2,e3,e4,e5⟩:=nP B ks G (some (.d (.str x))) o4 hk' hs hl;refine⟨G',on',o4',e1,e2,e3,e4,e5.imp (fun⟨q2,q3⟩=>⟨q2,fun y hy=>?_⟩) id⟩
   rcases List.mem_cons.mp hy with z|z
   .cases z
    intro r' v' hr' e;have:=tT B hs hr' h e;rw[h,this]
   .exact q3 y z
  |none=>
   obtain⟨o,⟨v,e,go⟩|⟨ne,go⟩⟩:=G6 B (m:=m) (o4:=o4) (T:=T) hs hr h (by omega)
   .rw[st go]
    have m1:=yN (v:=v) hr h;have l1:=uW (v:=v) h;obtain⟨G',on',o4',e1,e2,e3,e4,e5⟩:=nP B ks (putN G x v) (some (.d (.str x))) o hk' (hs.put B hr e) (by omega);refine⟨G',on',o4',e1,e2,(Sub.new h).trans e3,e4,.inr ?_⟩
    rcases e5 with⟨rfl,_⟩|⟨q1,q2⟩
    .exact⟨by omega,by omega⟩
    .exact⟨by omega,by omega⟩
   .rw[st go]
    obtain⟨G',on',o4',e1,e2,e3,e4,e5⟩:=nP B ks G (some (.d (.str x))) o hk' hs hl;refine⟨G',on',o4',e1,e2,e3,e4,e5.imp (fun⟨q2,q3⟩=>⟨q2,fun y hy=>?_⟩) id⟩
    rcases List.mem_cons.mp hy with z|z
    .cases z
     intro r' v' hr' e;rw[hr] at hr';cases hr';exact absurd e (ne v')
    .exact q3 y z
theorem wu(B:Bk p n D0 R0):∀k∈R0.map (·.1),lK R0 k:=fun k hk=>by
 obtain⟨q,hq,rfl⟩:=List.mem_map.mp hk;obtain⟨x,r,rfl,_,h,_⟩:=B.rk q hq;exact⟨x,r,rfl,h⟩
theorem rB(h:aA R0 x=some r):PyData.str x∈R0.map (·.1):=List.mem_map.mpr ⟨_,kA h,rfl⟩
theorem xM(G:Dc):mu R0 G<=R0.length:=List.countP_le_length
def gdC:FT:=(ay (af ltD (aa 2) (fCB a8 (ae (aa 1) ah))))
@[simp] theorem Kt:a8 [.dict ds]=some (.int ds.length):=rfl
theorem vd(B:Bk p n D0 R0):∀(f:Nat) (G:Dc) (m:Int) (on o4:Option D.W),m<G.length->mu R0 G+1<f->Snd D0 R0 G->G.length+mu R0 G<=900 ->
  ∃G' m' on' o4',bP gdC mx f (ρG D0 R0 G m on o4) T=some ((.nx,ρG D0 R0 G' m' on' o4'),T)/\Snd D0 R0 G'/\Sub G G'/\∀x,ClsAt R0 G' x
 |0,G,m,on,o4,_,h,_,_=>by omega
 |f+1,G,m,on,o4,hm,h,hs,hl=>by
  obtain⟨G',on',o4',e1,e2,e3,e4,e5⟩:=nP B (T:=T) (m:=G.length) (R0.map (·.1)) G on o4 (wu B) hs hl
  have hc:∀(G:Dc) (m:Int) on o4,gdC (ρG D0 R0 G m on o4) T=some (decide (m<G.length),T):=fun G m on o4=>by simp[gdC,ρG]
  have hb:mx (ρG D0 R0 G m on o4) T=some ((.nx,ρG D0 R0 G' G.length on' o4'),T):=by
   simp[ρG] at e1;simp[mx,ρG,bkD] at e1 ⊢;exact e1
  rw[nj ((hc _ _ _ _).trans (by rw[decide_eq_true hm])) hb]
  rcases e5 with⟨rfl,q3⟩|⟨q1,q2⟩
  .obtain⟨f,rfl⟩:=bg f (by omega)
   rw[mJ ((hc _ _ _ _).trans (by rw[decide_eq_false (by omega)]))];exact⟨G',_,on',o4',rfl,e2,e3,fun x r v hr e=>q3 x (rB hr) r v hr e⟩
  .obtain⟨G2,m2,on2,o42,f1,f2,f3,f4⟩:=vd B f G' G.length on' o4' (by omega) (by omega) e2 e4
   exact⟨G2,m2,on2,o42,f1,f2,e3.trans f3,f4⟩
theorem zr(B:Bk p n D0 R0):Snd D0 R0 D0:=fun _ _ h=>.told h
theorem qW(B:Bk p n D0 R0)(T:Tp):∃G,fD [.d (bkD D0 R0)] T=some (.dict G,T)/\Snd D0 R0 G/\Sub D0 G/\∀x,ClsAt R0 G x:=by
 have hl:=B.len;have hm:=xM (R0:=R0) D0;obtain⟨G,m,on,o4,e1,e2,e3,e4⟩:=vd B (T:=T) 100000 D0 (-1) none none (by omega) (by omega) (zr B) (by omega);refine⟨G,?_,e2,e3,e4⟩;rw[BN];simp[ρG,gdC] at e1;simp[bkD] at e1 ⊢;rw[e1];simp
end
def mdS:FS:=(bL 2 (aa 3) (ar km (ae (aa 4) ah)))
def mdI:FS:=(ak (bL 2 (aa 3) (fQ (ar kz (ae (af ixA (aa 2) (aa 3)) (ae (aa 1) ah))))) (fIf (ay (af eqD (af ixD (af ixD (af ixA (aa 2) (aa 3)) (fC (.int 2))) (fC (.int 0))) (fC (.str "made")))) (bL 1 (aa 3) (af ixD (af ixD (af ixA (aa 2) (aa 3)) (fC (.int 2))) (fC (.int 1)))) aD))
def mdB:FS:=(ak (aG 6 (fCB a8 (ae (aa 1) ah))) (ak (bw 3 (bc (af ixD (aa 0) (fC (.int 1)))) mdI) (aG 5 (af gtD (fCB a8 (ae (aa 1) ah)) (aa 6)))))
theorem EE:lU=aN 7 (ak (jF 1 (af ixD (aa 0) (fC (.int 0)))) (ak (c9 2) (ak (gB 3 4 (af ixD (aa 0) (fC (.int 1))) mdS) (ak (aG 5 (fC (.bool true))) (ak (bP (bf (aa 5)) mdB 100000) (az (av .tuple (ae (aa 1) (ae (aa 2) ah))))))))):=rfl
def nm:PyData->Str
 |.str x=>x
 |_=>Str.ofString ""
def cmL(R0:Dc)(st:Str->St3):Dc:=R0.map fun q=>(q.1,cm (st (nm q.1)))
def cD(st:Str->St3)(x:Str)(s:St3):Str->St3:=fun y=>if y=x then s else st y
section
variable {p:Bool}{n:Nat}{D0 R0:Dc}
theorem nZ{st:Str->St3}:aA (cmL R0 st) x=(aA R0 x).map fun _=>cm (st x):=by
 induction R0 with
 |nil=>rfl
 |cons q r ih=>
  obtain⟨k,d⟩:=q
  cases k with
  |str k=>
   by_cases hk:k=x
   .subst hk
    simp[cmL,aA,nm]
   .have:=ih
    simp[cmL] at this;simp[cmL,aA,hk,this]
  |_=>exact ih
theorem Fk{st:Str->St3}:(cmL R0 st).length=R0.length:=by simp[cmL]
theorem Fj{st:Str->St3}(hk:∀q∈R0,∃y r,q=(PyData.str y,r)):bN (cmL R0 st) x (cm s)=cmL R0 (cD st x s):=by
 induction R0 with
 |nil=>rfl
 |cons q r ih=>
  obtain⟨y,d,rfl⟩:=hk q List.mem_cons_self;have ih':=ih fun q hq=>hk q (List.mem_cons_of_mem _ hq);have e:cmL ((PyData.str y,d)::r) st=(.str y,cm (st y))::cmL r st:=rfl;have e2:cmL ((PyData.str y,d)::r) (cD st x s)=(.str y,cm (cD st x s y))::cmL r (cD st x s):=rfl;rw[e,e2,←ih']
  by_cases h:y=x
  .have e3:bN ((PyData.str y,cm (st y))::cmL r st) x (cm s)=(.str y,cm s)::bN (cmL r st) x (cm s):=if_pos h
   rw[e3];simp[cD,h]
  .have e3:bN ((PyData.str y,cm (st y))::cmL r st) x (cm s)=(.str y,cm (st y))::bN (cmL r st) x (cm s):=if_neg h
   rw[e3];simp[cD,h]
theorem Dw(B:Bk p n D0 R0){st:Str->St3}(h:aA R0 x=some r):putN (cmL R0 st) x (cm s)=cmL R0 (cD st x s):=by
 unfold putN;rw[nZ,h,if_pos (by rfl)]
 exact Fj fun q hq=>by
  obtain⟨y,r,e,_⟩:=B.rk q hq;exact⟨y,r,e⟩
def ρM(D0 R0 G:Dc)(st:Str->St3)(on o4 o5 o6:Option D.W):Rho:=[some (.d (bkD D0 R0)),some (.loc (.dict G)),some (.loc (.dict (cmL R0 st))),on,o4,o5,o6]
def SI(R0 G:Dc)(st:Str->St3):Prop:=∀x r,aA R0 x=some r->∃G1,Sub G1 G/\GV G1/\st x=run G1 (s0 r)
theorem SI.sub{st:Str->St3}(h:SI R0 G st)(hs:Sub G G'):SI R0 G' st:=fun x r hr=>by
 obtain⟨G1,h1,h2,h3⟩:=h x r hr;exact⟨G1,h1.trans hs,h2,h3⟩
theorem SI.go(B:Bk p n D0 R0){st:Str->St3}(h:SI R0 G st)(hr:aA R0 x=some r):OkS p n (st x)/\run G (st x)=run G (s0 r):=by
 obtain⟨G1,h1,h2,h3⟩:=h x r hr;have ok:=c8 (B.rg hr).1 B.n20;rw[h3];exact⟨(gW h2 B.n20 ok).1,p7 h1 h2 B.n20 ok⟩
theorem SI.upd(B:Bk p n D0 R0){st:Str->St3}(h:SI R0 G st)(hG:GV G)(hr:aA R0 x=some r):SI R0 G (cD st x (run G (s0 r))):=fun y r' hr'=>by
 by_cases e:y=x
 .subst e
  rw[hr] at hr';cases hr';exact⟨G,.refl G,hG,by simp[cD]⟩
 .obtain⟨G1,h1,h2,h3⟩:=h y r' hr'
  exact⟨G1,h1,h2,by simp[cD,e];exact h3⟩
theorem GK(B:Bk p n D0 R0){G:Dc}{st:Str->St3}(hs:Snd D0 R0 G)(hi:SI R0 G st)(hr:aA R0 x=some r)(hl:G.length<=1000) :
  (∃v,(run G (s0 r)).S=mdT v/\mdI (ρM D0 R0 G st (some (.d (.str x))) o4 o5 o6) T=some ((.nx,ρM D0 R0 (putN G x v) (cD st x (run G (s0 r))) (some (.d (.str x))) o4 o5 o6),T)) \/
  ((∀v,(run G (s0 r)).S≠mdT v)/\mdI (ρM D0 R0 G st (some (.d (.str x))) o4 o5 o6) T=some ((.nx,ρM D0 R0 G (cD st x (run G (s0 r))) (some (.d (.str x))) o4 o5 o6),T)):=by
 have hG:=hs.gv B;obtain⟨ok,er⟩:=hi.go B hr;obtain⟨ok2,_⟩:=gW hG B.n20 (c8 (B.rg hr).1 B.n20);have lg:=HD [] hG B.n20 ok;rw[er] at lg;have lk:=qg (T:=T) (T':=[]) (FZ ok2)
 have c1:aA (cmL R0 st) x=some (cm (st x)):=by rw[nZ,hr];rfl
 have c2:=Dw B (st:=st) (s:=run G (s0 r)) hr
 have c3:aA (cmL R0 (cD st x (run G (s0 r)))) x=some (cm (run G (s0 r))):=by rw[nZ,hr];simp[cD]
 have l2:(cmL R0 st).length<=1000:=by rw[Fk];have:=B.len;omega
 have e2:∀s:St3,ixD (cm s) (.int 2)=some s.S:=fun s=>rfl;generalize hs':run G (s0 r)=s' at *
 rcases eK ok2.st with⟨v,e,hv⟩|⟨y,e,_⟩|⟨b',y,r',e,_⟩
 .refine .inl ⟨v,e,?_⟩
  simp[mdI,ρM,c1,lg,lk,c2,l2,c3,e2,e,mdT,hl]
 .refine .inr ⟨fun v q=>gu (q.symm.trans e),?_⟩
  simp[mdI,ρM,c1,lg,lk,c2,l2,c3,e2,e,flT]
 .refine .inr ⟨fun v q=>by rw[e] at q;cases b' <;> simp[asT,mdT] at q,?_⟩
  cases b' <;> simp[mdI,ρM,c1,lg,lk,c2,l2,c3,e2,e,asT]
theorem Cu(h:aA G x=some v):(∀y,aA (putN G x v) y=aA G y)/\(putN G x v).length=G.length:=by
 refine⟨fun y=>?_,?_⟩
 .rw[kr]
  by_cases e:x=y
  .subst e;rw[if_pos rfl,h]
  .rw[if_neg e]
 .unfold putN
  rw[h,if_pos (by rfl),tG]
theorem Sub.of(h:∀y,aA G' y=aA G y):Sub G G':=fun x v q=>by rw[h];exact q
structure Rnd(D0 R0:Dc)(ks:List PyData)(G:Dc)(st:Str->St3)(G':Dc)(st':Str->St3):Prop where
 snd:Snd D0 R0 G'
 sub:Sub G G'
 si:SI R0 G' st'
 bd:G'.length+mu R0 G'<=900
 le:G.length<=G'.length
 lt:G.length<G'.length->mu R0 G' < mu R0 G
 same:G'.length=G.length->(∀y,aA G' y=aA G y)/\(∀x r,.str x∈ks->aA R0 x=some r->st' x=run G (s0 r)/\ClsAt R0 G x)/\∀x,.str x∉ks->st' x=st x
theorem xO(B:Bk p n D0 R0):∀(ks:List PyData) (G:Dc) (st:Str->St3) (on:Option D.W),(∀k∈ks,lK R0 k)->Snd D0 R0 G->SI R0 G st->G.length+mu R0 G<=900 ->
  ∃G' st' on',forL 3 mdI ks (ρM D0 R0 G st on o4 o5 o6) T=some ((.nx,ρM D0 R0 G' st' on' o4 o5 o6),T)/\Rnd D0 R0 ks G st G' st'
 |[],G,st,on,_,hs,hi,hl=>⟨G,st,on,by simp[forL],hs,.refl G,hi,hl,Nat.le_refl _,fun h=>absurd h (Nat.lt_irrefl _),fun _=>⟨fun _=>rfl,fun x r h=>(by cases h),fun _ _=>rfl⟩⟩
 |k::ks,G,st,on,hk,hs,hi,hl=>by
  obtain⟨x,r,rfl,hr⟩:=hk _ List.mem_cons_self;have hk':∀k∈ks,lK R0 k:=fun k h=>hk k (List.mem_cons_of_mem _ h);have hG:=hs.gv B;have st0:∀{ρ':Rho},mdI (ρM D0 R0 G st (some (.d (.str x))) o4 o5 o6) T=some ((.nx,ρ'),T)->forL 3 mdI (.str x::ks) (ρM D0 R0 G st on o4 o5 o6) T=forL 3 mdI ks ρ' T:=fun h=>kR h
  have fin:∀(G1:Dc),Snd D0 R0 G1->Sub G G1->G1.length+mu R0 G1<=900->G.length<=G1.length->(G.length<G1.length->mu R0 G1<mu R0 G)->(G1.length=G.length->(∀y,aA G1 y=aA G y)/\ClsAt R0 G x)->SI R0 G1 (cD st x (run G (s0 r))) ->
    ∃G' st' on',forL 3 mdI ks (ρM D0 R0 G1 (cD st x (run G (s0 r))) (some (.d (.str x))) o4 o5 o6) T=some ((.nx,ρM D0 R0 G' st' on' o4 o5 o6),T)/\Rnd D0 R0 (.str x::ks) G st G' st':=by
   intro G1 h1 h2 h3 h4 h5 h6 h7;obtain⟨G',st',on',e1,R⟩:=xO B (T:=T) (o4:=o4) (o5:=o5) (o6:=o6) ks G1 (cD st x (run G (s0 r))) (some (.d (.str x))) hk' h1 h7 h3;refine⟨G',st',on',e1,R.snd,h2.trans R.sub,R.si,R.bd,Nat.le_trans h4 R.le,fun h=>?_,fun h=>?_⟩
   .have m1:=rR (R0:=R0) R.sub
    have m2:=rR (R0:=R0) h2
    by_cases c:G.length<G1.length
    .have:=h5 c;omega
    .have:=R.lt (by omega);omega
   .have c1:G1.length=G.length:=by have:=R.le;omega
    obtain⟨q1,q2⟩:=h6 c1;obtain⟨r1,r2,r3⟩:=R.same (by omega);have same:∀r',aA R0 x=some r'\/True->True:=fun _ _=>trivial;refine⟨fun y=>(r1 y).trans (q1 y),fun y r' hy hr'=>?_,fun y hy=>?_⟩
    .by_cases hy2:PyData.str y∈ks
     .obtain⟨a1,a2⟩:=r2 y r' hy2 hr'
      have cg:=l8 q1 (h1.gv B) B.n20 (c8 (B.rg hr').1 B.n20);refine⟨by rw[a1,cg],fun r2' v hr2 e=>?_⟩;rw[hr'] at hr2;cases hr2;rw[←q1];exact a2 r' v hr' (by rw[cg];exact e)
     .have hxy:y=x:=by
       rcases List.mem_cons.mp hy with z|z
       .cases z;rfl
       .exact absurd z hy2
      subst hxy;rw[hr] at hr';cases hr';exact⟨by rw[r3 y hy2];simp[cD],q2⟩
    .have n1:PyData.str y∉ks:=fun z=>hy (List.mem_cons_of_mem _ z)
     have n2:¬y=x:=fun z=>hy (by rw[z];exact List.mem_cons_self);rw[r3 y n1];simp[cD,n2]
  rcases GK B (T:=T) (o4:=o4) (o5:=o5) (o6:=o6) hs hi hr (by omega) with⟨v,e,go⟩|⟨ne,go⟩
  .rw[st0 go]
   have sp:=hs.put B hr e
   cases h:aA G x with
   |none=>
    have m1:=yN (v:=v) hr h;have l1:=uW (v:=v) h;have sb:=Sub.new (v:=v) h;exact fin (putN G x v) sp sb (by omega) (by omega) (fun _=>by omega) (fun c=>by omega) ((hi.upd B hG hr).sub sb)
   |some u=>
    have:=tT B hs hr h e;subst this;obtain⟨o1,o2⟩:=Cu h;have sb:=Sub.of o1;have m1:=rR (R0:=R0) sb;refine fin (putN G x u) sp sb (by omega) (by omega) (fun c=>by omega) (fun _=>⟨o1,fun r' v' hr' e'=>?_⟩) ((hi.upd B hG hr).sub sb);rw[hr] at hr';cases hr';rw[e] at e'
    have:u=v':=by simpa[mdT] using e'
    rw[←this];exact h
  .rw[st0 go]
   exact fin G hs (.refl G) hl (Nat.le_refl _) (fun c=>absurd c (Nat.lt_irrefl _)) (fun _=>⟨fun _=>rfl,fun r' v' hr' e'=>by
    rw[hr] at hr';cases hr'
    exact absurd e' (ne v')⟩) (hi.upd B hG hr)
theorem u7(B:Bk p n D0 R0):∀(m:Nat) (G:Dc) (st:Str->St3) (on o4 o6:Option D.W),mu R0 G+1<m->Snd D0 R0 G->SI R0 G st->G.length+mu R0 G<=900 ->
  ∃G' st' on' o5' o6',bP (bf (aa 5)) mdB m (ρM D0 R0 G st on o4 (some (.d (.bool true))) o6) T=some ((.nx,ρM D0 R0 G' st' on' o4 o5' o6'),T)/\Snd D0 R0 G'/\Sub G G'/\(∀x,ClsAt R0 G' x)/\∀x r,aA R0 x=some r->st' x=run G' (s0 r)
 |0,G,st,on,o4,o6,h,_,_,_=>by omega
 |m+1,G,st,on,o4,o6,h,hs,hi,hl=>by
  obtain⟨G',st',on',e1,R⟩:=xO B (T:=T) (o4:=o4) (o5:=some (.d (.bool true))) (o6:=some (.d (.int G.length))) (R0.map (·.1)) G st on (wu B) hs hi hl
  have hc:∀b G st on o4 o6,bf (aa 5) (ρM D0 R0 G st on o4 (some (.d (.bool b))) o6) T=some (b,T):=fun b G st on o4 o6=>by simp[ρM]
  have hb:mdB (ρM D0 R0 G st on o4 (some (.d (.bool true))) o6) T=some ((.nx,ρM D0 R0 G' st' on' o4 (some (.d (.bool (decide (G.length<G'.length))))) (some (.d (.int G.length)))),T):=by
   simp only[ρM,bkD] at e1;simp[mdB,ρM,bkD,e1]
  rw[nj (hc _ _ _ _ _ _) hb]
  by_cases c:G.length<G'.length
  .rw[decide_eq_true c]
   have:=R.lt c;obtain⟨G2,st2,on2,o52,o62,f1,f2,f3,f4,f5⟩:=u7 B (T:=T) m G' st' on' o4 (some (.d (.int G.length))) (by omega) R.snd R.si R.bd;exact⟨G2,st2,on2,o52,o62,f1,f2,R.sub.trans f3,f4,f5⟩
  .rw[decide_eq_false c]
   obtain⟨m,rfl⟩:=bg m (by omega);rw[mJ (hc _ _ _ _ _ _)];obtain⟨q1,q2,_⟩:=R.same (by have:=R.le;omega);refine⟨G',st',on',_,_,rfl,R.snd,R.sub,fun x r v hr e=>?_,fun x r hr=>?_⟩
   .have cg:=l8 q1 (R.snd.gv B) B.n20 (c8 (B.rg hr).1 B.n20)
    rw[q1];exact(q2 x r (rB hr) hr).2 r v hr (by rw[←cg];exact e)
   .have cg:=l8 q1 (R.snd.gv B) B.n20 (c8 (B.rg hr).1 B.n20)
    rw[(q2 x r (rB hr) hr).1,cg]
theorem qh(h:PyData.str x∉ds.map (·.1)):aA ds x=none:=by
 cases e:aA ds x with
 |none=>rfl
 |some v=>exact absurd (List.mem_map.mpr ⟨_,kA e,rfl⟩) h
def fm(q:PyData×PyData):PyData×PyData:=(q.1,cm (s0 q.2))
def ρ0(D0 R0:Dc)(c:Dc)(on o4:Option D.W):Rho:=[some (.d (bkD D0 R0)),some (.loc (.dict D0)),some (.loc (.dict c)),on,o4,none,none]
theorem wH(h:b ((ρ.set i (some (.d d.1))).set j (some (.d d.2))) T=some ((.nx,ρ'),T)):fq i j b (d::r) ρ T=fq i j b r ρ' T:=by
 show bnd (b ((ρ.set i (some (.d d.1))).set j (some (.d d.2))) T) _=_;rw[h];rfl
theorem wb(B:Bk p n D0 R0):∀(rest P:Dc) (on o4:Option D.W),R0=P++rest->∃on' o4',fq 3 4 mdS rest (ρ0 D0 R0 (P.map fm) on o4) T=some ((.nx,ρ0 D0 R0 (R0.map fm) on' o4'),T)
 |[],P,on,o4,e=>⟨on,o4,by rw[e];simp[fq]⟩
 |q::rest,P,on,o4,e=>by
  have hq:q∈R0:=by rw[e];simp
  obtain⟨x,r,rfl,hr,hk,_⟩:=B.rk q hq;have ls:=Fu T hr B.n20
  have nk:aA (P.map fm) x=none:=qh fun z=>by
   have nd:=B.rnd;rw[e,List.map_append,List.nodup_append] at nd;obtain⟨q,hq1,hq2⟩:=List.mem_map.mp z;obtain⟨q',hq3,rfl⟩:=List.mem_map.mp hq1;exact nd.2.2 q'.1 (List.mem_map.mpr ⟨q',hq3,rfl⟩) (.str x) (by simp) hq2
  have pn:putN (P.map fm) x (cm (s0 r))=(P++[(PyData.str x,r)]).map fm:=by
   unfold putN;rw[nk,if_neg (by simp)];simp[fm]
  have pl:(P.map fm).length<=1000:=by
   have:=B.len
   have e2:R0.length=P.length+(rest.length+1):=by rw[e];simp
   simp;omega
  have st:mdS (((ρ0 D0 R0 (P.map fm) on o4).set 3 (some (.d (.str x)))).set 4 (some (.d r))) T=some ((.nx,ρ0 D0 R0 ((P++[(PyData.str x,r)]).map fm) (some (.d (.str x))) (some (.d r))),T):=by
   rw[←pn];simp at pl;simp[mdS,ρ0,ls,pl]
  rw[wH st];exact wb B rest (P++[(.str x,r)]) _ _ (by rw[e];simp)
def stI(R0:Dc)(x:Str):St3:=match aA R0 x with
 |some r=>s0 r
 |none=>⟨[],[],.none⟩
theorem ER(B:Bk p n D0 R0):R0.map fm=cmL R0 (stI R0):=by
 unfold cmL;refine List.map_congr_left fun q hq=>?_;obtain⟨x,r,rfl,_,hk,_⟩:=B.rk q hq;simp[fm,nm,stI,hk]
theorem D4(s:St3):run [] s=s:=by
 unfold run
 cases 12-s.gs.length with
 |zero=>rfl
 |succ f=>
  rw[i9]
  cases fS s.S with
  |none=>rfl
  |some q=>rfl
theorem D2:SI R0 D0 (stI R0):=fun x r hr=>⟨[],fun y v h=>(by cases h),fun y v h=>(by cases h),by simp[stI,hr,D4]⟩
theorem Hy(B:Bk p n D0 R0)(T:Tp):∃G st,lU [.d (bkD D0 R0)] T=some (.tuple [.dict G,.dict (cmL R0 st)],T)/\Snd D0 R0 G/\Sub D0 G/\(∀x,ClsAt R0 G x)/\∀x r,aA R0 x=some r->st x=run G (s0 r):=by
 have hl:=B.len;have hm:=xM (R0:=R0) D0;obtain⟨on,o4,i1⟩:=wb B (T:=T) R0 [] none none rfl;obtain⟨G,st,on',o5,o6,e1,e2,e3,e4,e5⟩:=u7 B (T:=T) 100000 D0 (stI R0) on o4 none (by omega) (zr B) D2 (by omega);refine⟨G,st,?_,e2,e3,e4,e5⟩;rw[ER B] at i1;rw[EE];simp only[ρ0,bkD] at i1;simp only[ρM,bkD] at e1;have fi:∀ρ T,gB 3 4 (af ixD (aa 0) (fC (.int 1))) mdS ρ T=bnd (af ixD (aa 0) (fC (.int 1)) ρ T) (lG 3 4 mdS ρ):=fun _ _=>rfl;have fk:∀ρ T,lG 3 4 mdS ρ (.d (.dict R0)) T=fq 3 4 mdS R0 ρ T:=fun _ _=>rfl;simp[bkD,fi,fk];simp at i1;simp[i1,e1]
end
def lfI:FS:=(bL 1 (aa 2) (ar ke (ae (aa 2) (ae (af ixA (aa 0) (aa 2)) ah))))
theorem IG:lV=aN 3 (ak (c9 1) (ak (bw 2 (bc (aa 0)) lfI) (az (aa 1)))):=rfl
def ln(x:Str)(s:St3):PyData:=.tuple [.str x,.tuple (s.rd.map rdS),dq s.S]
theorem FF(T:Tp)(h:StepOk p g n S):jo [.d S] T=some (dq S,T):=by
 rcases eK h with⟨v,rfl,hv⟩|⟨x,rfl,_⟩|⟨b,x,r,rfl,_⟩
 .rw[m4]
  simp[jo,mdT,nr T hv]
 .rw[m5]
  simp[jo,flT]
 .rw[m6]
  cases b <;> simp[jo,asT,dI]
theorem Hz(T:Tp)(h:OkS p n s):ke [.d (.str x),.d (cm s)] T=some (ln x s,T):=by
 have c:bC bF (av .tuple (ae (af ixD (aa 0) (fC (.int 0))) (ae (ar (dh 25) (ae (af ixD (aa 0) (fC (.int 1))) ah)) ah))) [some (.d (.str x)),some (.d (cm s)),none] s.rd T=some (s.rd.map rdS,T):=eO fun d hd=>by
  obtain⟨y,v,rfl,hv⟩:=h.rv d hd;simp[nr T hv,rdS]
 have e:=FF T h.st;have e1:ixD (cm s) (.int 1)=some (.tuple s.rd):=rfl;have e2:ixD (cm s) (.int 2)=some s.S:=rfl;simp[ke,e1,e2,c,e,ln,D.bE]
def lnL(R0:Dc)(st:Str->St3):Dc:=R0.map fun q=>(q.1,ln (nm q.1) (st (nm q.1)))
theorem GM{st:Str->St3}:aA (lnL R0 st) x=(aA R0 x).map fun _=>ln x (st x):=by
 induction R0 with
 |nil=>rfl
 |cons q r ih=>
  obtain⟨k,d⟩:=q
  cases k with
  |str k=>
   by_cases hk:k=x
   .subst hk
    simp[lnL,aA,nm]
   .have:=ih
    simp[lnL] at this;simp[lnL,aA,hk,this]
  |_=>exact ih
section
variable {p:Bool}{n:Nat}{D0 R0:Dc}
theorem xR(B:Bk p n D0 R0){st:Str->St3}(ok:∀x r,aA R0 x=some r->OkS p n (st x)):∀(rest P:Dc) (on:Option D.W),R0=P++rest->∃on',forL 2 lfI (rest.map (·.1)) [some (.d (.dict (cmL R0 st))),some (.loc (.dict (lnL P st))),on] T=some ((.nx,[some (.d (.dict (cmL R0 st))),some (.loc (.dict (lnL R0 st))),on']),T)
 |[],P,on,e=>⟨on,by rw[e];simp[forL]⟩
 |q::rest,P,on,e=>by
  have hq:q∈R0:=by rw[e];simp
  obtain⟨x,r,rfl,hr,hk,_⟩:=B.rk q hq
  have nk:aA (lnL P st) x=none:=qh fun z=>by
   have nd:=B.rnd;rw[e,List.map_append,List.nodup_append] at nd;obtain⟨q,hq1,hq2⟩:=List.mem_map.mp z;obtain⟨q',hq3,rfl⟩:=List.mem_map.mp hq1;exact nd.2.2 q'.1 (List.mem_map.mpr ⟨q',hq3,rfl⟩) (.str x) (by simp) hq2
  have pn:putN (lnL P st) x (ln x (st x))=lnL (P++[(PyData.str x,r)]) st:=by
   unfold putN;rw[nk,if_neg (by simp)];simp[lnL,nm]
  have pl:(lnL P st).length<=1000:=by
   have:=B.len
   have e2:R0.length=P.length+(rest.length+1):=by rw[e];simp
   simp[lnL];omega
  have c1:aA (cmL R0 st) x=some (cm (st x)):=by rw[nZ,hk];rfl
  have ll:=Hz (x:=x) T (ok x r hk)
  have st1:lfI (List.set [some (.d (.dict (cmL R0 st))),some (.loc (.dict (lnL P st))),on] 2 (some (.d (.str x)))) T=some ((.nx,[some (.d (.dict (cmL R0 st))),some (.loc (.dict (lnL (P++[(PyData.str x,r)]) st))),some (.d (.str x))]),T):=by
   rw[←pn];simp[lfI,c1,ll,pl]
  rw[List.map_cons,kR st1];exact xR B ok rest (P++[(.str x,r)]) _ (by rw[e];simp)
theorem Fy(B:Bk p n D0 R0){st:Str->St3}(ok:∀x r,aA R0 x=some r->OkS p n (st x))(T:Tp):lV [.d (.dict (cmL R0 st))] T=some (.dict (lnL R0 st),T):=by
 obtain⟨on,e⟩:=xR B ok (T:=T) R0 [] none rfl
 have ek:(cmL R0 st).map (·.1)=R0.map (·.1):=by simp[cmL]
 rw[IG];have e0:lnL ([]:Dc) st=[]:=rfl;rw[e0] at e;simp[ek,e]
end
theorem tJ:∀{l:List (List Nat)},c∈bq s l->c∈s\/∃x∈l,c∈x
 |[],h=>by simp[bq] at h
 |x::r,h=>by
  rw[kl] at h
  rcases List.mem_append.mp h with z|z
  .exact .inr ⟨x,List.mem_cons_self,z⟩
  .obtain⟨y,hy,hc⟩:=List.mem_flatten.mp z
   obtain⟨q,hq,rfl⟩:=List.mem_map.mp hy
   rcases List.mem_append.mp hc with w|w
   .exact .inl w
   .exact .inr ⟨q,List.mem_cons_of_mem _ hq,w⟩
theorem ym:∀(n:Nat) (d:PyData),aO n d=true->∀c∈cst n d,c<128
 |n,d,h,c,hc=>by
  rcases cV h with h1|⟨m,ds,rfl,rfl,_,hd⟩
  .rcases cS h1 with⟨i,rfl⟩|⟨x,rfl⟩
   .rw[m9] at hc
    rcases v8 i c hc with z|z <;> omega
   .rw[m8] at hc
    rcases List.mem_cons.mp hc with z|z
    .omega
    .exact K1.iO K1.jH (tD h1) c z
  .have e:cst (m+1) (.tuple ds)=40::bq [44] (ds.map (cst m))++[41]:=rfl
   rw[e] at hc
   rcases List.mem_append.mp hc with z|z
   .rcases List.mem_cons.mp z with z|z
    .omega
    .rcases tJ z with w|⟨x,hx,hcx⟩
     .have:=List.mem_singleton.mp w;omega
     .obtain⟨d',hd',rfl⟩:=List.mem_map.mp hx
      exact ym m d' (hd d' hd') c hcx
   .have:=List.mem_singleton.mp z;omega
termination_by n=>n
def Lw(x:Str):Prop:=∀c∈cd x,c<128
theorem gw(h:aF v=true):Lw (mk (cst 4 v)):=fun c hc=>ym 4 v (cI h).1 c (by rw[dR] at hc;exact hc)
theorem eV(h:isName (.str x)=true):Lw x:=by
 have h':(decide (1<=x.length)&&decide (x.length<=8)&&has LET x)=true:=h;rw[Bool.and_eq_true] at h';exact fun c hc=>K1.iO K1.HG h'.2 c hc
theorem cL(h:((cd (Str.ofString s)).all fun c=>decide (c<128))=true):Lw (Str.ofString s):=fun c hc=>of_decide_eq_true (List.all_eq_true.mp h c hc)
theorem rS(h:Lw x):PyData.strOk x=true:=by
 unfold PyData.strOk;rw[←Array.all_toList,List.all_eq_true];exact fun c hc=>decide_eq_true (by have:=h c hc;omega)
theorem szL:sizeLine=16777216:=by decide
theorem len_app(a b:Str):(a++b).length=a.length+b.length:=by
 show (a++b).cps.size=_;rw[PySem.Str.cps_append,Array.size_append];rfl
theorem rng_ok(h0:0<=j)(h1:j<=1000):eS j=true:=Bt h0 h1
theorem n8{α:Type}{xs:List α}{i:Int}(h0:0<=i)(h1:i<xs.length):∃x,atI xs i=some x/\x∈xs:=by
 unfold atI ixN;rw[if_pos h0,if_pos h1]
 have hl:i.toNat<xs.length:=by omega
 exact⟨xs[i.toNat],by simp[hl],List.getElem_mem hl⟩
theorem jt{I:Nat->Rho->Tp->Prop}:∀(ds:List PyData) (k:Nat) (ρ:Rho) (T:Tp),k+ds.length<=N->I k ρ T ->
  (∀k d ρ T,d∈ds->k<N->I k ρ T->∃ρ' T',body (ρ.set i (some (.d d))) T=some ((.nx,ρ'),T')/\I (k+1) ρ' T')->∃ρ' T',forL i body ds ρ T=some ((.nx,ρ'),T')/\I (k+ds.length) ρ' T'
 |[],k,ρ,T,_,h,_=>⟨ρ,T,rfl,h⟩
 |d::r,k,ρ,T,hN,h,hs=>by
  rw[List.length_cons] at hN;obtain⟨ρ1,T1,e1,h1⟩:=hs k d ρ T List.mem_cons_self (by omega) h;obtain⟨ρ2,T2,e2,h2⟩:=jt (body:=body) (I:=I) r (k+1) ρ1 T1 (by omega) h1 fun k d ρ T hd=>hs k d ρ T (List.mem_cons_of_mem _ hd);refine⟨ρ2,T2,?_,by rw[List.length_cons,show k+(r.length+1)=k+1+r.length by omega];exact h2⟩;unfold forL;rw[e1];exact e2
theorem u5(h:d∈cy 0 n):∃j:Int,d=.int j/\0<=j/\j<n:=by
 obtain⟨k,hk,rfl⟩:=List.mem_map.mp h;have:=List.mem_range.mp hk;exact⟨0+(k:Int),rfl,by omega,by omega⟩
def Fr(xs:List PyData):Prop:=∃c n k:Int,xs=[.int c,.int n,.int k]
theorem zD:op2 o ((.int c::xs)::r) (.tp 0) (.d y)=mkD ((.int c::xs)::r) (o (.list (.int c::xs)) y):=rfl
theorem wB:isO (.int c::r)=false:=rfl
theorem Dg:r6 (.int i) (.int j)=if 0<j/\j<18446744073709551616 then some (.int (i / j)) else none:=rfl
theorem ix0:ixN 3 0=some 0:=rfl
theorem rQ:fj (.int 10) (.int 18)=some (.int 1000000000000000000):=rfl
theorem bB(h:Fr xs)(h1:0<m)(h2:m<=1000000000000000000):∃r xs',aP [.tp 0,.d (.int m)] [xs]=some (.int r,[xs'])/\Fr xs'/\0<=r/\r<m:=by
 obtain⟨c,n,k,rfl⟩:=h
 by_cases hc:1000000000000000000<=c
 .refine⟨c % m,[.int (c / m),.int (n+1),.int k],?_,⟨_,_,_,rfl⟩,Int.emod_nonneg _ (by omega),Int.emod_lt_of_pos _ h1⟩
  have h3:m<18446744073709551616:=by omega
  simp[aP,lO,zD,wB,at0,at1,at2,ix0,ix1,ix2,rQ,hc,h1,h3,Dg]
 .have e:∃z:Int,aP [.tp 0,.d (.int m)] [[.int c,.int n,.int k]]=some (.int (z % m),[[.int c,.int (n+1),.int k]]):=by
   refine⟨?_,?_⟩
   rotate_left
   .simp[aP,lO,zD,wB,at0,at1,at2,ix0,ix1,ix2,rQ,hc,h1]
    rfl
  obtain⟨z,e⟩:=e;exact⟨z % m,_,e,⟨_,_,_,rfl⟩,Int.emod_nonneg _ (by omega),Int.emod_lt_of_pos _ h1⟩
@[simp] theorem Mo:lj N s ws T=if cK ws=true then rD (s (ws.map some++List.replicate (N-ws.length) none) T) else none:=rfl
@[simp] theorem LF:rD (some ((.ro x,r),T))=some (x,T):=rfl
@[simp] theorem Kj:nQ a ρ T=bnd (a ρ T) fun ws T1=>nA ρ (dQ ws) T1:=rfl
@[simp] theorem JU:nA ρ (some xs) T=if xs.length<=1000 then some ((.ro (.list xs),ρ),T) else none:=rfl
@[simp] theorem Ki:i7 s (.ro x,ρ) T=some ((.ro x,ρ),T):=rfl
theorem iV(ns:List Int)(k:Int)(hk:0<=k):∃xs,Fr xs/\∀T,bM [.d (.list (ns.map PyData.int)),.d (.int k)] T=some (.list xs,T):=by
 cases ns with
 |nil=>exact⟨_,⟨0,0,k,rfl⟩,fun T=>by simp[bM]⟩
 |cons a r=>
  have hp:(0:Int)<(((a::r).map PyData.int).length:Int):=by simp
  obtain⟨d,e1,hm⟩:=n8 (xs:=(a::r).map PyData.int) (i:=k % (((a::r).map PyData.int).length:Int)) (Int.emod_nonneg _ (by omega)) (Int.emod_lt_of_pos _ hp);obtain⟨c,_,rfl⟩:=List.mem_map.mp hm;refine⟨_,⟨c,0,k,rfl⟩,fun T=>?_⟩;generalize (a::r).map PyData.int=l at hp e1
  have h0:¬(l.length:Int)=0:=by omega
  have h3:0<l.length:=by omega
  have h0':l≠[]:=fun z=>by rw[z] at hp;simp at hp
  simp[bM,hp,e1,h0,h0',h3]
def nl(l:List Str):List PyData:=l.map PyData.str
theorem cu(l:List Str):(nl l).length=l.length:=by simp[nl]
theorem rX(w:Str)(xs:List Str):inD (.str w) (.list (nl xs))=some (.bool (decide (w∈xs))):=by
 have h:(xs.map PyData.str).all cz=true:=by simp[cz]
 show (if cz (.str w)&&(xs.map PyData.str).all cz then some ((xs.map PyData.str).any fun y=>eqF y (.str w)) else none).map PyData.bool=_;rw[h];simp[cz,eqF,List.any_map]
 induction xs with
 |nil=>simp
 |cons a r ih=>
  have ih':=ih (by simp[cz]);simp only[List.any_cons,ih',List.mem_cons,Function.comp,eqF]
  by_cases e:w=a
  .subst e;simp
  .have e':¬a=w:=fun z=>e z.symm
   simp[e,e']
theorem GF(w:Str)(xs:List Str):fJ (.str w) (.list (nl xs))=some (.bool (!decide (w∈xs))):=by
 have h:=rX w xs;unfold inD at h;unfold fJ
 cases hb:inS (.str w) (.list (nl xs)) with
 |none=>rw[hb] at h;cases h
 |some b=>
  rw[hb] at h;simp at h;simp[h]
theorem oM(h0:0<=i)(h1:i<(l.length:Int)):∃x,atI (nl l) i=some (.str x)/\x∈l:=by
 obtain⟨d,e,hm⟩:=n8 (xs:=nl l) h0 (by rw[cu];exact h1);obtain⟨x,hx,rfl⟩:=List.mem_map.mp hm;exact⟨x,e,hx⟩
def sfC(c:Nat):Bool:=decide (c∈K1.LET.cps.toList)
def Sf(x:Str):Prop:=∀c∈x.cps.toList,sfC c=true
theorem yC(h:(x.cps.toList.all sfC)=true):Sf x:=fun c hc=>List.all_eq_true.mp h c hc
theorem Sf.app(h:Sf x)(g:Sf y):Sf (x++y):=fun c hc=>by
 rw[PySem.Str.cps_append,Array.toList_append] at hc
 rcases List.mem_append.mp hc with z|z
 .exact h c z
 .exact g c z
def Nx(n:Nat)(x:Str):Prop:=x.length<=n/\Sf x/\1<=x.length
theorem Nx.mono(h:Nx n x)(l:n<=m):Nx m x:=⟨Nat.le_trans h.1 l,h.2⟩
def Ns(l:List Str):Prop:=∀x∈l,Nx 8 x
def LT:Str:=Str.ofString "abcdefghijklmnopqrstuvwxyz"
def LTs:List Str:=LT.cps.toList.map fun c=>(⟨#[c]⟩:Str)
theorem GL:LTs.Nodup:=by decide +kernel
theorem EG:LTs.length=26:=by decide +kernel
theorem wm(h:x∈LTs):x.length=1:=by
 obtain⟨c,_,rfl⟩:=List.mem_map.mp h;rfl
theorem rq(h:x∈LTs):Nx 1 x:=by
 have:(LTs.all fun x=>x.cps.toList.all sfC)=true:=by decide +kernel
 exact⟨by rw[wm h];exact Nat.le_refl 1,yC (List.all_eq_true.mp this x h),by rw[wm h];exact Nat.le_refl 1⟩
theorem qf:D.signs LT=nl LTs:=by
 unfold D.signs nl LTs;rw[List.map_map];rfl
theorem xQ:LT.length=26:=by decide +kernel
theorem yP(h0:0<=i)(h1:i<26):∃x∈LTs,ixD (.str LT) (.int i)=some (.str x):=by
 have hl:LT.cps.toList.length=26:=by decide +kernel
 obtain⟨c,e,hm⟩:=n8 (xs:=LT.cps.toList) h0 (by rw[hl];exact h1);refine⟨⟨#[c]⟩,List.mem_map.mpr ⟨c,hm,rfl⟩,?_⟩;rw[Ha,if_pos (by rw[xQ,szL];decide),e];rfl
theorem rp{α:Type}[DecidableEq α]:∀{L N:List α},L.Nodup->N.length<L.length->∃x∈L,x∉N
 |[],N,_,h=>absurd h (by simp)
 |a::L,N,nd,h=>by
  rw[List.nodup_cons] at nd
  by_cases ha:a∈N
  .have hp:(N.erase a).length<L.length:=by
    have h1:=List.length_erase_of_mem ha;have h2:0<N.length:=List.length_pos_of_mem ha;rw[List.length_cons] at h;omega
   obtain⟨x,hx,nx⟩:=rp nd.2 hp;refine⟨x,List.mem_cons_of_mem _ hx,fun z=>nx ?_⟩;exact(List.mem_erase_of_ne (fun(q:x=a)=>nd.1 (q ▸ hx))).mpr z
  .exact⟨a,List.mem_cons_self,ha⟩
theorem AU(h:l.length<26)(ρ:Rho)(T:Tp)(hv:∀d,aa 5 (some (.d d)::ρ) T=some (.loc (.list (nl l)),T)) :
  ∃x ys,(x∈LTs/\x∉l)/\bC (ay (af fJ (aa 0) (aa 5))) (aa 0) ρ (D.signs LT) T=some (.str x::ys,T):=by
 have c:bC (ay (af fJ (aa 0) (aa 5))) (aa 0) ρ (D.signs LT) T=some ((D.signs LT).filter (fun d=>match d with | .str x=>!decide (x∈l)|_=>false),T):=sW fun d hd=>by
  rw[qf] at hd;obtain⟨x,hx,rfl⟩:=List.mem_map.mp hd;have:op2 fJ T (.d (.str x)) (.loc (.list (nl l)))=mkD T (fJ (.str x) (.list (nl l))):=rfl;simp[hv,this,GF]
 rw[c];obtain⟨x,hx,nx⟩:=rp (N:=l) GL (by rw[EG];exact h)
 have hm:PyData.str x∈(D.signs LT).filter (fun d=>match d with | .str x=>!decide (x∈l)|_=>false):=by
  rw[List.mem_filter,qf];exact⟨List.mem_map.mpr ⟨x,hx,rfl⟩,by simp[nx]⟩
 cases hf:(D.signs LT).filter (fun d=>match d with | .str x=>!decide (x∈l)|_=>false) with
 |nil=>rw[hf] at hm;cases hm
 |cons d r=>
  have hd:d∈(D.signs LT).filter (fun d=>match d with | .str x=>!decide (x∈l)|_=>false):=by rw[hf];exact List.mem_cons_self
  rw[List.mem_filter,qf] at hd;obtain⟨y,hy,rfl⟩:=List.mem_map.mp hd.1;exact⟨y,r,⟨hy,by simpa using hd.2⟩,rfl⟩
theorem Cm(z:Str)(n:Nat):(Txt.slice z none (some (n:Int))).length<=n:=by
 have e:Builtin.Str.strSliceIndices none (some (n:Int)) 1 z.length=Builtin.Str.strSliceIndices (some 0) (some (n:Int)) 1 z.length:=by
  have hm:max 0 (min (0:Int) (z.length:Int))=0:=by omega
  unfold Builtin.Str.strSliceIndices sliceRange;simp[hm]
 have e2:Txt.slice z none (some (n:Int))=Txt.slice z (some 0) (some (n:Int)):=by
  unfold Txt.slice;rw[e]
 rw[e2,←fN,uR (by omega) (by omega),List.length_take];omega
theorem Co(h:1<=z.length):1<=(Txt.slice z none (some (8:Int))).length:=by
 have e:Builtin.Str.strSliceIndices none (some (8:Int)) 1 z.length=Builtin.Str.strSliceIndices (some 0) (some (8:Int)) 1 z.length:=by
  have hm:max 0 (min (0:Int) (z.length:Int))=0:=by omega
  unfold Builtin.Str.strSliceIndices sliceRange;simp[hm]
 have e2:Txt.slice z none (some (8:Int))=Txt.slice z (some 0) (some (8:Int)):=by
  unfold Txt.slice;rw[e]
 rw[e2,←fN,uR (by omega) (by omega),List.length_take,List.length_drop,fN];show 1<=min ((8:Int).toNat-(0:Int).toNat) _;simp;omega
theorem EC(x:Str):x.length<=(Txt.mul x 4).length:=by
 unfold Txt.mul
 by_cases h:x.length=0
 .simp[h]
 .have h2:¬((4:Int) == 1||x.length == 0)=true:=by simp[h]
  rw[if_neg (by decide),if_neg h2];show _<=((List.replicate 4 x.cps).foldl (·++·) #[]).size;have e:x.length=x.cps.size:=rfl;rw[e];simp[List.replicate]
theorem CQ(x:Str):(Txt.mul x 4).length<=4*x.length:=by
 unfold Txt.mul
 by_cases h:x.length=0
 .simp[h]
 .have h2:¬((4:Int) == 1||x.length == 0)=true:=by simp[h]
  rw[if_neg (by decide),if_neg h2];show ((List.replicate 4 x.cps).foldl (·++·) #[]).size<=_;have e:x.length=x.cps.size:=rfl;rw[e];simp[List.replicate];omega
theorem EB(h:Sf x):Sf (Txt.mul x 4):=by
 unfold Txt.mul
 by_cases h0:x.length=0
 .simp[h0];exact h
 .have h2:¬((4:Int) == 1||x.length == 0)=true:=by simp[h0]
  rw[if_neg (by decide),if_neg h2];intro c hc;have hc':c∈((List.replicate 4 x.cps).foldl (·++·) #[]).toList:=hc;simp[List.replicate] at hc';exact h c (by simpa using hc')
theorem Cn(h:Sf x):Sf (Txt.slice x l u):=fun c hc=>h c (Br hc)
def WD:List Str:=["made","told","say","want","fails","got","put","lacks"]
theorem FL(h:x∈WD):Nx 8 x:=by
 have h1:(WD.all fun x=>decide (x.length<=8))=true:=by decide +kernel
 have h2:(WD.all fun x=>x.cps.toList.all sfC)=true:=by decide +kernel
 have h3:(WD.all fun x=>decide (1<=x.length))=true:=by decide +kernel
 exact⟨of_decide_eq_true (List.all_eq_true.mp h1 x h),yC (List.all_eq_true.mp h2 x h),of_decide_eq_true (List.all_eq_true.mp h3 x h)⟩
theorem bG(h:a ρ T=some ((.nx,ρ1),T1)):ak a b ρ T=b ρ1 T1:=by
 rw[G9,h];rfl
def ρN(m:PyData)(l:List Str)(o5:Option W)(w:Int)(x:Str):Rho:=[some (.tp 0),some (.d m),some (.d (.list (nl WD))),some (.d (.str LT)),some (.loc (.list (nl l))),o5,some (.d (.int w)),some (.d (.str x))]
section
variable {m:PyData}{l:List Str}{o5:Option W}{w:Int}{x:Str}{xs:List PyData}
theorem GH(hf:Fr xs)(hx:Nx 1 x):∃x' xs',fIf (ay (af eqD (aa 6) (fC (.int 0)))) (aG 7 (af ixD (aa 2) (ar aP (ae (aa 0) (ae (fC (.int 8)) ah))))) aD (ρN m l o5 w x) [xs]=some ((.nx,ρN m l o5 w x'),[xs'])/\Nx 8 x'/\(w≠0->x'=x)/\Fr xs':=by
 by_cases hw:w=0
 .obtain⟨r,xs',e,h',r0,r1⟩:=bB hf (m:=8) (by decide) (by decide)
  obtain⟨y,ey,my⟩:=oM (l:=WD) r0 (by simpa[WD] using r1);refine⟨y,xs',?_,FL my,fun z=>absurd hw z,h'⟩;simp[ρN,hw,e,ey]
 .exact⟨x,xs,by simp[ρN,hw],hx.mono (by decide),fun _=>rfl,hf⟩
theorem Fq(h:0<l.length):∃y∈l,atI (nl l) (-1)=some (.str y):=by
 unfold atI ixN;rw[cu,if_neg (by omega),if_pos (by omega)]
 have hl:(-1+(l.length:Int)).toNat<l.length:=by omega
 exact⟨l[(-1+(l.length:Int)).toNat],List.getElem_mem hl,by simp[nl,hl]⟩
theorem Im:op2 o T (.loc (.list ys)) (.d y)=mkD T (o (.list ys) y):=rfl
theorem yI:op2 o T (.d y) (.loc (.list ys))=mkD T (o y (.list ys)):=rfl
theorem GI(hl:Ns l)(hx:Nx 8 x):∃x',fIf (bU (ay (af eqD (aa 6) (fC (.int 1)))) (ay (af gtD (fCB a8 (ae (aa 4) ah)) (fC (.int 0))))) (aG 7 (fSl (af aS (af ixD (aa 4) (fUn fW (fC (.int 1)))) (aa 7)) cQ (fP (fC (.int 8))))) aD (ρN m l o5 w x) [xs]=some ((.nx,ρN m l o5 w x'),[xs])/\Nx 8 x'/\(w≠1->x'=x):=by
 by_cases hw:w=1
 .by_cases h0:0<l.length
  .obtain⟨y,my,ey⟩:=Fq h0
   have hy:=hl y my
   have z:y.length+x.length<=sizeLine:=by have:=hy.1;have:=hx.1;rw[szL];omega
   have z2:(y++x).length<=sizeLine:=by rw[len_app];exact z
   refine⟨Txt.slice (y++x) none (some 8),?_,⟨Cm (y++x) 8,Cn (hy.2.1.app hx.2.1),Co (by rw[len_app];have:=hx.2.2;omega)⟩,fun z=>absurd hw z⟩;simp[ρN,hw,cu,h0,Im,ey,z,z2]
  .have h1:l=[]:=List.eq_nil_of_length_eq_zero (by omega)
   exact⟨x,by simp[ρN,hw,h1,nl],hx,fun z=>absurd hw z⟩
 .exact⟨x,by simp[ρN,hw],hx,fun _=>rfl⟩
theorem Iv(hf:Fr xs)(hx:Nx 8 x)(h2:w=2->x.length<=1):∃x' xs',fIf (ay (af eqD (aa 6) (fC (.int 2)))) (aG 7 (af eA (af aS (aa 7) (af ixD (aa 3) (ar aP (ae (aa 0) (ae (fC (.int 26)) ah))))) (fC (.int 4)))) aD (ρN m l o5 w x) [xs]=some ((.nx,ρN m l o5 w x'),[xs'])/\Nx 8 x'/\Fr xs':=by
 by_cases hw:w=2
 .obtain⟨r,xs',e,h',r0,r1⟩:=bB hf (m:=26) (by decide) (by decide)
  obtain⟨y,my,ey⟩:=yP r0 r1;have hy:=rq my;have hy1:=hy.1;have hx1:=hx.1
  have z:x.length+y.length<=sizeLine:=by rw[szL];omega
  have z2:(x++y).length<=1000:=by rw[len_app];omega
  have z3:=CQ (x++y);rw[len_app] at z3;have h2':=h2 hw;have z4:=EC (x++y);rw[len_app] at z4;have hx3:=hx.2.2;refine⟨Txt.mul (x++y) 4,xs',?_,⟨by omega,EB (hx.2.1.app hy.2.1),by omega⟩,h'⟩;simp only[ρN,hw,IW,G8,nY,mX,mW,mV,mU,qO,qN,qM,EZ,fL,mZ,zK,nV,Hd,nX,E3,Hb,decide_true,if_true,nU,wL,mY,mG,nW,e,ey,E5,z,E4,z2,wK];rfl
 .exact⟨x,xs,by simp[ρN,hw],hx.mono (by decide),hf⟩
theorem Iy(h26:l.length<26)(hx:Nx 8 x):∃x',fIf (ay (af inD (aa 7) (aa 4))) (aG 7 (af ixD (bH (bc (aa 3)) (ay (af fJ (aa 0) (aa 5))) (aa 0)) (fC (.int 0)))) aD (ρN m l o5 w x) [xs]=some ((.nx,ρN m l o5 w x'),[xs])/\Nx 8 x'/\x'∉l:=by
 by_cases hi:x∈l
 .obtain⟨y,ys,⟨my,ny⟩,c⟩:=AU h26 (ρN m l o5 w x) [xs] (fun d=>rfl)
  have hy:=rq my;refine⟨y,?_,hy.mono (by decide),ny⟩
  have z:LT.length<=sizeLine:=by rw[xQ,szL];decide
  have a0:atI (PyData.str y::ys) 0=some (.str y):=by simp[atI,ixN]
  unfold ρN at c;simp[ρN,yI,rX,hi,z,c,a0]
 .exact⟨x,by simp[ρN,yI,rX,hi],hx,hi⟩
theorem Iw(hf:Fr xs)(h6:l.length<=20)(nd:l.Nodup)(nx:x∉l):∃l' xs',lP 4 (ar aP (ae (aa 0) (ae (af aS (fCB a8 (ae (aa 4) ah)) (fC (.int 1))) ah))) (aa 7) (ρN m l o5 w x) [xs]=some ((.nx,ρN m l' o5 w x),[xs'])/\Fr xs'/\l'.length=l.length+1/\l'.Nodup/\∀y∈l',y=x\/y∈l:=by
 obtain⟨r,xs',e,h',r0,r1⟩:=bB hf (m:=(l.length:Int)+1) (by omega) (by omega);refine⟨l.take r.toNat++x::l.drop r.toNat,xs',?_,h',by simp;omega,?_,fun y hy=>?_⟩
 .have h3:0<=r/\r<=((nl l).length:Int)/\(nl l).length<=1000:=⟨r0,by rw[cu];omega,by rw[cu];omega⟩
  have k:lM 4 (ρN m l o5 w x) (.d (.int r)) (.d (.str x)) [xs'] (some (some (.loc (.list (nl l)))))=some ((.nx,(ρN m l o5 w x).set 4 (some (.loc (.list ((nl l).take r.toNat++.str x::(nl l).drop r.toNat))))),[xs']):=by
   unfold lM;dsimp only;rw[if_pos h3]
  unfold lP
  have e1:ar aP (ae (aa 0) (ae (af aS (fCB a8 (ae (aa 4) ah)) (fC (.int 1))) ah)) (ρN m l o5 w x) [xs]=some (.d (.int r),[xs']):=by
   simp[ρN,cu,e]
  have e2:aa 7 (ρN m l o5 w x) [xs']=some (.d (.str x),[xs']):=rfl;rw[e1];dsimp only[fL];rw[e2];refine Eq.trans k ?_;simp[ρN,nl]
 .have e:(x::(l.take r.toNat++l.drop r.toNat)).Nodup:=by
   rw[List.take_append_drop];exact List.nodup_cons.mpr ⟨nx,nd⟩
  exact List.perm_middle.symm.nodup e
 .rcases List.mem_append.mp hy with q|q
  .exact .inr (List.mem_of_mem_take q)
  .rcases List.mem_cons.mp q with q|q
   .exact .inl q
   .exact .inr (List.mem_of_mem_drop q)
end
theorem Fw(hf:Fr xs)(h0:0<=m)(h1:m<=20):∃l xs',ji [.tp 0,.d (.int m)] [xs]=some (.list (nl l),[xs'])/\Ns l/\l.Nodup/\(l.length:Int)=m:=by
 have lp:=jt (i:=5) (body:=pN) (N:=20) (I:=fun k ρ T=>∃l xs o5 o6 o7,ρ=[some (.tp 0),some (.d (.int m)),some (.d (.list (nl WD))),some (.d (.str LT)),some (.loc (.list (nl l))),o5,o6,o7]/\T=[xs]/\Fr xs/\Ns l/\l.length=k/\l.Nodup)
  (cy 0 m.toNat) 0 [some (.tp 0),some (.d (.int m)),some (.d (.list (nl WD))),some (.d (.str LT)),some (.loc (.list (nl []))),none,none,none] [xs] (by rw[kH];omega) ⟨[],xs,none,none,none,rfl,rfl,hf,(fun _ z=>nomatch z),rfl,by simp⟩ (fun k d ρ T hd hk hI=>by
   obtain⟨l,xs,o5,o6,o7,rfl,rfl,hf,hn,hl,hnd⟩:=hI;obtain⟨w,x1,e1,f1,_,_⟩:=bB hf (m:=5) (by decide) (by decide);obtain⟨r,x2,e2,f2,r0,r1⟩:=bB f1 (m:=26) (by decide) (by decide);obtain⟨y,my,ey⟩:=yP r0 r1;have hy:=rq my;obtain⟨y3,x3,e3,h3,u3,f3⟩:=GH (m:=.int m) (l:=l) (o5:=some (.d d)) (w:=w) f2 hy;obtain⟨y4,e4,h4,u4⟩:=GI (m:=.int m) (o5:=some (.d d)) (w:=w) (xs:=x3) hn h3;obtain⟨y5,x5,e5,h5,f5⟩:=Iv (m:=.int m) (l:=l) (o5:=some (.d d)) (w:=w) f3 h4 (fun z=>by rw[u4 (by omega),u3 (by omega)];exact hy.1);obtain⟨y6,e6,h6,n6⟩:=Iy (m:=.int m) (o5:=some (.d d)) (w:=w) (xs:=x5) (show l.length<26 by omega) h5;obtain⟨l',x7,e7,f7,h7,d7,m7⟩:=Iw (m:=.int m) (l:=l) (o5:=some (.d d)) (w:=w) (x:=y6) f5 (by omega) hnd n6;refine⟨ρN (.int m) l' (some (.d d)) w y6,[x7],?_,⟨l',x7,_,_,_,rfl,rfl,f7,fun y hy=>?_,by omega,d7⟩⟩
   .unfold pN
    have s1:aG 6 (ar aP (ae (aa 0) (ae (fC (.int 5)) ah))) (List.set [some (.tp 0),some (.d (.int m)),some (.d (.list (nl WD))),some (.d (.str LT)),some (.loc (.list (nl l))),o5,o6,o7] 5 (some (.d d))) [xs]=some ((.nx,[some (.tp 0),some (.d (.int m)),some (.d (.list (nl WD))),some (.d (.str LT)),some (.loc (.list (nl l))),some (.d d),some (.d (.int w)),o7]),[x1]):=by
     simp[e1]
    have s2:aG 7 (af ixD (aa 3) (ar aP (ae (aa 0) (ae (fC (.int 26)) ah)))) [some (.tp 0),some (.d (.int m)),some (.d (.list (nl WD))),some (.d (.str LT)),some (.loc (.list (nl l))),some (.d d),some (.d (.int w)),o7] [x1]=some ((.nx,ρN (.int m) l (some (.d d)) w y),[x2]):=by
     simp only[nU,nY,mX,mW,mV,mU,fL,mZ,wL,mY,mG,nW,zK,e2,nV,ey,nX,wK];rfl
    rw[bG s1,bG s2,bG e3,bG e4,bG e5,bG e6,e7]
   .rcases m7 y hy with rfl|q
    .exact h6
    .exact hn y q)
 obtain⟨ρ',T',e,l,xs',o5,o6,o7,rfl,rfl,_,hn,hl,hnd⟩:=lp;rw[kH] at hl;refine⟨l,xs',?_,hn,hnd,by omega⟩;have ro:eS m=true:=rng_ok h0 (by omega);have wd:(PyData.list [.str "made",.str "told",.str "say",.str "want",.str "fails",.str "got",.str "put",.str "lacks"])=.list (nl WD):=rfl;have lt:Str.ofString "abcdefghijklmnopqrstuvwxyz"=LT:=rfl;have n0:([]:List PyData)=nl []:=rfl;rw[Ba];simp[wd,lt,ro];rw[n0,e];simp
open K1 (isName aF single aO aL)
def MN:List PyData:=[.int 0,.int 1,.str "",.tuple [],.int 2,.str "a",.tuple [.int 0],.tuple [.int 1,.str ""],.int (-7),.int 1000000000000000000,.str "x-0",.tuple [.tuple [],.tuple [.str "b",.int 3]],.tuple [.int 0,.int 1,.int 2],.int (1-1000000000000000000)]
theorem Iz(h:v∈MN):aF v=true:=by
 have:(MN.all aF)=true:=by decide +kernel
 exact List.all_eq_true.mp this v h
theorem EN(h0:0<=i)(h1:i<=1000000000000000000):aF (.int i)=true:=by
 show (single (.int i)&&decide ((1:Int)<=40))=true;have:single (.int i)=true:=decide_eq_true (by rw[if_neg (by omega)];exact h1);rw[this];rfl
theorem Nx.val(h:Nx 8 x):aF (.str x)=true:=by
 have sub:∀c∈K1.LET.cps.toList,c∈K1.TXT.cps.toList:=by decide +kernel
 have h3:K1.has K1.TXT x=true:=List.all_eq_true.mpr fun c hc=>decide_eq_true (sub c (of_decide_eq_true (h.2.1 c hc)));show ((decide (x.length<=20)&&K1.has K1.TXT x)&&decide ((1:Int)<=40))=true;rw[h3,decide_eq_true (by have:=h.1;omega)];rfl
theorem k9(hf:Fr xs)(hn:Ns l)(h0:0<l.length)(h1:l.length<=20):∃v xs',f9 [.tp 0,.d (.list (nl l))] [xs]=some (v,[xs'])/\aF v=true/\Fr xs':=by
 have mn:(PyData.list [.int 0,.int 1,.str "",.tuple [],.int 2,.str "a",.tuple [.int 0],.tuple [.int 1,.str ""],.int (-7),.int 1000000000000000000,.str "x-0",.tuple [.tuple [],.tuple [.str "b",.int 3]],.tuple [.int 0,.int 1,.int 2],.int (1-1000000000000000000)])=.list MN:=rfl;obtain⟨k,x1,e1,f1,k0,k1⟩:=bB hf (m:=18) (by decide) (by decide);have s1:aG 2 (av .list (ae (fC (.int 0)) (ae (fC (.int 1)) (ae (fC (.str "")) (ae (av .tuple ah) (ae (fC (.int 2)) (ae (fC (.str "a")) (ae (av .tuple (ae (fC (.int 0)) ah)) (ae (av .tuple (ae (fC (.int 1)) (ae (fC (.str "")) ah))) (ae (fUn fW (fC (.int 7))) (ae (af fj (fC (.int 10)) (fC (.int 18))) (ae (fC (.str "x-0")) (ae (av .tuple (ae (av .tuple ah) (ae (av .tuple (ae (fC (.str "b")) (ae (fC (.int 3)) ah))) ah))) (ae (av .tuple (ae (fC (.int 0)) (ae (fC (.int 1)) (ae (fC (.int 2)) ah)))) (ae (af fh (fC (.int 1)) (af fj (fC (.int 10)) (fC (.int 18)))) ah))))))))))))))) [some (.tp 0),some (.d (.list (nl l))),none,none] [xs]=some ((.nx,[some (.tp 0),some (.d (.list (nl l))),some (.d (.list MN)),none]),[xs]):=rfl
 have s2:aG 3 (ar aP (ae (aa 0) (ae (fC (.int 18)) ah))) [some (.tp 0),some (.d (.list (nl l))),some (.d (.list MN)),none] [xs]=some ((.nx,[some (.tp 0),some (.d (.list (nl l))),some (.d (.list MN)),some (.d (.int k))]),[x1]):=by simp[e1]
 unfold f9;rw[oI];simp only[uy,mq,mr,if_true];show ∃v xs',dE (ak _ _ [some (.tp 0),some (.d (.list (nl l))),none,none] [xs])=_/\_;rw[bG s1,bG s2]
 by_cases h14:k<14
 .obtain⟨v,ev,mv⟩:=n8 (xs:=MN) k0 (by simpa[MN] using h14)
  exact⟨v,x1,by simp[h14,ev],Iz mv,f1⟩
 .by_cases he:k=14
  .obtain⟨r,x2,e2,f2,r0,r1⟩:=bB f1 (m:=1000000000000000000) (by decide) (by decide)
   exact⟨.int r,x2,by simp[h14,he,rQ,e2],EN r0 (by omega),f2⟩
  .obtain⟨r,x2,e2,f2,r0,r1⟩:=bB f1 (m:=(l.length:Int)) (by omega) (by omega)
   obtain⟨y,ey,my⟩:=oM r0 r1;exact⟨.str y,x2,by simp[h14,he,cu,e2,ey],(hn y my).val,f2⟩
def twoW(w:String):Prop:=w="sum"\/w="join"\/w="same"\/w="part"\/w="less"
def exP(v:PyData):PyData:=.tuple [.str "put",v]
def exG(k:Int):PyData:=.tuple [.str "got",.int k]
def exM(a:PyData):PyData:=.tuple [.str "many",a]
def exR(es:List PyData):PyData:=.tuple [.str "row",.tuple es]
def ex2(w:String)(a b:PyData):PyData:=.tuple [.str (Str.ofString w),a,b]
inductive Ld(k:Nat):PyData->Prop where
 |put {v:PyData}:aF v=true->Ld k (exP v)
 |got {i:Int}:0<=i->i<k->Ld k (exG i)
inductive Xd(k:Nat):PyData->Prop where
 |lf {e:PyData}:Ld k e->Xd k e
 |two {w:String}{a b:PyData}:twoW w->Ld k a->Ld k b->Xd k (ex2 w a b)
 |row {es:List PyData}:es.length<=2->(∀e∈es,Ld k e)->Xd k (exR es)
 |many {a:PyData}:Ld k a->Xd k (exM a)
section
variable {l:List Str}(hn:Ns l)(h0:0<l.length)(h1:l.length<=20)
include hn h0 h1 in
theorem oh(hf:Fr xs):∃y xs' r,aP [.tp 0,.d (.int (l.length:Int))] [xs]=some (.int r,[xs'])/\atI (nl l) r=some (.str y)/\y∈l/\Fr xs':=by
 obtain⟨r,x2,e2,f2,r0,r1⟩:=bB hf (m:=(l.length:Int)) (by omega) (by omega);obtain⟨y,ey,my⟩:=oM r0 r1;exact⟨y,x2,r,e2,ey,my,f2⟩
include hn h0 h1 in
theorem xn(hf:Fr xs)(k:Nat)(hk:k<=1000)(n:Nat):∃e xs',cZ (n+1) [.tp 0,.d (.int k),.d (.list (nl l)),.d (.int 0)] [xs]=some (e,[xs'])/\Ld k e/\Fr xs':=by
 obtain⟨w,x1,e1,f1,w0,w1⟩:=bB hf (m:=12) (by decide) (by decide)
 by_cases hg:w<4/\0<k
 .obtain⟨r,x2,e2,f2,r0,r1⟩:=bB f1 (m:=(k:Int)) (by omega) (by omega)
  exact⟨exG r,x2,by simp[cZ,e1,hg.1,hg.2,e2,exG],.got r0 r1,f2⟩
 .obtain⟨v,x2,e2,hv,f2⟩:=k9 f1 hn h0 h1
  refine⟨exP v,x2,?_,.put hv,f2⟩
  by_cases h4:w<4
  .have hk0:¬0<k:=fun z=>hg ⟨h4,z⟩
   simp[cZ,e1,h4,hk0,e2,exP]
  .simp[cZ,e1,h4,e2,exP]
theorem JD(h0:0<=r)(h1:r<5):∃w,twoW w/\atI [PyData.str "part",.str "sum",.str "join",.str "same",.str "less"] r=some (.str (Str.ofString w)):=by
 have:r=0\/r=1\/r=2\/r=3\/r=4:=by omega
 rcases this with rfl|rfl|rfl|rfl|rfl
 .exact⟨"part",.inr (.inr (.inr (.inl rfl))),rfl⟩
 .exact⟨"sum",.inl rfl,rfl⟩
 .exact⟨"join",.inr (.inl rfl),rfl⟩
 .exact⟨"same",.inr (.inr (.inl rfl)),rfl⟩
 .exact⟨"less",.inr (.inr (.inr (.inr rfl))),rfl⟩
theorem JI(h0:0<=r)(h1:r<3)(a b:PyData):(cG [a,b] none (some r)).length<=2/\∀e∈cG [a,b] none (some r),e=a\/e=b:=by
 have:r=0\/r=1\/r=2:=by omega
 rcases this with rfl|rfl|rfl
 .have e:cG [a,b] none (some 0)=[]:=rfl
  rw[e];exact⟨by simp,fun _ h=>nomatch h⟩
 .have e:cG [a,b] none (some 1)=[a]:=rfl
  rw[e];exact⟨by simp,fun e h=>by simp at h;exact .inl h⟩
 .have e:cG [a,b] none (some 2)=[a,b]:=rfl
  rw[e];exact⟨by simp,fun e h=>by simpa using h⟩
include hn h0 h1 in
theorem ni(hf:Fr xs)(k:Nat)(hk:k<=1000)(n:Nat):∃e xs',cZ (n+2) [.tp 0,.d (.int k),.d (.list (nl l)),.d (.int 1)] [xs]=some (e,[xs'])/\Xd k e/\Fr xs':=by
 obtain⟨w,x1,e1,f1,w0,w1⟩:=bB hf (m:=12) (by decide) (by decide)
 by_cases hg:w<4/\0<k
 .obtain⟨r,x2,e2,f2,r0,r1⟩:=bB f1 (m:=(k:Int)) (by omega) (by omega)
  refine⟨exG r,x2,?_,.lf (.got r0 r1),f2⟩;unfold cZ;simp[e1,hg.1,hg.2,e2,exG]
 .by_cases h7:w<7
  .obtain⟨v,x2,e2,hv,f2⟩:=k9 f1 hn h0 h1
   refine⟨exP v,x2,?_,.lf (.put hv),f2⟩;unfold cZ
   by_cases h4:w<4
   .have hk0:¬0<k:=fun z=>hg ⟨h4,z⟩
    simp[e1,h4,h7,hk0,e2,exP]
   .simp[e1,h4,h7,e2,exP]
  .have h4:¬w<4:=by omega
   obtain⟨a,x2,e2,ha,f2⟩:=xn hn h0 h1 f1 k hk n
   by_cases h8:w=7
   .refine⟨exM a,x2,?_,.many ha,f2⟩
    unfold cZ;simp[e1,h4,h7,e2,h8,exM]
   .obtain⟨b,x3,e3,hb,f3⟩:=xn hn h0 h1 f2 k hk n
    by_cases h9:w=8
    .obtain⟨r,x4,e4,f4,r0,r1⟩:=bB f3 (m:=3) (by decide) (by decide)
     obtain⟨c1,c2⟩:=JI r0 r1 a b;refine⟨exR (cG [a,b] none (some r)),x4,?_,.row c1 fun e he=>?_,f4⟩
     .unfold cZ
      simp[e1,h4,h7,e2,h8,e3,h9,e4,exR]
     .rcases c2 e he with rfl|rfl
      .exact ha
      .exact hb
    .obtain⟨r,x4,e4,f4,r0,r1⟩:=bB f3 (m:=5) (by decide) (by decide)
     obtain⟨v,hv,ev⟩:=JD r0 r1;refine⟨ex2 v a b,x4,?_,.two hv ha hb,f4⟩;unfold cZ;simp[e1,h4,h7,e2,h8,e3,h9,e4,ev,ex2]
include hn h0 h1 in
theorem vG(hf:Fr xs)(k:Nat)(hk:k<=1000):∃e xs',jf [.tp 0,.d (.int k),.d (.list (nl l))] [xs]=some (e,[xs'])/\Xd k e/\Fr xs':=by
 obtain⟨w,x1,e1,f1,w0,w1⟩:=bB hf (m:=10) (by decide) (by decide)
 by_cases h7:w<7
 .obtain⟨y,x2,r,e2,ey,my,f2⟩:=oh hn h0 h1 f1
  exact⟨exP (.str y),x2,by simp[jf,e1,h7,cu,e2,ey,exP],.lf (.put (hn y my).val),f2⟩
 .by_cases h8:w=7
  .obtain⟨y,x2,r,e2,ey,my,f2⟩:=oh hn h0 h1 f1
   exact⟨ex2 "join" (exP (.str y)) (exP (.str "")),x2,by simp[jf,e1,h7,h8,cu,e2,ey,exP,ex2],.two (.inr (.inl rfl)) (.put (hn y my).val) (.put (by decide +kernel)),f2⟩
  .obtain⟨e,x2,e2,he,f2⟩:=ni hn h0 h1 f1 k hk 23
   exact⟨e,x2,by simp[jf,e1,h7,h8,e2],he,f2⟩
def i8(e:PyData):PyData:=.tuple [.str "say",e]
def lH(w:Str):PyData:=.tuple [.str "fail",.str w]
def iW(b:Bool)(e r:PyData):PyData:=.tuple [.str (Str.ofString (if b then "peek" else "want")),e,r]
def om(e p q:PyData):PyData:=.tuple [.str "when",e,p,q]
def R:Nat->Nat->Nat
 |a,0=>4*a+4
 |a,b+1=>2*R a b+4
theorem sI:∀a b,4<=R a b
 |a,0=>by simp[R]
 |a,b+1=>by simp[R]
theorem og(a:Nat):∀b,R a b+4<=R (a+1) b
 |0=>by simp[R];omega
 |b+1=>by have:=og a b;simp only[R];omega
inductive RC:Nat->Nat->Nat->PyData->Prop where
 |say {h k c:Nat}{e:PyData}:4<=c->Xd k e->RC h k c (i8 e)
 |fail {h k c:Nat}{w:Str}:4<=c->Nx 8 w->RC h k c (lH w)
 |want {h k c c':Nat}{b:Bool}{e r:PyData}:c' + 4<=c->Xd k e->RC h (k+1) c' r->RC (h+1) k c (iW b e r)
 |when {h k c c1 c2:Nat}{e p q:PyData}:c1+c2+4<=c->Xd k e->RC h k c1 p->RC h k c2 q->RC (h+1) k c (om e p q)
theorem RC.up(x:RC h k c r)(l:h<=m)(l2:c<=d):RC m k d r:=by
 induction x generalizing m d with
 |say z h=>exact .say (by omega) h
 |fail z h=>exact .fail (by omega) h
 |want z h _ ih=>
  obtain⟨j,rfl⟩:∃j,m=j+1:=⟨m-1,by omega⟩;exact .want (Nat.le_trans z l2) h (ih (by omega) (Nat.le_refl _))
 |when z h _ _ i1 i2=>
  obtain⟨j,rfl⟩:∃j,m=j+1:=⟨m-1,by omega⟩;exact .when (Nat.le_trans z l2) h (i1 (by omega) (Nat.le_refl _)) (i2 (by omega) (Nat.le_refl _))
theorem ja(w:Int):inD (.int w) (.tuple [.int 4,.int 5])=some (.bool (decide (w=4)||decide (w=5))):=by
 have e:inD (.int w) (.tuple [.int 4,.int 5])=some (.bool (decide ((4:Int)=w)||(decide ((5:Int)=w)||false))):=rfl;rw[e,Bool.or_false]
 congr 2
 rw[decide_eq_decide.mpr (show (4:Int)=w↔w=4 from⟨fun z=>z.symm,fun z=>z.symm⟩),decide_eq_decide.mpr (show (5:Int)=w↔w=5 from⟨fun z=>z.symm,fun z=>z.symm⟩)]
include hn h0 h1 in
theorem xw{xs:List PyData}{pk:Bool}{h k a b n:Nat}{w:Int}{x1:List PyData}(hk:k<=1000)(e1:aP [.tp 0,.d (.int 8)] [xs]=some (.int w,[x1]))(f1:Fr x1)(hA:¬(w<4/\0<a))(hB:¬((w=4\/w=5)/\0<b)):∃r xs',de (n+1) [.tp 0,.d (.int k),.d (.list (nl l)),.d (.int a),.d (.int b),.d (.bool pk)] [xs]=some (r,[xs'])/\RC h k (R a b) r/\Fr xs':=by
 have cA:∀{α:Type} (p q:α),(if w<4 then (if 0<a then p else q) else q)=q:=fun p q=>by
  by_cases z:w<4
  .rw[if_pos z,if_neg fun y=>hA ⟨z,y⟩]
  .rw[if_neg z]
 by_cases h6:w=6
 .obtain⟨r,x2,e2,f2,r0,r1⟩:=bB f1 (m:=2) (by decide) (by decide)
  by_cases hr:r=0
  .obtain⟨y,x3,r3,e3,ey,my,f3⟩:=oh hn h0 h1 f2
   refine⟨lH y,x3,?_,.fail (sI a b) (hn y my),f3⟩;unfold de;simp[e1,h6,ja,e2,hr,cu,e3,ey,lH]
  .obtain⟨e,x3,e3,he,f3⟩:=ni hn h0 h1 f2 k (by omega) 23
   refine⟨i8 e,x3,?_,.say (sI a b) he,f3⟩;unfold de;simp[e1,h6,ja,e2,hr,e3,i8]
 .obtain⟨e,x3,e3,he,f3⟩:=ni hn h0 h1 f1 k (by omega) 23
  refine⟨i8 e,x3,?_,.say (sI a b) he,f3⟩;unfold de
  by_cases h45:w=4\/w=5
  .have hb:¬0<b:=fun z=>hB ⟨h45,z⟩
   rcases h45 with rfl|rfl <;> simp[e1,ja,e3,i8,hb]
  .have h4:¬w=4:=fun z=>h45 (.inl z)
   have h5:¬w=5:=fun z=>h45 (.inr z)
   by_cases hw:w<4
   .have ha:¬0<a:=fun z=>hA ⟨hw,z⟩
    simp[e1,hw,ha,h4,h5,h6,ja,e3,i8]
   .simp[e1,hw,h4,h5,h6,ja,e3,i8]
include hn h0 h1 in
theorem DJ(pk:Bool):∀(h:Nat) {xs:List PyData} (_:Fr xs) (k a b n:Nat),a+b=h->k+h<=100->h<=n->∃r xs',de (n+1) [.tp 0,.d (.int k),.d (.list (nl l)),.d (.int a),.d (.int b),.d (.bool pk)] [xs]=some (r,[xs'])/\RC h k (R a b) r/\Fr xs':=by
 intro h
 induction h with
 |zero=>
  intro xs hf k a b n hab hk hn';obtain⟨w,x1,e1,f1,w0,w1⟩:=bB hf (m:=8) (by decide) (by decide);exact xw hn h0 h1 (by omega) e1 f1 (by omega) (by omega)
 |succ h ih=>
  intro xs hf k a b n hab hk hn';obtain⟨j,rfl⟩:∃j,n=j+1:=⟨n-1,by omega⟩;obtain⟨w,x1,e1,f1,w0,w1⟩:=bB hf (m:=8) (by decide) (by decide)
  by_cases hA:w<4/\0<a
  .obtain⟨a',rfl⟩:∃a',a=a' + 1:=⟨a-1,by omega⟩
   have hpi:(0:Int)<(a':Int)+1:=by omega
   have ca:(a':Int)+1-1=a':=by omega
   have ck:((k+1:Nat):Int)=(k:Int)+1:=by omega
   cases pk with
   |false=>
    obtain⟨e,x3,e3,he,f3⟩:=vG hn h0 h1 f1 k (by omega);obtain⟨r,x4,e4,hr,f4⟩:=ih f3 (k+1) a' b j (by omega) (by omega) (by omega);rw[ck] at e4;refine⟨iW false e r,x4,?_,.want (og a' b) he hr,f4⟩;unfold de;simp[e1,hA.1,hpi,e3,e4,ca,iW]
   |true=>
    obtain⟨r2,x2,e2,f2,r0,r1⟩:=bB f1 (m:=3) (by decide) (by decide);obtain⟨e,x3,e3,he,f3⟩:=vG hn h0 h1 f2 k (by omega);obtain⟨r,x4,e4,hr,f4⟩:=ih f3 (k+1) a' b j (by omega) (by omega) (by omega);rw[ck] at e4
    by_cases hr0:r2=0
    .refine⟨iW true e r,x4,?_,.want (og a' b) he hr,f4⟩
     unfold de;simp[e1,hA.1,hpi,e2,hr0,e3,e4,ca,iW]
    .refine⟨iW false e r,x4,?_,.want (og a' b) he hr,f4⟩
     unfold de;simp[e1,hA.1,hpi,e2,hr0,e3,e4,ca,iW]
  .by_cases hB:(w=4\/w=5)/\0<b
   .obtain⟨b',rfl⟩:∃b',b=b' + 1:=⟨b-1,by omega⟩
    have hpi:(0:Int)<(b':Int)+1:=by omega
    have cb:(b':Int)+1-1=b':=by omega
    obtain⟨e,x2,e2,he,f2⟩:=ni hn h0 h1 f1 k (by omega) 23;obtain⟨p,x3,e3,hp,f3⟩:=ih f2 k a b' j (by omega) (by omega) (by omega);obtain⟨q,x4,e4,hq,f4⟩:=ih f3 k a b' j (by omega) (by omega) (by omega);refine⟨om e p q,x4,?_,.when (by simp only[R];omega) he hp hq,f4⟩;unfold de
    rcases hB.1 with rfl|rfl
    .simp[e1,ja,hpi,e2,cb,e3,e4,om]
    .simp[e1,ja,hpi,e2,cb,e3,e4,om]
   .exact xw hn h0 h1 (by omega) e1 f1 hA hB
include hn h0 h1 in
theorem yt(hf:Fr xs)(pk:Bool):∃r xs',fB [.tp 0,.d (.list (nl l)),.d (.bool pk)] [xs]=some (r,[xs'])/\RC 5 0 60 r/\Fr xs':=by
 obtain⟨w,x1,e1,f1,w0,w1⟩:=bB hf (m:=5) (by decide) (by decide)
 have hw:w=0\/w=1\/w=2\/w=3\/w=4:=by omega
 have run:∀a b:Nat,a+b<=5->R a b<=60->∃r xs',de 25 [.tp 0,.d (.int 0),.d (.list (nl l)),.d (.int a),.d (.int b),.d (.bool pk)] [x1]=some (r,[xs'])/\RC 5 0 60 r/\Fr xs':=fun a b hab hR=>by
  obtain⟨r,x2,e2,hr,f2⟩:=DJ hn h0 h1 pk (a+b) f1 0 a b 24 rfl (by omega) (by omega);exact⟨r,x2,e2,hr.up hab hR,f2⟩
 have a5:∀(a b c d e:PyData),atI [a,b,c,d,e] 0=some a/\atI [a,b,c,d,e] 1=some b/\atI [a,b,c,d,e] 2=some c/\atI [a,b,c,d,e] 3=some d/\atI [a,b,c,d,e] 4=some e:=fun _ _ _ _ _=>⟨rfl,rfl,rfl,rfl,rfl⟩
 rcases hw with rfl|rfl|rfl|rfl|rfl
 .obtain⟨r,x2,e2,h2⟩:=run 4 1 (by decide) (by decide)
  exact⟨r,x2,by simp at e2;simp[fB,cC,e1,a5,e2],h2⟩
 .obtain⟨r,x2,e2,h2⟩:=run 2 2 (by decide) (by decide)
  exact⟨r,x2,by simp at e2;simp[fB,cC,e1,a5,e2],h2⟩
 .obtain⟨r,x2,e2,h2⟩:=run 1 1 (by decide) (by decide)
  exact⟨r,x2,by simp at e2;simp[fB,cC,e1,a5,e2],h2⟩
 .obtain⟨r,x2,e2,h2⟩:=run 3 1 (by decide) (by decide)
  exact⟨r,x2,by simp at e2;simp[fB,cC,e1,a5,e2],h2⟩
 .obtain⟨r,x2,e2,h2⟩:=run 0 1 (by decide) (by decide)
  exact⟨r,x2,by simp at e2;simp[fB,cC,e1,a5,e2],h2⟩
end
theorem Ld.ex(h:Ld k e):Ex (k:Int) n e:=by
 cases h with
 |put h=>exact .put h
 |got h0 h1=>exact .got h0 h1
theorem twoW.pw(h:twoW w):w∈PW:=by rcases h with rfl|rfl|rfl|rfl|rfl <;> simp[PW]
theorem Xd.ex(h:Xd k e):Ex (k:Int) (n+1) e:=by
 cases h with
 |lf h=>exact h.ex
 |two hw ha hb=>exact .pair hw.pw ha.ex hb.ex
 |row hl h=>exact .row (by omega) fun e he=>(h e he).ex
 |many h=>exact .many h.ex
theorem Nx.isNm(h:Nx 8 x):isName (.str x)=true:=by
 have h3:has LET x=true:=List.all_eq_true.mpr fun c hc=>h.2.1 c hc;show (decide (1<=x.length)&&decide (x.length<=8)&&has LET x)=true;rw[decide_eq_true h.1,decide_eq_true h.2.2,h3];rfl
theorem RC.rg(x:RC h k c r):k+h<=12->Rg true k (h+2) r:=by
 induction x with
 |say _ he=>exact fun _=>.say he.ex
 |fail _ hw=>exact fun _=>.fail hw.isNm
 |@want h k c c' b e r _ he _ ih=>
  intro l
  cases b with
  |true=>exact .ask (.inr ⟨rfl,rfl⟩) (by omega) he.ex (ih (by omega))
  |false=>exact .ask (.inl rfl) (by omega) he.ex (ih (by omega))
 |when _ he _ _ ih1 ih2=>exact fun l=>.whn he.ex (ih1 (by omega)) (ih2 (by omega))
def SP:Str:=Str.ofString " "
def jw(ws:List Str):Str:=Str.join SP ws
theorem i6(ws:List Str):cd (jw ws)=bq [32] (ws.map cd):=by
 have e:cd SP=[32]:=by decide +kernel
 unfold jw;rw[qH,e]
theorem Dv(ws:List (List Nat))(h:ws≠[]):32::bq [32] ws=(ws.map (32::·)).flatten:=by
 cases ws with
 |nil=>exact absurd rfl h
 |cons w r=>rw[kl];rfl
theorem EM(x:Str)(wss:List (List Str))(h:∀ws∈wss,ws≠[]):jw (x::wss.map jw)=jw (x::wss.flatten):=by
 refine g9 ?_;rw[i6,i6,List.map_cons,List.map_cons,kl,kl,List.map_map]
 congr 1
 induction wss with
 |nil=>rfl
 |cons ws r ih=>
  have i2:=ih fun q hq=>h q (List.mem_cons_of_mem _ hq);have c:=Dv (ws.map cd) (by simpa using h ws List.mem_cons_self);simp only[List.map_cons,List.flatten_cons,List.map_append,List.flatten_append,Function.comp_apply];rw[←i2,i6];show (32::bq [32] (ws.map cd))++_=_;rw[c];rfl
theorem rO(h:cd p=cd w++[32]):p++x=jw [w,x]:=g9 (by rw[iS,i6,h];simp[bq])
structure Wd(ws:List Str)(m:Nat):Prop where
 ne:ws≠[]
 ln:ws.length<=m
 sz:∀w∈ws,w.length<=1100
 lw:∀w∈ws,Lw w
theorem GP(h:∀w∈ws,w.length<=1100):(jw ws).length<=1101*ws.length:=by
 rw[←fN,i6]
 cases ws with
 |nil=>simp[bq]
 |cons w r=>
  rw[List.map_cons,kl,List.length_append,fN];have h1:=h w List.mem_cons_self
  have h2:∀r:List Str,(∀w∈r,w.length<=1100)->((r.map cd).map ([32]++·)).flatten.length<=1101*r.length:=fun r=>by
   induction r with
   |nil=>intro _;simp
   |cons a r ih=>
    intro h;have:=ih fun x hx=>h x (List.mem_cons_of_mem _ hx);have h1:=h a List.mem_cons_self;rw[List.map_cons,List.map_cons,List.flatten_cons,List.length_append,List.length_append,fN,List.length_cons];simp;simp at this;omega
  have h3:=h2 r fun x hx=>h x (List.mem_cons_of_mem _ hx);rw[List.length_cons];omega
theorem DY(xs:List Str):d9 (nl xs)=some xs:=by have:=l7 (fun x:Str=>x) xs;simpa[nl] using this
theorem JA{x:Str}{wss:List (List Str)}(hx:x.length<=1100)(hw:∀ws∈wss,ws≠[]/\∀w∈ws,w.length<=1100)(hN:wss.flatten.length<=10000):eX (.str " ") (.list (.str x::wss.map fun ws=>.str (jw ws)))=some (.str (jw (x::wss.flatten))):=by
 have s:∀wss:List (List Str),(∀ws∈wss,ws≠[]/\∀w∈ws,w.length<=1100)->((wss.map jw).map fun y:Str=>y.length).sum<=1101*wss.flatten.length/\wss.length<=wss.flatten.length:=fun wss=>by
  induction wss with
  |nil=>intro _;simp
  |cons a r ih=>
   intro h;obtain⟨i1,i2⟩:=ih fun q hq=>h q (List.mem_cons_of_mem _ hq);have l:=GP (h a List.mem_cons_self).2;have n:0<a.length:=List.length_pos_iff.mpr (h a List.mem_cons_self).1;simp only[List.map_cons,List.sum_cons,List.flatten_cons,List.length_append,List.length_cons];omega
 obtain⟨s1,s2⟩:=s wss hw
 have e:(PyData.str x::wss.map fun ws=>PyData.str (jw ws))=nl (x::wss.map jw):=by simp[nl]
 have c1:(Str.ofString " ").length=1:=by decide
 rw[e];show (match d9 (nl (x::wss.map jw)) with|some ys=>if (ys.map fun y:Str=>y.length).sum+ys.length*(Str.ofString " ").length<=16777216 then some (PyData.str (Str.join " " ys)) else none|none=>none)=_;rw[DY];dsimp only;rw[c1,List.map_cons,List.sum_cons,List.length_cons,List.length_map,if_pos (by omega)];exact congrArg (fun z=>some (PyData.str z)) (EM x wss fun q hq=>(hw q hq).1)
theorem Hc(h:f ρ T=some (.d (.list ys),T1))(h2:ρ[i]? = some (some (.loc (.list xs))))(h3:xs.length+ys.length<=sizeLine):ig i f ρ T=some ((.nx,ρ.set i (some (.loc (.list (xs++ys))))),T1):=by
 unfold ig;rw[h,fL];simp only[h2];rw[if_pos h3]
theorem GE(a b:List Str):nl a++nl b=nl (a++b):=by simp[nl]
theorem qL:∀(es:List PyData) (acc:List Str) (o:Option D.W),(∀e∈es,M [.d e] T=some (.list (nl (f e)),T))->acc.length+(es.map f).flatten.length<=10000 ->
  ∃o',forL 2 (ig 1 (ar M (ae (aa 2) ah))) es [o0,some (.loc (.list (nl acc))),o] T=some ((.nx,[o0,some (.loc (.list (nl (acc++(es.map f).flatten)))),o']),T)
 |[],acc,o,_,_=>⟨o,by simp[forL]⟩
 |e::es,acc,o,h,hl=>by
  have h1:=h e List.mem_cons_self;rw[List.map_cons,List.flatten_cons,List.length_append] at hl;obtain⟨o',ih⟩:=qL (f:=f) es (acc++f e) (some (.d e)) (fun x hx=>h x (List.mem_cons_of_mem _ hx)) (by rw[List.length_append];omega);refine⟨o',?_⟩;rw[kR (ρ':=[o0,some (.loc (.list (nl (acc++f e)))),some (.d e)]),ih]
  .rw[List.map_cons,List.flatten_cons,List.append_assoc]
  .rw[←GE]
   exact Hc (xs:=nl acc) (ys:=nl (f e)) (by simp[h1]) rfl (by rw[cu,cu];exact Nat.le_trans (show _<=10000 by omega) (by decide))
def SE(k:Nat)(m:Nat)(e:PyData):Prop:=∃ws,Wd ws m/\(∀n T,k<=n->eJ n [.d e] T=some (.list (nl ws),T))/\∀n T,k<=n->eG n [.d e] T=some (.str (jw ws),T)
theorem Hn(h:aF v=true):(mk (cst 4 v)).length<=1000:=by
 have:=qT 4 v (cI h).1;have:=(cI h).2;rw[di];omega
theorem x8(h0:0<=i)(h1:i<=1000):∃t:Str,t.length<=1000/\fV [.int i]=some (.str t)/\Lw t:=by
 have s:single (.int i)=true:=tE (by omega) (by omega);refine⟨mk (nc i),?_,qP s,fun c hc=>by rw[dR] at hc;rcases v8 i c hc with z|z <;> omega⟩;rw[di];have:=xJ s;omega
theorem l4(s:String)(h:(Str.ofString s).length=4):(Str.ofString s).length=4:=h
theorem s2:2<=sizeLine:=by decide
theorem qA(h:Ld k e)(hk:k<=1000):SE 1 2 e:=by
 cases h with
 |@put v hv=>
  have z:=Hn hv;refine⟨[Str.ofString "put",mk (cst 4 v)],⟨by simp,by simp,fun w hw=>?_,fun w hw=>?_⟩,fun n T hn=>?_,fun n T hn=>?_⟩
  .simp at hw
   rcases hw with rfl|rfl
   .decide +kernel
   .omega
  .simp at hw
   rcases hw with rfl|rfl
   .exact cL (by decide +kernel)
   .exact gw hv
  .obtain⟨n,rfl⟩:=bg n (by omega)
   have s:∀T,dh 25 [.d v] T=some (.str (mk (cst 4 v)),T):=fun T=>nr T hv;simp[eJ,gK,cR,exP,s,gA,jJ,nl,forL,s2]
  .obtain⟨n,rfl⟩:=bg n (by omega)
   have s:∀T,cU 25 [.d v] T=some (.str (mk (cst 4 v)),T):=fun T=>kO T hv;have l:(Str.ofString "put ").length+(mk (cst 4 v)).length<=sizeLine:=cq (by rw[l4 "put " (by decide +kernel)];omega);simp[eG,exP,s,l,rO (w:=Str.ofString "put") (p:=Str.ofString "put ") (by decide +kernel)]
 |@got i h0 h1=>
  obtain⟨t,z,st,zl⟩:=x8 (i:=i) h0 (by omega);refine⟨[Str.ofString "got",t],⟨by simp,by simp,fun w hw=>?_,fun w hw=>?_⟩,fun n T hn=>?_,fun n T hn=>?_⟩
  .simp at hw
   rcases hw with rfl|rfl
   .decide +kernel
   .omega
  .simp at hw
   rcases hw with rfl|rfl
   .exact cL (by decide +kernel)
   .exact zl
  .obtain⟨n,rfl⟩:=bg n (by omega)
   simp[eJ,gK,cR,exG,st,gA,jJ,nl,forL,s2]
  .obtain⟨n,rfl⟩:=bg n (by omega)
   have l:(Str.ofString "got ").length+t.length<=sizeLine:=cq (by rw[l4 "got " (by decide +kernel)];omega);simp[eG,exG,st,l,rO (w:=Str.ofString "got") (p:=Str.ofString "got ") (by decide +kernel)]
theorem GO(x:Str):jw [x]=x:=g9 (by rw[i6];simp[bq])
theorem mT{α:Type}{f:α->List Str}{m:Nat}:∀{es:List α},(∀e∈es,(f e).length<=m)->(es.map f).flatten.length<=m*es.length
 |[],_=>by simp
 |a::r,h=>by
  have h1:=h a List.mem_cons_self;have h2:=mT (f:=f) (es:=r) fun x hx=>h x (List.mem_cons_of_mem _ hx);rw[List.map_cons,List.flatten_cons,List.length_append,List.length_cons,Nat.mul_add];omega
theorem wI{α:Type}{f:α->List Str}{es:List α}(h:∀e∈es,∀w∈f e,w.length<=1100):∀w∈(es.map f).flatten,w.length<=1100:=fun w hw=>by
 obtain⟨l,hl,hw'⟩:=List.mem_flatten.mp hw;obtain⟨e,he,rfl⟩:=List.mem_map.mp hl;exact h e he w hw'
theorem wJ{α:Type}{f:α->List Str}{es:List α}(h:∀e∈es,∀w∈f e,Lw w):∀w∈(es.map f).flatten,Lw w:=fun w hw=>by
 obtain⟨l,hl,hw'⟩:=List.mem_flatten.mp hw;obtain⟨e,he,rfl⟩:=List.mem_map.mp hl;exact h e he w hw'
theorem qm:∀fw:List Str,(fw.map fun x=>[x]).flatten=fw
 |[]=>rfl
 |a::r=>by rw[List.map_cons,List.flatten_cons,qm r];rfl
theorem JB{α:Type}{f:α->List Str}{w:Str}{fw:List Str}{es:List α}{m:Nat}(hw:w.length<=1100)(hf:∀x∈fw,x.length<=1100)(h:∀e∈es,Wd (f e) m)(hN:fw.length+m*es.length<=10000) :
  eX (.str " ") (.list (nl (w::fw)++es.map fun e=>.str (jw (f e))))=some (.str (jw (w::(fw++(es.map f).flatten)))):=by
 have j:=JA (x:=w) (wss:=(fw.map fun x=>[x])++es.map f) hw (fun ws hws=>by
  rcases List.mem_append.mp hws with z|z
  .obtain⟨x,hx,rfl⟩:=List.mem_map.mp z
   exact⟨by simp,fun y hy=>by rw[List.mem_singleton.mp hy];exact hf x hx⟩
  .obtain⟨e,he,rfl⟩:=List.mem_map.mp z
   exact⟨(h e he).ne,(h e he).sz⟩) (by
  rw[List.flatten_append,List.length_append];have:=mT (f:=f) fun e he=>(h e he).ln;rw[qm]
  omega)
 rw[List.flatten_append,qm] at j;rw[←j];simp[nl,GO,Function.comp_def]
theorem Ce{k m:Nat}{es:List PyData}(h:∀e∈es,SE k m e):∃f:PyData->List Str,∀e∈es,Wd (f e) m/\(∀n T,k<=n->eJ n [.d e] T=some (.list (nl (f e)),T))/\∀n T,k<=n->eG n [.d e] T=some (.str (jw (f e)),T):=by
 classical
 refine⟨fun e=>if h':e∈es then (h e h').choose else [],fun e he=>?_⟩;simp only[dif_pos he];exact(h e he).choose_spec
theorem vN(hs:∀e∈es,SE 1 2 e)(l2:es.length<=2)(hw:w.length<=1100)(hfl:fw.length<=1)(hf:∀x∈fw,x.length<=1100)(hwl:Lw w)(hfl2:∀x∈fw,Lw x)(ix:ixD e0 (.int 0)=some (.str w))
  (h1:∀T,gK [.d e0] T=some (.list (nl fw),T)) (h2:∀T,cR [.d e0] T=some (.list es,T))
  (h3:∀n T ys t,ys.length=es.length->(∀ρ,bC bF (ar (eG n) (ae (aa 0) ah)) ρ es T=some (ys,T))->eX (.str " ") (.list (nl (w::fw)++ys))=some (.str t)->eG (n+1) [.d e0] T=some (.str t,T)):SE 2 7 e0:=by
 obtain⟨f,hf'⟩:=Ce hs;have fl:=mT (f:=f) (m:=2) fun e he=>(hf' e he).1.ln;refine⟨w::(fw++(es.map f).flatten),⟨by simp,?_,fun x hx=>?_,fun x hx=>?_⟩,fun n T hn=>?_,fun n T hn=>?_⟩
 .rw[List.length_cons,List.length_append];omega
 .rcases List.mem_cons.mp hx with rfl|hx
  .exact hw
  .exact(List.mem_append.mp hx).elim (hf x) (wI (fun e he=>(hf' e he).1.sz) x)
 .rcases List.mem_cons.mp hx with rfl|hx
  .exact hwl
  .exact(List.mem_append.mp hx).elim (hfl2 x) (wJ (fun e he=>(hf' e he).1.lw) x)
 .obtain⟨n,rfl⟩:=bg n (by omega)
  obtain⟨o',lp⟩:=qL (M:=eJ n) (f:=f) (T:=T) (o0:=some (.d e0)) es (w::fw) none (fun e he=>(hf' e he).2.1 n T (by omega)) (by rw[List.length_cons];omega);have s3:fw.length+1<=sizeLine:=cq (by omega);have e1:PyData.str w::nl fw=nl (w::fw):=rfl;rw[z5];simp[ix,h1,h2,gA,jJ,cu,Nat.add_comm,s3,e1,sQ,lp]
 .obtain⟨n,rfl⟩:=bg n (by omega)
  exact h3 n T _ _ (by simp) (fun ρ=>eO (g:=fun e=>.str (jw (f e))) fun e he=>by simp[(hf' e he).2.2 n T (by omega)]) (JB hw hf (fun e he=>(hf' e he).1) (by omega))
theorem SE.up(h:SE k m e)(a:k<=k')(b:m<=m'):SE k' m' e:=by
 obtain⟨ws,w,h1,h2⟩:=h;exact⟨ws,⟨w.ne,Nat.le_trans w.ln b,w.sz,w.lw⟩,fun n T hn=>h1 n T (Nat.le_trans a hn),fun n T hn=>h2 n T (Nat.le_trans a hn)⟩
theorem FV(h:twoW w):¬w="put"/\¬w="got"/\¬w="row"/\(Str.ofString w).length<=1100/\Lw (Str.ofString w):=by rcases h with rfl|rfl|rfl|rfl|rfl <;> exact⟨by decide,by decide,by decide,by decide +kernel,cL (by decide +kernel)⟩
theorem vO(hw:¬w="put"/\¬w="got"/\¬w="row"/\(Str.ofString w).length<=1100/\Lw (Str.ofString w))(hk:k<=1000)(h:∀e∈es,Ld k e)(l2:es.length<=2):SE 2 7 (.tuple (.str (Str.ofString w)::es)):=by
 obtain⟨n1,n2,n3,n4,n5⟩:=hw
 have ix:∀(a:PyData) (r:List PyData),atI (a::r) 0=some a:=fun a r=>by simp[atI,ixN]
 refine vN (w:=Str.ofString w) (fw:=[]) (es:=es) (fun e he=>qA (h e he) hk) l2 n4 (by simp) (fun _ z=>nomatch z) n5 (fun _ z=>nomatch z) (ix _ _) (fun T=>?_) (fun T=>?_) (fun n T ys t q hc hj=>?_)
 .simp[gK,ix,n1,n2,n3,nl]
 .simp[cR,ix,n1,n2,n3,jc]
 .have hj':eX (.str " ") (.list (.str (Str.ofString w)::ys))=some (.str t):=hj
  have l:1+ys.length<=sizeLine:=by
   rw[q];exact cq (by omega)
  simp[eG,ix,n1,n2,n3,jc,hc,l,hj']
theorem Ga(hk:k<=1000)(h:∀e∈es,Ld k e)(l2:es.length<=2):SE 2 7 (exR es):=by
 obtain⟨t0,z,st,zl⟩:=x8 (i:=es.length) (by omega) (by omega);refine vN (w:=Str.ofString "row") (fw:=[t0]) (es:=es) (fun e he=>qA (h e he) hk) l2 (by decide +kernel) (by simp) (fun x hx=>by rw[List.mem_singleton.mp hx];omega) (cL (by decide +kernel)) (fun x hx=>by rw[List.mem_singleton.mp hx];exact zl) rfl (fun T=>?_) (fun T=>?_) (fun n T ys t q hc hj=>?_)
 .simp[gK,exR,st,nl]
 .simp[cR,exR]
 .have hj':eX (.str " ") (.list (.str "row"::.str t0::ys))=some (.str t):=hj
  have l:ys.length+1+1<=sizeLine:=by
   rw[q];exact cq (by omega)
  have l1:1<sizeLine:=by decide
  simp[eG,exR,st,hc,l1,hj',Nat.add_comm,Nat.add_assoc];simp[Nat.add_comm,Nat.add_assoc] at l;exact fun z=>absurd l (by omega)
theorem qB(h:Xd k e)(hk:k<=1000):SE 2 7 e:=by
 cases h with
 |lf h=>exact(qA h hk).up (by omega) (by omega)
 |two hw ha hb=>
  refine vO (FV hw) hk (fun e he=>?_) (by simp)
  rcases List.mem_cons.mp he with rfl|he
  .exact ha
  .rw[List.mem_singleton.mp he];exact hb
 |row l h=>exact Ga hk h l
 |many h=>exact vO (w:="many") ⟨by decide,by decide,by decide,by decide +kernel,cL (by decide +kernel)⟩ hk (fun e he=>by rw[List.mem_singleton.mp he];exact h) (by simp)
theorem zL:cG (a::b::r) (some 2) none=r:=by
 have e:HT.sIx (a::b::r).length 0 (some 2)=2:=by
  have:=HT.vP (a::b::r).length 0 2;rw[show ((2:Nat):Int)=2 from rfl] at this;rw[this];simp
 have e2:HT.sIx (a::b::r).length (a::b::r).length none=(a::b::r).length:=rfl;unfold cG;rw[e,e2];simp
def SR(h:Nat)(r:PyData):Prop:=∃ws,Wd ws (8*2^(h+1)-8)/\(∀n T,h<n->fZ n [.d r] T=some (.list (nl ws),T))/\∀n T,h<n->df n [.d r] T=some (.str (jw ws),T)
theorem Cd{h:Nat}{es:List PyData}(hs:∀e∈es,SR h e):∃f:PyData->List Str,∀e∈es,Wd (f e) (8*2^(h+1)-8)/\(∀n T,h<n->fZ n [.d e] T=some (.list (nl (f e)),T))/\∀n T,h<n->df n [.d e] T=some (.str (jw (f e)),T):=by
 classical
 refine⟨fun e=>if h':e∈es then (hs e h').choose else [],fun e he=>?_⟩;simp only[dif_pos he];exact(hs e he).choose_spec
theorem zc{α:Type}{a:α}{r:List α}:atI (a::r) 0=some a:=by simp[atI,ixN]
theorem sm{α:Type}{a b:α}{r:List α}:atI (a::b::r) 1=some b:=by
 unfold atI ixN;rw[if_pos (by decide),if_pos (by simp;omega)];rfl
theorem qz(hw:¬w="fail")(hl:(Str.ofString w).length<=1100)(hlw:Lw (Str.ofString w))(he:SE 2 7 e)(hp:∀p∈ps,SR h p)(l2:ps.length<=2)(h6:h<=6)(hj:ps=[]\/h+1<=j):SR j (.tuple (.str (Str.ofString w)::e::ps)):=by
 obtain⟨f,hf⟩:=Cd hp;obtain⟨we,wd,e1,e2⟩:=he;have fl:=mT (f:=f) fun e he=>(hf e he).1.ln;have pw:2^(h+1)<=128:=Nat.le_trans (Nat.pow_le_pow_right (by decide) (by omega:h+1<=7)) (by decide)
 have pj:(ps.map f).flatten.length+8<=8*2^(j+1)-8:=by
  rcases hj with rfl|hj
  .have:2^1<=2^(j+1):=Nat.pow_le_pow_right (by decide) (by omega)
   simp;omega
  .have p1:2^(h+1+1)<=2^(j+1):=Nat.pow_le_pow_right (by decide) (by omega)
   rw[Nat.pow_succ] at p1;have p2:(8*2^(h+1)-8)*ps.length<=(8*2^(h+1)-8)*2:=Nat.mul_le_mul_left _ l2;have p3:1<=2^(h+1):=Nat.one_le_two_pow;omega
 have big:(8*2^(h+1)-8)*ps.length<=2100:=Nat.le_trans (Nat.mul_le_mul_left _ l2) (by omega);have wl:=wd.ln;refine⟨Str.ofString w::(we++(ps.map f).flatten),⟨by simp,?_,fun x hx=>?_,fun x hx=>?_⟩,fun n T hn=>?_,fun n T hn=>?_⟩
 .rw[List.length_cons,List.length_append];omega
 .rcases List.mem_cons.mp hx with rfl|hx
  .exact hl
  .exact(List.mem_append.mp hx).elim (wd.sz x) (wI (fun e he=>(hf e he).1.sz) x)
 .rcases List.mem_cons.mp hx with rfl|hx
  .exact hlw
  .exact(List.mem_append.mp hx).elim (wd.lw x) (wJ (fun e he=>(hf e he).1.lw) x)
 .obtain⟨n,rfl⟩:=bg n (by omega)
  obtain⟨o',lp⟩:=qL (M:=fZ n) (f:=f) (T:=T) (o0:=some (.d (.tuple (.str (Str.ofString w)::e::ps)))) ps (Str.ofString w::we) none (fun p hp'=>(hf p hp').2.1 n T (by
   rcases hj with rfl|hj
   .cases hp'
   .omega)) (by rw[List.length_cons];omega)
  have s3:we.length+1<=sizeLine:=cq (by omega);have q:PyData.str (Str.ofString w)::nl we=nl (Str.ofString w::we):=rfl;have ew:=fun T=>e1 25 T (by decide);rw[zW];simp[zc,sm,hw,ew,zL,gA,jJ,cu,Nat.add_comm,s3,q,sN,lp]
 .obtain⟨n,rfl⟩:=bg n (by omega)
  have ew:=fun T=>e2 25 T (by decide)
  have hc:∀ρ,bC bF (ar (df n) (ae (aa 0) ah)) ρ ps T=some (ps.map fun p=>.str (jw (f p)),T):=fun ρ=>eO (g:=fun p=>.str (jw (f p))) fun p hp'=>by
   have:=(hf p hp').2.2 n T (by
    rcases hj with rfl|hj
    .cases hp'
    .omega)
   simp[this]
  have J:=JA (x:=Str.ofString w) (wss:=we::ps.map f) hl (fun ws hws=>by
   rcases List.mem_cons.mp hws with rfl|z
   .exact⟨wd.ne,wd.sz⟩
   .obtain⟨p,hp',rfl⟩:=List.mem_map.mp z
    exact⟨(hf p hp').1.ne,(hf p hp').1.sz⟩) (by rw[List.flatten_cons,List.length_append];omega)
  rw[List.map_cons,List.map_map] at J;have J':eX (.str " ") (.list (.str (Str.ofString w)::.str (jw we)::ps.map fun p=>.str (jw (f p))))=some (.str (jw (Str.ofString w::(we++(ps.map f).flatten)))):=J;have l:ps.length+2<=sizeLine:=cq (by omega)
  have l':2+ps.length<=sizeLine:=by omega
  simp[df,zc,sm,hw,ew,zL,hc,l',J']
theorem HP(x:RC h k c r):h<=6->k+h<=1000->SR h r:=by
 induction x with
 |say _ he=>exact fun a b=>qz (w:="say") (h:=0) (ps:=[]) (by decide) (by decide +kernel) (cL (by decide +kernel)) (qB he (by omega)) (fun _ z=>nomatch z) (by simp) (by omega) (.inl rfl)
 |@fail h k c w _ hw=>
  intro a b;have z:w.length<=8:=hw.1;have p:2^1<=2^(h+1):=Nat.pow_le_pow_right (by decide) (by omega);refine⟨[Str.ofString "fail",w],⟨by simp,by simp;omega,fun x hx=>?_,fun x hx=>?_⟩,fun n T hn=>?_,fun n T hn=>?_⟩
  .simp at hx
   rcases hx with rfl|rfl
   .decide +kernel
   .omega
  .simp at hx
   rcases hx with rfl|rfl
   .exact cL (by decide +kernel)
   .exact eV hw.isNm
  .obtain⟨n,rfl⟩:=bg n (by omega)
   simp[fZ,lH,nl]
  .obtain⟨n,rfl⟩:=bg n (by omega)
   have l5:(Str.ofString "fail ").length=5:=by decide +kernel
   have l:(Str.ofString "fail ").length+w.length<=sizeLine:=cq (by omega);simp[df,lH,l,rO (w:=Str.ofString "fail") (p:=Str.ofString "fail ") (by decide +kernel)]
 |@want h k c c' b e r _ he _ ih=>
  intro a b';refine qz (h:=h) (ps:=[r]) ?_ ?_ ?_ (qB he (by omega)) (fun p hp=>by rw[List.mem_singleton.mp hp];exact ih (by omega) (by omega)) (by simp) (by omega) (.inr (Nat.le_refl _))
  .cases b <;> decide
  .cases b <;> decide +kernel
  .cases b <;> exact cL (by decide +kernel)
 |@when h k c c1 c2 e p q _ he _ _ ih1 ih2=>
  intro a b;refine qz (w:="when") (h:=h) (ps:=[p,q]) (by decide) (by decide +kernel) (cL (by decide +kernel)) (qB he (by omega)) (fun x hx=>?_) (by simp) (by omega) (.inr (Nat.le_refl _))
  rcases List.mem_cons.mp hx with rfl|hx
  .exact ih1 (by omega) (by omega)
  .rw[List.mem_singleton.mp hx];exact ih2 (by omega) (by omega)
theorem II(h:∀w∈ws,Lw w):Lw (jw ws):=fun c hc=>by
 rw[i6] at hc
 rcases tJ hc with z|⟨x,hx,z⟩
 .have:=List.mem_singleton.mp z;omega
 .obtain⟨w,hw,rfl⟩:=List.mem_map.mp hx
  exact h w hw c z
theorem xl(x:RC 5 k c r)(hk:k<=900):∃t,Lw t/\(∀T,je [.d r] T=some (.str t,T))/\∀T,df 25 [.d r] T=some (.str t,T):=by
 obtain⟨ws,wd,h1,h2⟩:=HP x (by decide) (by omega);refine⟨jw ws,II wd.lw,fun T=>?_,fun T=>h2 25 T (by decide)⟩;have hl:=wd.ln
 obtain⟨w,fw,rfl⟩:∃w fw,ws=w::fw:=by
  cases ws with
  |nil=>exact absurd rfl wd.ne
  |cons a r=>exact⟨a,r,rfl⟩
 have J:=JB (α:=PyData) (f:=fun _=>[]) (es:=[]) (m:=0) (wd.sz w List.mem_cons_self) (fun y hy=>wd.sz y (List.mem_cons_of_mem _ hy)) (fun _ z=>nomatch z) (by simp at hl;simp;omega);simp at J;simp[je,h1 25 T (by decide),J]
open K1 (isName aF)
abbrev Dl:=List (Str×PyData)
def ky(l:Dl):List Str:=l.map (·.1)
theorem d3(s:Str):∀l:Dl,aA (aJ l) s=l.lookup s
 |[]=>rfl
 |(k,d)::r=>by
  have ih:=d3 s r;show (if k=s then some d else aA (aJ r) s)=_;rw[List.lookup_cons,ih]
  by_cases h:k=s
  .subst h;simp
  .have h':(s == k)=false:=beq_eq_false_iff_ne.mpr fun z=>h z.symm
   rw[if_neg h,h']
theorem mD:∀{l:Dl},l.lookup s=some d->(s,d)∈l
 |[],h=>nomatch h
 |(k,e)::r,h=>by
  rw[List.lookup_cons] at h
  by_cases hk:s=k
  .subst hk
   simp at h;subst h;exact List.mem_cons_self
  .have h':(s == k)=false:=beq_eq_false_iff_ne.mpr hk
   rw[h'] at h;exact List.mem_cons_of_mem _ (mD h)
theorem pR:∀{l:Dl},s∈ky l->∃d,l.lookup s=some d
 |[],h=>nomatch h
 |(k,e)::r,h=>by
  rw[List.lookup_cons]
  by_cases hk:s=k
  .subst hk;exact⟨e,by simp⟩
  .have h':(s == k)=false:=beq_eq_false_iff_ne.mpr hk
   rw[h']
   exact pR (by
    rcases List.mem_cons.mp h with z|z
    .exact absurd z hk
    .exact z)
theorem wx(h:l.lookup s=some d):s∈ky l:=List.mem_map.mpr ⟨_,mD h,rfl⟩
theorem vc:(l.lookup s).isSome=decide (s∈ky l):=by
 by_cases h:s∈ky l
 .obtain⟨d,e⟩:=pR h
  rw[e,decide_eq_true h];rfl
 .rw[decide_eq_false h]
  cases e:l.lookup s with
  |none=>rfl
  |some d=>exact absurd (wx e) h
theorem kP:∀{l:Dl},(ky l).Nodup->(s,d)∈l->l.lookup s=some d
 |[],_,h=>nomatch h
 |(k,e)::r,nd,h=>by
  have nd':k∉ky r/\(ky r).Nodup:=List.nodup_cons.mp nd;rw[List.lookup_cons]
  rcases List.mem_cons.mp h with z|z
  .cases z;simp
  .have hk:s∈ky r:=List.mem_map.mpr ⟨_,z,rfl⟩
   have h':(s == k)=false:=beq_eq_false_iff_ne.mpr fun q=>nd'.1 (q ▸ hk);rw[h'];exact kP nd'.2 z
theorem vT(s:Str)(x:PyData):∀l:Dl,bN (aJ l) s x=aJ (l.map fun p=>if p.1=s then (p.1,x) else p)
 |[]=>rfl
 |(k,d)::r=>by
  have ih:=vT s x r;show (if k=s then (PyData.str k,x)::bN (aJ r) s x else (PyData.str k,d)::bN (aJ r) s x)=_;rw[ih,List.map_cons]
  by_cases h:k=s
  .simp[h,aJ]
  .simp[h,aJ]
def putL(l:Dl)(s:Str)(x:PyData):Dl:=if s∈ky l then l.map fun p=>if p.1=s then (p.1,x) else p else l++[(s,x)]
theorem kY(l:Dl)(s:Str)(x:PyData):putN (aJ l) s x=aJ (putL l s x):=by
 unfold putN putL;rw[d3,vc]
 by_cases h:s∈ky l
 .rw[decide_eq_true h,if_pos rfl,if_pos h,vT]
 .rw[decide_eq_false h,if_neg (by decide),if_neg h]
  simp[aJ]
theorem nB(l:Dl)(s:Str)(x:PyData):ky (putL l s x)=if s∈ky l then ky l else ky l++[s]:=by
 unfold putL
 by_cases h:s∈ky l
 .rw[if_pos h,if_pos h]
  unfold ky;rw[List.map_map];refine List.map_congr_left fun p _=>?_;simp only[Function.comp]
  split <;> rfl
 .rw[if_neg h,if_neg h]
  simp[ky]
theorem vU(h:p∈putL l s x):p∈l\/p=(s,x):=by
 unfold putL at h;split at h
 .obtain⟨q,hq,e⟩:=List.mem_map.mp h
  split at e
  .rename_i z
   exact .inr (by rw[←e,z])
  .exact .inl (e ▸ hq)
 .rcases List.mem_append.mp h with z|z
  .exact .inl z
  .exact .inr (by simpa using z)
structure Dq(P:PyData->Prop)(K:List Str)(l:Dl):Prop where
 nd:(ky l).Nodup
 ok:∀p∈l,P p.2/\p.1∈K
theorem Dq.nil{P:PyData->Prop}{K:List Str}:Dq P K []:=⟨by simp[ky],fun _ h=>nomatch h⟩
theorem Dq.put{P:PyData->Prop}{K:List Str}{l:Dl}(h:Dq P K l){s:Str}{x:PyData}(hx:P x)(hs:s∈K):Dq P K (putL l s x):=by
 refine⟨?_,fun p hp=>?_⟩
 .rw[nB]
  split
  .exact h.nd
  .rename_i z
   rw[List.nodup_append];exact⟨h.nd,by simp,fun a ha b hb=>by simp at hb;subst hb;exact fun q=>z (q ▸ ha)⟩
 .rcases vU hp with z|rfl
  .exact h.ok p z
  .exact⟨hx,hs⟩
theorem Dq.look{P:PyData->Prop}{K:List Str}{l:Dl}(h:Dq P K l){s:Str}{x:PyData}(e:l.lookup s=some x):P x:=(h.ok _ (mD e)).1
theorem yM{α:Type}[DecidableEq α]{L N:List α}(nd:L.Nodup)(h:∀x∈L,x∈N):L.length<=N.length:=by
 apply Nat.le_of_not_lt;intro z;obtain⟨x,hx,nx⟩:=rp nd z;exact nx (h x hx)
theorem Dq.len{P:PyData->Prop}{K:List Str}{l:Dl}(h:Dq P K l):l.length<=K.length:=by
 have:=yM h.nd (N:=K) fun x hx=>by
  obtain⟨p,hp,rfl⟩:=List.mem_map.mp hx;exact(h.ok p hp).2
 simpa[ky] using this
theorem gU(l:Dl):(aJ l).length=l.length:=by simp[aJ]
@[simp] theorem ve:jG i m g fr ρ T=bnd (g ρ T) fun ws T1=>bnd (m ws T1) (nG i fr ρ):=rfl
theorem uZ{i:Nat}{fr:FS}{ρ ρ':Rho}{xs xs':List PyData}{fl:Fl}(h:fr (ρ.set i (some (.tp 0))) [xs]=some ((fl,ρ'),[xs'])):nG i fr ρ (.list xs) []=some ((fl,jR 0 ρ'),[]):=by
 show kN 0 (fr (ρ.set i (some (.tp 0))) [xs])=_;rw[h];rfl
def pr(p:Str×PyData):PyData:=.tuple [.str p.1,p.2]
theorem vY:∀l:Dl,iJ (l.map pr)=some l
 |[]=>rfl
 |(s,d)::r=>by
  have ih:=vY r;show (match pairD (pr (s,d)) with|some p=>(match iJ (r.map pr) with|some ps=>some (p::ps)|none=>none)|none=>none)=_;rw[ih];rfl
theorem mE(l:Dl):(aJ l).map (·.1)=nl (ky l):=by
 unfold aJ nl ky;rw[List.map_map,List.map_map];rfl
theorem vz(hc:∀s,c (some (.d (.str s))::ρ) T=some (!decide (s=y),T))(he:∀s d,(s,d)∈l->e (some (.d (.str s))::ρ) T=some (.d (.tuple [.str s,d]),T)):bC c e ρ (nl (ky l)) T=some ((l.filter fun p=>!decide (p.1=y)).map pr,T):=by
 induction l with
 |nil=>rfl
 |cons p r ih=>
  obtain⟨s,d⟩:=p;have ih':=ih fun s d h=>he s d (List.mem_cons_of_mem _ h);have h1:=hc s;have h2:=he s d List.mem_cons_self;show bC c e ρ (.str s::nl (ky r)) T=_;unfold bC;rw[h1]
  by_cases hs:s=y
  .simp[hs,ih']
  .simp[hs,h2,ih',pr]
theorem Dq.drop{P:PyData->Prop}{K:List Str}{l:Dl}(h:Dq P K l)(f:Str×PyData->Bool):Dq P K (l.filter f):=by
 refine⟨?_,fun p hp=>h.ok p (List.mem_filter.mp hp).1⟩;exact List.Nodup.sublist (List.Sublist.map _ List.filter_sublist) h.nd
theorem kG(h1:g1 ρ []=some (ws,[]))(h2:mh ws []=some (.list xs,[]))(h3:g2 ρ []=some (ws2,[]))(h4:cK ws2=true)(h5:mf (.tp 0::ws2) [xs]=some (y,[xs'])):b6 mf mh g1 g2 ρ []=some (.d y,[]):=by
 unfold b6;rw[h1,fL,h2,fL];show bnd (g2 ρ []) (kZ mf xs)=_;rw[h3,fL];unfold kZ;rw[if_pos h4];show rL 0 (mf (.tp 0::ws2) [xs])=_;rw[h5];rfl
theorem jd{α:Type}{a b:α}:atI [a,b] 0=some a/\atI [a,b] 1=some b:=⟨rfl,rfl⟩
def fzO(o:Option W):Option W:=(bT [o]).headD none
theorem kS:bT (o::r)=fzO o::bT r:=rfl
@[simp] theorem MG:fzO none=none:=rfl
@[simp] theorem MI:fzO (some (.d x))=some (.d x):=rfl
@[simp] theorem MF:fzO (some (.tp i))=some (.tp i):=rfl
@[simp] theorem MH:fzO (some (.loc x))=some (.d x):=rfl
@[simp] theorem LJ:hU f ρ T=bnd (f ρ T) fun w T1=>oJ (jb (view T1 w)) T1:=rfl
@[simp] theorem Kw:oJ (some ds) T=some (.d (.dict ds),T):=rfl
@[simp] theorem Ks:ID [.dict ds]=some (.list (yR ds)):=rfl
theorem ye{I:Nat->Rho->Tp->Prop}:∀(ds:List PyData) (k:Nat) (ρ:Rho) (T:Tp),I k ρ T ->
  (∀j d ρ T,ds[j]? = some d->I (k+j) ρ T->∃ρ' T',body (ρ.set i (some (.d d))) T=some ((.nx,ρ'),T')/\I (k+j+1) ρ' T')->∃ρ' T',forL i body ds ρ T=some ((.nx,ρ'),T')/\I (k+ds.length) ρ' T'
 |[],k,ρ,T,h,_=>⟨ρ,T,rfl,h⟩
 |d::r,k,ρ,T,h,hs=>by
  obtain⟨ρ1,T1,e1,h1⟩:=hs 0 d ρ T rfl h
  obtain⟨ρ2,T2,e2,h2⟩:=ye (body:=body) (I:=I) r (k+1) ρ1 T1 h1 fun j d ρ T hd hI=>by
   rw[show k+1+j=k+(j+1) by omega] at hI ⊢;exact hs (j+1) d ρ T (by simpa using hd) hI
  refine⟨ρ2,T2,?_,by rw[List.length_cons,show k+(r.length+1)=k+1+r.length by omega];exact h2⟩;unfold forL;rw[e1];exact e2
theorem Ey(h:(cy 0 n)[j]? = some d):d=.int (j:Int)/\j<n:=by
 unfold cy at h;rw[List.getElem?_map] at h
 by_cases hj:j<n
 .rw[List.getElem?_range hj] at h
  simp at h;exact⟨h.symm,hj⟩
 .rw[List.getElem?_eq_none (by simp;omega)] at h
  cases h
structure Bd(l:List Str)(d0 r0:Dl):Prop where
 t:Dq (fun v=>aF v=true) l d0
 m:Dq (RC 5 0 60) l r0
 no:∀s∈ky d0,s∉ky r0
def bkL(d0 r0:Dl):PyData:=.tuple [.dict (aJ d0),.dict (aJ r0)]
def scr(ns:List Int):PyData:=.list (ns.map PyData.int)
theorem Dq.up{P:PyData->Prop}{K L:List Str}{l:Dl}(h:Dq P K l)(s:∀x∈K,x∈L):Dq P L l:=⟨h.nd,fun p hp=>⟨(h.ok p hp).1,s _ (h.ok p hp).2⟩⟩
theorem Bd.up{K L:List Str}{d0 r0:Dl}(h:Bd K d0 r0)(s:∀x∈K,x∈L):Bd L d0 r0:=⟨h.t.up s,h.m.up s,h.no⟩
theorem Dq.out{P:PyData->Prop}{K:List Str}{l:Dl}(h:Dq P K l){y:Str}(hy:y∉K):y∉ky l:=fun z=>by
 obtain⟨p,hp,rfl⟩:=List.mem_map.mp z;exact hy (h.ok p hp).2
theorem xS:ky (l++[(s,x)])=ky l++[s]:=by simp[ky]
theorem Dq.add{P:PyData->Prop}{K:List Str}{l:Dl}(h:Dq P K l){s:Str}{x:PyData}(hx:P x)(hs:s∈K)(ho:s∉ky l):Dq P K (l++[(s,x)]):=by
 have:=h.put hx hs;unfold putL at this
 rwa [if_neg ho] at this
theorem vV(ho:s∉ky l):putN (aJ l) s x=aJ (l++[(s,x)]):=by
 rw[kY];unfold putL;rw[if_neg ho]
theorem Bd.addT{K:List Str}{d0 r0:Dl}(h:Bd K d0 r0){y:Str}{v:PyData}(hv:aF v=true)(hy:y∈K)(o1:y∉ky d0)(o2:y∉ky r0):Bd K (d0++[(y,v)]) r0:=⟨h.t.add hv hy o1,h.m,fun s hs=>by
 rw[xS] at hs
 rcases List.mem_append.mp hs with z|z
 .exact h.no s z
 .rw[List.mem_singleton.mp z];exact o2⟩
theorem Bd.addM{K:List Str}{d0 r0:Dl}(h:Bd K d0 r0){y:Str}{v:PyData}(hv:RC 5 0 60 v)(hy:y∈K)(o1:y∉ky d0)(o2:y∉ky r0):Bd K d0 (r0++[(y,v)]):=⟨h.t,h.m.add hv hy o2,fun s hs z=>by
 rw[xS] at z
 rcases List.mem_append.mp z with z|z
 .exact h.no s hs z
 .rw[List.mem_singleton.mp z] at hs;exact o1 hs⟩
section
variable {l:List Str}(hn:Ns l)(h0:0<l.length)(h1:l.length<=20)
include hn h0 h1 in
theorem Fp{K:List Str}(hKl:K.length<=20)(hb:Bd K d0 r0)(hy:y∈K)(o1:y∉ky d0)(o2:y∉ky r0)(hf:Fr xs)(ey:atI (nl l) j=some (.str y)) :
  ∃d1 r1 w xs',jn [some (.d sc),some (.d ba),some (.d (.list (nl l))),some (.d (.bool pk)),some (.loc (.dict (aJ d0))),some (.loc (.dict (aJ r0))),some (.d (.int j)),some (.tp 0),o8] [xs]=some ((.nx,[some (.d sc),some (.d ba),some (.d (.list (nl l))),some (.d (.bool pk)),some (.loc (.dict (aJ d1))),some (.loc (.dict (aJ r1))),some (.d (.int j)),some (.tp 0),some (.d (.int w))]),[xs'])/\Bd K d1 r1:=by
 obtain⟨w,x1,e1,f1,w0,w1⟩:=bB hf (m:=8) (by decide) (by decide)
 have z1:(aJ d0).length<=1000:=by rw[gU];have:=hb.1.len;omega
 have z2:(aJ r0).length<=1000:=by rw[gU];have:=hb.2.len;omega
 by_cases h2:w<2
 .obtain⟨v,x2,e2,hv,f2⟩:=k9 f1 hn h0 h1
  exact⟨d0++[(y,v)],r0,w,x2,by simp[jn,e1,h2,e2,ey,z1,vV o1],hb.addT hv hy o1 o2⟩
 .by_cases h7:w<7
  .obtain⟨r,x2,e2,hr,f2⟩:=yt hn h0 h1 f1 pk
   exact⟨d0,r0++[(y,r)],w,x2,by simp[jn,e1,h2,h7,e2,ey,z2,vV o2],hb.addM hr hy o1 o2⟩
  .exact⟨d0,r0,w,x1,by simp[jn,e1,h2,h7],hb⟩
include hn h0 h1 in
theorem HF(nd:l.Nodup)(ns:List Int)(hba:0<=ba)(pk:Bool):∃d0 r0,kj [.d (scr ns),.d (.int ba),.d (.list (nl l)),.d (.bool pk)] []=some (bkL d0 r0,[])/\Bd l d0 r0:=by
 have lp:=ye (i:=6) (body:=pW) (I:=fun k ρ T=>∃d0 r0 o6 w8,ρ=[some (.d (scr ns)),some (.d (.int ba)),some (.d (.list (nl l))),some (.d (.bool pk)),some (.loc (.dict (aJ d0))),some (.loc (.dict (aJ r0))),o6,none,w8]/\T=[]/\Bd (l.take k) d0 r0)
  (cy 0 l.length) 0 [some (.d (scr ns)),some (.d (.int ba)),some (.d (.list (nl l))),some (.d (.bool pk)),some (.loc (.dict [])),some (.loc (.dict [])),none,none,none] [] ⟨[],[],none,none,rfl,rfl,.nil,.nil,fun _ h=>nomatch h⟩ (fun j d ρ T hd hI=>by
   obtain⟨d0,r0,o6,w8,rfl,rfl,hb⟩:=hI;obtain⟨rfl,hj⟩:=Ey hd;rw[Nat.zero_add] at hb ⊢;obtain⟨xs,hf,ef⟩:=iV ns (ba+j) (by omega);have tk:l.take (j+1)=l.take j++[l[j]]:=List.take_succ_eq_append_getElem hj
   have ny:l[j]∉l.take j:=by
    have nd2:(l.take (j+1)).Nodup:=List.Nodup.sublist (List.take_sublist _ _) nd;rw[tk,List.nodup_append] at nd2;exact fun z=>nd2.2.2 _ z _ (List.mem_singleton.mpr rfl) rfl
   have ey:atI (nl l) (j:Int)=some (.str l[j]):=by
    have:(nl l)[j]? = some (.str l[j]):=by simp[nl,hj]
    exact xh this
   have hb':Bd (l.take (j+1)) d0 r0:=hb.up fun x hx=>by rw[tk];exact List.mem_append_left _ hx
   obtain⟨d1,r1,w,xs',e,hb2⟩:=Fp hn h0 h1 (by rw[List.length_take];omega) hb' (by rw[tk];exact List.mem_append_right _ (List.mem_singleton.mpr rfl)) (hb.t.out ny) (hb.m.out ny) hf (sc:=scr ns) (ba:=.int ba) (pk:=pk) ey (o8:=w8);refine⟨[some (.d (scr ns)),some (.d (.int ba)),some (.d (.list (nl l))),some (.d (.bool pk)),some (.loc (.dict (aJ d1))),some (.loc (.dict (aJ r1))),some (.d (.int j)),none,some (.d (.int w))],[],?_,d1,r1,_,_,rfl,rfl,hb2⟩;have oo:=uZ (i:=7) (fr:=jn) (ρ:=[some (.d (scr ns)),some (.d (.int ba)),some (.d (.list (nl l))),some (.d (.bool pk)),some (.loc (.dict (aJ d0))),some (.loc (.dict (aJ r0))),some (.d (.int j)),none,w8]) e;have ef':=ef [];unfold pW;unfold scr at ef' oo ⊢;simp only[ve,List.set_cons_succ,List.set_cons_zero,mY,mX,mW,mV,mU,qO,qN,qM,fL,mG,nY,mZ,nV,wM,nX,nW,ef',oo]
   rfl)
 obtain⟨ρ',T',e,d0,r0,o6,w8,rfl,rfl,hb⟩:=lp;rw[kH,Nat.zero_add,List.take_length] at hb;refine⟨d0,r0,?_,hb⟩;have ro:eS (l.length:Int)=true:=rng_ok (by omega) (by omega)
 have tn:((l.length:Int)).toNat=l.length:=by omega
 rw[BO];simp[cu,ro,tn];rw[e];simp[bkL,kS]
end
theorem uT(h:fe ρ T=some (.d (.list (l.map pr)),T))(nd:(ky l).Nodup)(hl:l.length<=1000):k6 i fe ρ T=some ((.nx,ρ.set i (some (.loc (.dict (aJ l))))),T):=by
 unfold k6;rw[h];show nv i ρ T (iJ (l.map pr))=_;rw[vY]
 have:sy l=true:=by
  unfold sy;have nd':(l.map fun x=>x.1).Nodup:=nd;rw[decide_eq_true nd',decide_eq_true hl];rfl
 unfold nv;dsimp only;rw[if_pos this]
section
variable {l:List Str}(hn:Ns l)(h0:0<l.length)(h1:l.length<=20)
include hn h0 h1 in
theorem DG(hb:Bd l d0 r0)(hf:Fr xs)(pk:Bool):∃d1 r1 xs',jg [.tp 0,.d (bkL d0 r0),.d (.list (nl l)),.d (.bool pk)] [xs]=some (bkL d1 r1,[xs'])/\Bd l d1 r1:=by
 obtain⟨y,x1,r,e1,ey,my,f1⟩:=oh hn h0 h1 hf;obtain⟨w,x2,e2,f2,w0,w1⟩:=bB f1 (m:=5) (by decide) (by decide)
 let d1:=d0.filter fun p=>!decide (p.1=y)
 let r1:=r0.filter fun p=>!decide (p.1=y)
 have hd1:Dq (fun v=>aF v=true) l d1:=hb.t.drop _;have hr1:Dq (RC 5 0 60) l r1:=hb.m.drop _
 have mem1:∀{m:Dl}{s:Str},s∈ky (m.filter fun p=>!decide (p.1=y))->s∈ky m/\s≠y:=fun hs=>by
  obtain⟨q,hq,rfl⟩:=List.mem_map.mp hs;obtain⟨q1,q2⟩:=List.mem_filter.mp hq;exact⟨List.mem_map.mpr ⟨q,q1,rfl⟩,by simpa using q2⟩
 have hn1:∀s∈ky d1,s∉ky r1:=fun s hs z=>hb.no s (mem1 hs).1 (mem1 z).1
 have z1:d1.length<=1000:=by have:=hd1.len;omega
 have z2:r1.length<=1000:=by have:=hr1.len;omega
 have s1:aG 4 (af ixD (aa 2) (ar aP (ae (aa 0) (ae (fCB a8 (ae (aa 2) ah)) ah)))) [some (.tp 0),some (.d (bkL d0 r0)),some (.d (.list (nl l))),some (.d (.bool pk)),none,none,none,none] [xs]=some ((.nx,[some (.tp 0),some (.d (bkL d0 r0)),some (.d (.list (nl l))),some (.d (.bool pk)),some (.d (.str y)),none,none,none]),[x1]):=by
  simp[cu,e1,ey]
 have s2:=uT (i:=5) (fe:=bH (bc (af ixD (aa 1) (fC (.int 0)))) (ay (af neD (aa 0) (aa 5))) (av .tuple (ae (aa 0) (ae (af ixA (af ixD (aa 2) (fC (.int 0))) (aa 0)) ah)))) (ρ:=[some (.tp 0),some (.d (bkL d0 r0)),some (.d (.list (nl l))),some (.d (.bool pk)),some (.d (.str y)),none,none,none]) (T:=[x1]) (l:=d1) (by
  have c:=vz (c:=ay (af neD (aa 0) (aa 5))) (e:=av .tuple (ae (aa 0) (ae (af ixA (af ixD (aa 2) (fC (.int 0))) (aa 0)) ah))) (ρ:=[some (.tp 0),some (.d (bkL d0 r0)),some (.d (.list (nl l))),some (.d (.bool pk)),some (.d (.str y)),none,none,none]) (T:=[x1]) (y:=y) (l:=d0) (fun s=>by simp) (fun s d hm=>by
   have k:=kP hb.t.nd hm
   simp[bkL,jd,d3,k])
  unfold bkL at c ⊢;simp[jd,mE,c]
  rfl) hd1.nd z1
 have s3:=uT (i:=6) (fe:=bH (bc (af ixD (aa 1) (fC (.int 1)))) (ay (af neD (aa 0) (aa 5))) (av .tuple (ae (aa 0) (ae (af ixA (af ixD (aa 2) (fC (.int 1))) (aa 0)) ah)))) (ρ:=[some (.tp 0),some (.d (bkL d0 r0)),some (.d (.list (nl l))),some (.d (.bool pk)),some (.d (.str y)),some (.loc (.dict (aJ d1))),none,none]) (T:=[x1]) (l:=r1) (by
  have c:=vz (c:=ay (af neD (aa 0) (aa 5))) (e:=av .tuple (ae (aa 0) (ae (af ixA (af ixD (aa 2) (fC (.int 1))) (aa 0)) ah))) (ρ:=[some (.tp 0),some (.d (bkL d0 r0)),some (.d (.list (nl l))),some (.d (.bool pk)),some (.d (.str y)),some (.loc (.dict (aJ d1))),none,none]) (T:=[x1]) (y:=y) (l:=r0) (fun s=>by simp) (fun s d hm=>by
   have k:=kP hb.m.nd hm
   simp[bkL,jd,d3,k])
  unfold bkL at c ⊢;simp[jd,mE,c]
  rfl) hr1.nd z2
 have s4:aG 7 (ar aP (ae (aa 0) (ae (fC (.int 5)) ah))) [some (.tp 0),some (.d (bkL d0 r0)),some (.d (.list (nl l))),some (.d (.bool pk)),some (.d (.str y)),some (.loc (.dict (aJ d1))),some (.loc (.dict (aJ r1))),none] [x1]=some ((.nx,[some (.tp 0),some (.d (bkL d0 r0)),some (.d (.list (nl l))),some (.d (.bool pk)),some (.d (.str y)),some (.loc (.dict (aJ d1))),some (.loc (.dict (aJ r1))),some (.d (.int w))]),[x2]):=by simp[e2]
 have y1:(aJ d1).length<=1000:=by rw[gU];exact z1
 have y2:(aJ r1).length<=1000:=by rw[gU];exact z2
 unfold jg;rw[oI];simp only[uy,mq,mr,if_true];show ∃d1 r1 xs',dE (ak _ _ [some (.tp 0),some (.d (bkL d0 r0)),some (.d (.list (nl l))),some (.d (.bool pk)),none,none,none,none] [xs])=_/\_;rw[bG s1,bG s2];simp only[List.set_cons_succ,List.set_cons_zero];rw[bG s3];simp only[List.set_cons_succ,List.set_cons_zero];rw[bG s4]
 by_cases h2:w<2
 .obtain⟨v,x3,e3,hv,f3⟩:=k9 f2 hn h0 h1
  refine⟨putL d1 y v,r1,x3,by simp[h2,e3,y1,kY,bkL,kS],hd1.put hv my,hr1,fun s hs z=>?_⟩;rw[nB] at hs;split at hs
  .exact hn1 s hs z
  .rcases List.mem_append.mp hs with q|q
   .exact hn1 s q z
   .exact(mem1 z).2 (List.mem_singleton.mp q)
 .by_cases h4:w<4
  .obtain⟨r,x3,e3,hr,f3⟩:=yt hn h0 h1 f2 pk
   refine⟨d1,putL r1 y r,x3,by simp[h2,h4,e3,y2,kY,bkL,kS],hd1,hr1.put hr my,fun s hs z=>?_⟩;rw[nB] at z;split at z
   .exact hn1 s hs z
   .rcases List.mem_append.mp z with q|q
    .exact hn1 s hs q
    .exact(mem1 hs).2 (List.mem_singleton.mp q)
  .exact⟨d1,r1,x2,by simp[h2,h4,bkL,kS],hd1,hr1,fun s hs z=>hn1 s hs z⟩
end
theorem xa(h:q∈aJ l):∃s v,q=(.str s,v)/\(s,v)∈l:=by
 obtain⟨p,hp,rfl⟩:=List.mem_map.mp h;exact⟨p.1,p.2,rfl,hp⟩
theorem yL(h:l.Nodup):(nl l).Nodup:=List.Pairwise.map _ (fun a b n e=>n (by cases e;rfl)) h
theorem Bd.bk(h1:l.length<=20)(h:Bd l d0 r0):Bk true 7 (aJ d0) (aJ r0):=by
 refine⟨fun q hq=>?_,fun q hq=>?_,?_,?_,by decide⟩
 .obtain⟨s,v,rfl,m⟩:=xa hq
  exact⟨s,v,rfl,(h.t.ok _ m).1⟩
 .obtain⟨s,v,rfl,m⟩:=xa hq
  refine⟨s,v,rfl,(h.m.ok _ m).1.rg (by decide),by rw[d3];exact kP h.m.nd m,?_⟩;rw[d3]
  cases e:d0.lookup s with
  |none=>rfl
  |some u=>exact absurd (List.mem_map.mpr ⟨_,m,rfl⟩) (h.no s (wx e))
 .have:=mE r0
  rw[this];exact yL h.m.nd
 .rw[gU,gU]
  have:=h.t.len;have:=h.m.len;omega
@[simp] theorem Ke:aa 10 (o::r) T=aa 9 r T:=d6
@[simp] theorem Kc:aa 11 (o::r) T=aa 10 r T:=d6
@[simp] theorem Kb:aa 12 (o::r) T=aa 11 r T:=d6
def rdP(p:Str×PyData):PyData:=.tuple [.str p.1,stS p.2]
def tlD(a b:Str):PyData:=.tuple [.str a,.str b]
def lnD(n:Str)(rs:List (Str×PyData))(a b:Str):PyData:=.tuple [.str n,.tuple (rs.map rdP),tlD a b]
def Hx(x:PyData):Prop:=∃t n rs a b,x=.tuple [.str t,lnD n rs a b]/\(∀p∈rs,aF p.2=true/\isName (.str p.1)=true)/\Lw b/\rs.length<=12/\Lw t/\Lw n/\Lw a
theorem Io(h:OkS p n s):∃rs:List (Str×PyData),s.rd.map rdS=rs.map rdP/\∀p∈rs,aF p.2=true/\isName (.str p.1)=true:=by
 have:∀l:List PyData,(∀d∈l,∃x v,d=.tuple [.str x,v]/\aF v=true/\isName (.str x)=true)->∃rs:List (Str×PyData),l.map rdS=rs.map rdP/\∀p∈rs,aF p.2=true/\isName (.str p.1)=true:=fun l=>by
  induction l with
  |nil=>exact fun _=>⟨[],rfl,fun _ z=>nomatch z⟩
  |cons d r ih=>
   intro h;obtain⟨x,v,rfl,hv⟩:=h d List.mem_cons_self;obtain⟨rs,e,q⟩:=ih fun d hd=>h d (List.mem_cons_of_mem _ hd);refine⟨(x,v)::rs,by rw[List.map_cons,List.map_cons,e];rfl,fun p hp=>?_⟩
   rcases List.mem_cons.mp hp with rfl|hp
   .exact hv
   .exact q p hp
 refine this s.rd fun d hd=>?_;obtain⟨x,v,rfl,hv⟩:=h.rv d hd;obtain⟨x',v',e,hx⟩:=h.rn _ hd;cases e;exact⟨x,v,rfl,hv,hx⟩
theorem GD(h:StepOk p g n S):∃a b,dq S=tlD a b/\(vMd S=[]\/∃v,vMd S=[v])/\Lw b/\Lw a:=by
 rcases eK h with⟨v,rfl,hv⟩|⟨y,rfl,hy⟩|⟨b',y,r',rfl,hy⟩
 .exact⟨_,mk (cst 4 v),m4,.inr ⟨v,FM⟩,gw hv,cL (by decide +kernel)⟩
 .exact⟨_,y,m5,.inl FN,eV hy,cL (by decide +kernel)⟩
 .exact⟨_,y,m6,.inl FQ,eV hy,cL (by decide +kernel)⟩
theorem CU(h:OkS p n s):∃(rs:List (Str×PyData)) (a b:Str),((∀p∈rs,aF p.2=true/\isName (.str p.1)=true)/\Lw b/\rs.length<=12/\Lw a)/\jy (cO s) none (some 2)=some (.tuple [.tuple (rs.map rdP),tlD a b]):=by
 obtain⟨rs,e,q⟩:=Io h;obtain⟨a,b,e2,e3,lb,la⟩:=GD h.st
 have el:rs.length=s.rd.length:=by have:=congrArg List.length e;simpa using this.symm
 refine⟨rs,a,b,⟨q,lb,by have:=h.rd;have:=h.le;omega,la⟩,?_⟩;unfold cO;rw[e,e2]
 rcases e3 with z|⟨v,z⟩
 .rw[z];rfl
 .rw[z];rfl
theorem EH:aZ (.tuple [.str t,lnD n rs a b])=true:=by
 have:bi (rs.map rdP)=true:=iD fun d hd=>by
  obtain⟨p,_,rfl⟩:=List.mem_map.mp hd;simp[rdP,aZ,bi,qy]
 simp[lnD,tlD,aZ,bi,this]
structure Hq(l:List Str)(h:Dl):Prop where
 nd:(ky h).Nodup
 ok:∀p∈h,p.1∈l/\Hx p.2
theorem Hq.nil:Hq l []:=⟨by simp[ky],fun _ h=>nomatch h⟩
theorem Hq.put(q:Hq l h)(hs:s∈l)(hx:Hx x):Hq l (putL h s x):=by
 refine⟨?_,fun p hp=>?_⟩
 .rw[nB]
  split
  .exact q.nd
  .rename_i z
   rw[List.nodup_append];exact⟨q.nd,by simp,fun a ha b hb=>by simp at hb;subst hb;exact fun w=>z (w ▸ ha)⟩
 .rcases vU hp with z|rfl
  .exact q.ok p z
  .exact⟨hs,hx⟩
theorem Hq.len(q:Hq l h):h.length<=l.length:=by
 have:=yM q.nd (N:=l) fun x hx=>by
  obtain⟨p,hp,rfl⟩:=List.mem_map.mp hx;exact(q.ok p hp).1
 simpa[ky] using this
def ρH(sc ba bs:PyData)(l:List Str)(h:Dl)(gs:PyData)(k:Int)(o8 o9 o10 o11:Option W):Rho:=[some (.d sc),some (.d ba),some (.d bs),some (.d (.list (nl l))),some (.loc (.dict (aJ h))),some (.d gs),some (.d (.int k)),some (.tp 0),o8,o9,o10,o11]
theorem Dq.gv{K:List Str}{g:Dl}(h:Dq (fun v=>aF v=true) K g):GV (aJ g):=fun s v e=>by
 rw[d3] at e;exact h.look e
section
variable {l:List Str}(hn:Ns l)(h0:0<l.length)(h1:l.length<=20)
variable {sc ba bs gs:PyData}{h:Dl}{k:Int}{o8 o11:Option W}
include hn h0 h1 in
theorem EL(hf:Fr xs):∃g xs' p10,forL 10 kE (nl l) (ρH sc ba bs l h gs k o8 (some (.loc (.dict []))) o10 o11) [xs]=some ((.nx,ρH sc ba bs l h gs k o8 (some (.loc (.dict (aJ g)))) p10 o11),[xs'])/\Dq (fun v=>aF v=true) l g/\Fr xs':=by
 have lp:=jt (i:=10) (body:=kE) (N:=20) (I:=fun _ ρ T=>∃g xs p10,ρ=ρH sc ba bs l h gs k o8 (some (.loc (.dict (aJ g)))) p10 o11/\T=[xs]/\Fr xs/\Dq (fun v=>aF v=true) l g) (nl l) 0 (ρH sc ba bs l h gs k o8 (some (.loc (.dict []))) o10 o11) [xs] (by rw[cu];omega) ⟨[],xs,o10,rfl,rfl,hf,.nil⟩ (fun _ d ρ T hd _ hI=>by
  obtain⟨g,xs,p10,rfl,rfl,hf,hg⟩:=hI;obtain⟨s,hs,rfl⟩:=List.mem_map.mp hd;obtain⟨w,x1,e1,f1,w0,w1⟩:=bB hf (m:=4) (by decide) (by decide)
  have z:(aJ g).length<=1000:=by rw[gU];have:=hg.len;omega
  by_cases hw:0<w
  .obtain⟨v,x2,e2,hv,f2⟩:=k9 f1 hn h0 h1
   exact⟨ρH sc ba bs l h gs k o8 (some (.loc (.dict (aJ (putL g s v))))) (some (.d (.str s))) o11,[x2],by simp[kE,ρH,e1,hw,e2,z,kY],_,_,_,rfl,rfl,f2,hg.put hv hs⟩
  .exact⟨ρH sc ba bs l h gs k o8 (some (.loc (.dict (aJ g)))) (some (.d (.str s))) o11,[x1],by simp[kE,ρH,e1,hw],_,_,_,rfl,rfl,f1,hg⟩)
 obtain⟨ρ',T',e,g,xs',p10,rfl,rfl,f,hg⟩:=lp;exact⟨g,xs',p10,e,hg,f⟩
theorem EJ:jO (.d x)=some (.d x):=rfl
theorem EI:jO (.loc x)=some (.d x):=rfl
theorem EK:cY (o::r)=o.bind jO::cY r:=rfl
theorem ya(hn:Ns l)(h1:l.length<=20)(hh:Hq l h)(hb:Bd l d0 r0)(hbs:atI [b0,b1] i=some (bkL d0 r0))(hkn:GV kn)(h9:jO W9=some (.d (.dict kn)))(k0:0<=k)(k1:k<l.length)(hf:Fr xs) :
  ∃h' xs' p11,fIf (bU (ay (af inA (af ixD (aa 3) (aa 6)) (af ixD (af ixD (aa 2) (aa 8)) (fC (.int 1))))) (ay (af gtD (ar aP (ae (aa 7) (ae (fC (.int 5)) ah))) (fC (.int 0))))) (ak (aG 11 (af ixA (af ixD (af ixD (aa 2) (aa 8)) (fC (.int 1))) (af ixD (aa 3) (aa 6)))) (bL 4 (af ixD (aa 3) (aa 6)) (fQ (av .tuple (ae (ar (df 25) (ae (aa 11) ah)) (ae (af aS (av .tuple (ae (af ixD (aa 3) (aa 6)) ah)) (fSl (ar f6 (ae (aa 11) (ae (aa 9) ah))) cQ (fP (fC (.int 2))))) ah)))))) aD (ρH sc ba (.list [b0,b1]) l h gs k (some (.d (.int i))) (some W9) o10 o11) [xs]=some ((.nx,ρH sc ba (.list [b0,b1]) l h' gs k (some (.d (.int i))) (some W9) o10 p11),[xs'])/\Hq l h':=by
 obtain⟨y,ey,my⟩:=oM k0 k1
 have z:(aJ h).length<=1000:=by rw[gU];have:=hh.len;omega
 have ib:∀s,inA (.str s) (.dict (aJ r0))=some (.bool (decide (s∈ky r0))):=fun s=>by
  show (some (aA (aJ r0) s).isSome).map PyData.bool=_;rw[d3,vc];rfl
 by_cases hi:y∈ky r0
 .obtain⟨r,er⟩:=pR hi
  obtain⟨w,x1,e1,f1,w0,w1⟩:=bB hf (m:=5) (by decide) (by decide)
  by_cases hw:0<w
  .have rc:=hb.m.look er
   obtain⟨t,tl,_,et⟩:=xl rc (by decide);have rg:=rc.rg (by decide);have ex:=qw [] hkn (by decide) rg;obtain⟨rs,a,b,fk,sl⟩:=CU (gW hkn (by decide) (c8 rg (by decide))).1;have et':=et [];have lk:ly [x1] (some (.d (.tuple [.str t,lnD y rs a b]),[]))=some (.d (.tuple [.str t,lnD y rs a b]),[x1]):=qg EH
   have z4:1+2<=sizeLine:=by rw[szL];decide
   refine⟨putL h y (.tuple [.str t,lnD y rs a b]),x1,some (.d r),?_,hh.put my ⟨t,y,rs,a,b,rfl,fk.1,fk.2.1,fk.2.2.1,tl,eV (hn y my).isNm,fk.2.2.2⟩⟩;unfold lnD at lk ⊢;simp[ρH,ey,hbs,bkL,jd,ib,hi,e1,hw,d3,er,EK,EJ,EI,h9,et',ex,sl,z4,lk,z,kY]
  .exact⟨h,x1,o11,by simp[ρH,ey,hbs,bkL,jd,ib,hi,e1,hw],hh⟩
 .exact⟨h,xs,o11,by simp[ρH,ey,hbs,bkL,jd,ib,hi],hh⟩
include hn h0 h1 in
theorem ET(hh:Hq l h)(b0:Bd l d0 r0)(b1:Bd l d1 r1)(hg0:GV g0)(hg1:GV g1)(k0:0<=k)(k1:k<l.length)(hf:Fr xs) :
  ∃h' xs' p8 p9 p10 p11,kB (ρH sc ba (.list [bkL d0 r0,bkL d1 r1]) l h (.list [.dict g0,.dict g1]) k o8 o9 o10 o11) [xs]=some ((.nx,ρH sc ba (.list [bkL d0 r0,bkL d1 r1]) l h' (.list [.dict g0,.dict g1]) k p8 p9 p10 p11),[xs'])/\Hq l h':=by
 obtain⟨i,x1,e1,f1,i0,i1⟩:=bB hf (m:=2) (by decide) (by decide)
 obtain⟨dd,rr,gg,hb,hbb,hg,hgg⟩:∃dd rr gg,atI [bkL d0 r0,bkL d1 r1] i=some (bkL dd rr)/\Bd l dd rr/\atI [PyData.dict g0,.dict g1] i=some (.dict gg)/\GV gg:=by
  have:i=0\/i=1:=by omega
  rcases this with rfl|rfl
  .exact⟨d0,r0,g0,rfl,b0,rfl,hg0⟩
  .exact⟨d1,r1,g1,rfl,b1,rfl,hg1⟩
 have s1:aG 8 (ar aP (ae (aa 7) (ae (fCB a8 (ae (aa 2) ah)) ah))) (ρH sc ba (.list [bkL d0 r0,bkL d1 r1]) l h (.list [.dict g0,.dict g1]) k o8 o9 o10 o11) [xs]=some ((.nx,ρH sc ba (.list [bkL d0 r0,bkL d1 r1]) l h (.list [.dict g0,.dict g1]) k (some (.d (.int i))) o9 o10 o11),[x1]):=by
  simp[ρH,e1]
 have s2:aG 9 (af ixD (aa 5) (aa 8)) (ρH sc ba (.list [bkL d0 r0,bkL d1 r1]) l h (.list [.dict g0,.dict g1]) k (some (.d (.int i))) o9 o10 o11) [x1]=some ((.nx,ρH sc ba (.list [bkL d0 r0,bkL d1 r1]) l h (.list [.dict g0,.dict g1]) k (some (.d (.int i))) (some (.d (.dict gg))) o10 o11),[x1]):=by
  simp[ρH,hg]
 obtain⟨w,x2,e2,f2,w0,w1⟩:=bB f1 (m:=4) (by decide) (by decide)
 by_cases hw:w=0
 .obtain⟨g,x3,p10,e3,hg3,f3⟩:=EL hn h0 h1 (sc:=sc) (ba:=ba) (bs:=.list [bkL d0 r0,bkL d1 r1]) (gs:=.list [.dict g0,.dict g1]) (h:=h) (k:=k) (o8:=some (.d (.int i))) (o11:=o11) f2 (o10:=o10)
  obtain⟨h',x4,p11,e4,hh'⟩:=ya (sc:=sc) (ba:=ba) (gs:=.list [.dict g0,.dict g1]) (o11:=o11) hn h1 hh hbb hb hg3.gv (W9:=.loc (.dict (aJ g))) rfl k0 k1 f3 (o10:=p10);refine⟨h',x4,some (.d (.int i)),some (.loc (.dict (aJ g))),p10,p11,?_,hh'⟩;unfold kB
  rw[bG s1,bG s2,bG (a:=fIf _ _ _) (ρ1:=ρH sc ba (.list [bkL d0 r0,bkL d1 r1]) l h (.list [.dict g0,.dict g1]) k (some (.d (.int i))) (some (.loc (.dict (aJ g)))) p10 o11) (T1:=[x3]) (by
   unfold ρH at e3 ⊢
   simp[e2,hw,e3])]
  exact e4
 .obtain⟨h',x4,p11,e4,hh'⟩:=ya (sc:=sc) (ba:=ba) (gs:=.list [.dict g0,.dict g1]) (o11:=o11) hn h1 hh hbb hb hgg (W9:=.d (.dict gg)) rfl k0 k1 f2 (o10:=o10)
  refine⟨h',x4,some (.d (.int i)),some (.d (.dict gg)),o10,p11,?_,hh'⟩;unfold kB
  rw[bG s1,bG s2,bG (a:=fIf _ _ _) (ρ1:=ρH sc ba (.list [bkL d0 r0,bkL d1 r1]) l h (.list [.dict g0,.dict g1]) k (some (.d (.int i))) (some (.d (.dict gg))) o10 o11) (T1:=[x2]) (by
   unfold ρH
   simp[e2,hw])]
  exact e4
def ρI(sc ba bs:PyData)(l:List Str)(h:Dl)(gs:PyData)(o6 o8 o9 o10 o11:Option W):Rho:=[some (.d sc),some (.d ba),some (.d bs),some (.d (.list (nl l))),some (.loc (.dict (aJ h))),some (.d gs),o6,none,o8,o9,o10,o11]
include hn h0 h1 in
theorem HB(ns:List Int)(hb:0<=b)(b0:Bd l d0 r0)(b1:Bd l d1 r1):∃h,ki [.d (scr ns),.d (.int b),.d (.list [bkL d0 r0,bkL d1 r1]),.d (.list (nl l))] []=some (.dict (aJ h),[])/\Hq l h:=by
 obtain⟨g0,eg0,sg0,_,_⟩:=qW (b0.bk h1) [];have hg0:=sg0.gv (b0.bk h1);obtain⟨g1,eg1,sg1,_,_⟩:=qW (b1.bk h1) [];have hg1:=sg1.gv (b1.bk h1)
 have lp:=jt (i:=6) (body:=pV) (N:=20) (I:=fun _ ρ T=>∃h o6 o8 o9 o10 o11,ρ=ρI (scr ns) (.int b) (.list [bkL d0 r0,bkL d1 r1]) l h (.list [.dict g0,.dict g1]) o6 o8 o9 o10 o11/\T=[]/\Hq l h)
  (cy 0 l.length) 0 (ρI (scr ns) (.int b) (.list [bkL d0 r0,bkL d1 r1]) l [] (.list [.dict g0,.dict g1]) none none none none none) [] (by rw[kH];omega) ⟨[],none,none,none,none,none,rfl,rfl,.nil⟩ (fun _ d ρ T hd _ hI=>by
   obtain⟨h,o6,o8,o9,o10,o11,rfl,rfl,hh⟩:=hI;obtain⟨j,rfl,j0,j1⟩:=u5 hd;obtain⟨xs,hf,ef⟩:=iV ns (b+j) (by omega);obtain⟨h',xs',p8,p9,p10,p11,e,hh'⟩:=ET hn h0 h1 hh b0 b1 hg0 hg1 j0 j1 hf (sc:=scr ns) (ba:=.int b) (o8:=o8) (o9:=o9) (o10:=o10) (o11:=o11);refine⟨ρI (scr ns) (.int b) (.list [bkL d0 r0,bkL d1 r1]) l h' (.list [.dict g0,.dict g1]) (some (.d (.int j))) (p8.bind (jQ 0)) (p9.bind (jQ 0)) (p10.bind (jQ 0)) (p11.bind (jQ 0)),[],?_,h',_,_,_,_,_,rfl,rfl,hh'⟩;have oo:=uZ (i:=7) (fr:=kB) (ρ:=(ρI (scr ns) (.int b) (.list [bkL d0 r0,bkL d1 r1]) l h (.list [.dict g0,.dict g1]) (some (.d (.int j))) o8 o9 o10 o11)) e;have ef':=ef [];unfold pV;unfold scr ρI at oo ⊢;simp only[ve,List.set_cons_succ,List.set_cons_zero,mY,mX,mW,mV,mU,qO,qN,qM,fL,mG,nY,mZ,nV,wM,nX,nW,ef',oo]
   rfl)
 obtain⟨ρ',T',e,h,o6,o8,o9,o10,o11,rfl,rfl,hh⟩:=lp;refine⟨h,?_,hh⟩;have ro:eS (l.length:Int)=true:=rng_ok (by omega) (by omega)
 have tn:((l.length:Int)).toNat=l.length:=by omega
 have d0':aJ ([]:Dl)=[]:=rfl;rw[BM];unfold ρI at e;rw[d0'] at e;have q0:fD [.d (bkL d0 r0)] []=some (.dict g0,[]):=eg0;have q1:fD [.d (bkL d1 r1)] []=some (.dict g1,[]):=eg1;simp[bC,q0,q1,cu,ro,tn];rw[e];simp[kS]
end
theorem l6(ha:Lw a)(hb:Lw b):SeqAt.shaped (tlD a b)=true:=by simp[SeqAt.shaped,tlD,PyData.canLay0,PyData.canLayAll0,rS ha,rS hb,PyData.depth,PyData.depthAll]
def LK:PyData:=.tuple [.str "lacks"]
theorem BI:SeqAt.shaped LK=true:=by decide +kernel
def MDE:Str:=Str.ofString "made"
def oA(v:PyData):PyData:=tlD MDE (mk (cst 4 v))
theorem oE:Lw MDE:=cL (by decide +kernel)
theorem D9:(putN E x v).length<=E.length+1:=by
 unfold putN;split
 .rw[tG];omega
 .simp
theorem qo{b:FS}{i j:Nat}{R:Dc->Option D.W->Option D.W->Rho}{g:PyData->PyData}{T:Tp}:∀(rest E:Dc) (on oj:Option D.W),(rest.map (·.1)).Nodup ->
  (∀q∈rest,∃x d,q=(.str x,d)/\∀E on oj,E.length<=1000->b (((R E on oj).set i (some (.d (.str x)))).set j (some (.d d))) T=some ((.nx,R (putN E x (g d)) (some (.d (.str x))) (some (.d d))),T))->E.length+rest.length<=1000 ->
  ∃E' on' oj',fq i j b rest (R E on oj) T=some ((.nx,R E' on' oj'),T)/\E'.length<=E.length+rest.length/\∀y,aA E' y=match aA rest y with
   |some d=>some (g d)
   |none=>aA E y
 |[],E,on,oj,_,_,_=>⟨E,on,oj,rfl,Nat.le_refl _,fun _=>rfl⟩
 |q::rest,E,on,oj,nd,h,hl=>by
  obtain⟨x,d,rfl,hb⟩:=h q List.mem_cons_self;rw[List.map_cons,List.nodup_cons] at nd;rw[List.length_cons] at hl;have pl:=D9 (E:=E) (x:=x) (v:=g d);obtain⟨E',on',oj',e1,e2,e3⟩:=qo (b:=b) (R:=R) (g:=g) rest (putN E x (g d)) (some (.d (.str x))) (some (.d d)) nd.2 (fun q hq=>h q (List.mem_cons_of_mem _ hq)) (by omega);refine⟨E',on',oj',?_,by rw[List.length_cons];omega,fun y=>?_⟩
  .rw[wH (hb E on oj (by omega))]
   exact e1
  .rw[e3,kr]
   show _=match (if x=y then some d else aA rest y) with|some d=>some (g d)|none=>aA E y
   by_cases hxy:x=y
   .subst hxy
    rw[if_pos rfl,if_pos rfl,qh nd.1]
   .rw[if_neg hxy,if_neg hxy]
def eF(D0 R0 G:Dc)(x:Str):Option PyData:=match aA R0 x with
 |some r=>some (dq (run G (s0 r)).S)
 |none=>(aA D0 x).map oA
section
variable {p:Bool}{n:Nat}{D0 R0:Dc}
theorem Bo(B:Bk p n D0 R0):∃G st,ko [.d (bkD D0 R0)] []=some (.dict (lnL R0 st),[])/\Snd D0 R0 G/\Sub D0 G/\(∀x,ClsAt R0 G x)/\∀x r,aA R0 x=some r->st x=run G (s0 r):=by
 obtain⟨G,st,e1,e2,e3,e4,e5⟩:=Hy B [];refine⟨G,st,?_,e2,e3,e4,e5⟩;have ll:=Fy B (st:=st) (fun x r hr=>by rw[e5 x r hr];exact(gW (e2.gv B) B.n20 (c8 (B.rg hr).1 B.n20)).1) [];simp[ko,e1,ll]
def ρE(bk:PyData)(o4:Option D.W)(E:Dc)(on oj:Option D.W):Rho:=[some (.d bk),some (.loc (.dict E)),on,oj,o4]
def ρE2(bk:PyData)(o3:Option D.W)(E:Dc)(on oj:Option D.W):Rho:=[some (.d bk),some (.loc (.dict E)),on,o3,oj]
theorem HE(B:Bk p n D0 R0)(nd:(D0.map (·.1)).Nodup):∃G E,iA [.d (bkD D0 R0)] []=some (.dict E,[])/\Snd D0 R0 G/\Sub D0 G/\(∀x,ClsAt R0 G x)/\∀x,aA E x=eF D0 R0 G x:=by
 obtain⟨G,st,e1,e2,e3,e4,e5⟩:=Bo B;have hl:=B.len
 obtain⟨E1,on1,oj1,f1,f2,f3⟩:=qo (b:=pA) (i:=2) (j:=3) (R:=ρE (bkD D0 R0) none) (g:=oA) (T:=[]) D0 [] none none nd (fun q hq=>by
  obtain⟨x,v,rfl,hv⟩:=B.dk q hq;refine⟨x,v,rfl,fun E on oj hE=>?_⟩;simp[pA,ρE,nr _ hv,hE]
  rfl) (by simp;omega)
 have ek:(lnL R0 st).map (·.1)=R0.map (·.1):=by simp[lnL]
 have el:(lnL R0 st).length=R0.length:=by simp[lnL]
 obtain⟨E2,on2,oj2,g1,g2,g3⟩:=qo (b:=pq) (i:=2) (j:=4) (R:=ρE2 (bkD D0 R0) oj1) (g:=fun d=>match ixD d (.int 2) with|some x=>x|none=>.none) (T:=[]) (lnL R0 st) E1 on1 none (by rw[ek];exact B.rnd) (fun q hq=>by
  obtain⟨q0,hq0,rfl⟩:=List.mem_map.mp hq;obtain⟨x,r,rfl,_,hk,_⟩:=B.rk q0 hq0;refine⟨x,ln x (st x),rfl,fun E on oj hE=>?_⟩
  simp[pq,ρE2,ln,hE]) (by rw[el];simp at f2;omega)
 refine⟨G,E2,?_,e2,e3,e4,fun x=>?_⟩
 .rw[Ah]
  simp[ρE] at f1;simp[ρE2] at g1;have q1:ixD (bkD D0 R0) (.int 0)=some (.dict D0):=rfl;simp[gB,lG,q1,f1,e1,g1]
 .rw[g3,GM]
  unfold eF
  cases hr:aA R0 x with
  |some r=>
   show some _=some _;rw[e5 x r hr];rfl
  |none=>
   show aA E1 x=_;rw[f3]
   cases aA D0 x <;> rfl
theorem qj(B:Bk p n D0 R0){G:Dc}(hs:Snd D0 R0 G)(hd:Sub D0 G)(hc:∀x,ClsAt R0 G x)(x:Str):match aA G x with
  |some v=>eF D0 R0 G x=some (oA v)/\aF v=true
  |none=>∃d w,(eF D0 R0 G x).getD LK=d/\SeqAt.shaped d=true/\ixD d (.int 0)=some (.str w)/\w≠MDE/\∃l,d=.tuple (.str w::l):=by
 cases hg:aA G x with
 |some v=>
  refine⟨?_,hs.gv B x v hg⟩;have hv:=hs x v hg
  cases hv with
  |told h=>
   unfold eF
   cases hr:aA R0 x with
   |some r=>rw[(B.rg hr).2] at h;cases h
   |none=>rw[h];rfl
  |@made _ _ r G1 hr hG1 hall e=>
   have sub:Sub G1 G:=fun y u hy=>rJ B hd hs hc (hall y u hy);have r1:=p7 sub hG1 B.n20 (c8 (B.rg hr).1 B.n20);rw[qb e] at r1;unfold eF;rw[hr];show some (dq (run G (s0 r)).S)=_;rw[←r1,e,m4];rfl
 |none=>
  unfold eF
  cases hr:aA R0 x with
  |some r=>
   obtain⟨ok,_⟩:=gW (hs.gv B) B.n20 (c8 (B.rg hr).1 B.n20);show ∃d w,dq (run G (s0 r)).S=d/\_
   rcases eK ok.st with⟨v,e,hv⟩|⟨y,e,hy⟩|⟨b',y,r',e,hy⟩
   .have:=hc x r v hr e
    rw[hg] at this;cases this
   .rw[e,m5]
    exact⟨_,Str.ofString "fails",rfl,l6 (cL (by decide +kernel)) (eV hy),rfl,by decide,_,rfl⟩
   .rw[e,m6]
    exact⟨_,Str.ofString "wants",rfl,l6 (cL (by decide +kernel)) (eV hy),rfl,by decide,_,rfl⟩
  |none=>
   cases h0:aA D0 x with
   |some v=>rw[hd x v h0] at hg;cases hg
   |none=>exact⟨LK,Str.ofString "lacks",rfl,BI,rfl,by decide,_,rfl⟩
end
structure Go(n:Nat)(d:PyData):Prop where
 cl:d.canLay0=true
 dp:d.depth<=n
theorem Go.up(h:Go n d)(l:n<=m):Go m d:=⟨h.1,Nat.le_trans h.2 l⟩
theorem Go.shp(h:Go 64 d):SeqAt.shaped d=true:=by
 unfold SeqAt.shaped;rw[h.1,decide_eq_true h.2];rfl
theorem d8(h:Lw x):Go n (.str x):=⟨by simp[PyData.canLay0,rS h],by simp[PyData.depth]⟩
theorem yc:∀{ds:List PyData},(∀d∈ds,Go n d)->PyData.canLayAll0 ds=true/\PyData.depthAll ds<=n
 |[],_=>⟨by simp[PyData.canLayAll0],by simp[PyData.depthAll]⟩
 |d::r,h=>by
  have ih:=yc (ds:=r) fun x hx=>h x (List.mem_cons_of_mem _ hx);have i0:=h d List.mem_cons_self;exact⟨by simp[PyData.canLayAll0,i0.1,ih.1],by have:=i0.2;have:=ih.2;simp only[PyData.depthAll];omega⟩
theorem iP(h:∀d∈ds,Go n d):Go (n+1) (.tuple ds):=by
 have a:=yc h;exact⟨by simp[PyData.canLay0,a.1],by have:=a.2;simp only[PyData.depth];omega⟩
theorem gz(h:Go n a)(g:Go n b):Go (n+1) (.tuple [a,b]):=iP fun d hd=>by
 simp at hd
 rcases hd with rfl|rfl
 .exact h
 .exact g
theorem eC(w:String)(h:((cd (Str.ofString w)).all fun c=>decide (c<128))=true):Go n (.str (Str.ofString w)):=d8 (cL h)
theorem yb(h:aF v=true):Go 4 v:=by
 have s:=iw h;have d:=(uS h).dp;unfold SeqAt.shaped at s;rw[Bool.and_eq_true] at s;exact⟨s.1,d⟩
theorem lE(h:Ld k e):Go 5 e:=by
 cases h with
 |put h=>exact gz (eC "put" (by decide +kernel)) (yb h)
 |got=>exact gz (eC "got" (by decide +kernel)) ⟨rfl,Nat.zero_le _⟩
theorem oG(h:Go n a)(g:Go n b)(k:Go n c):Go (n+1) (.tuple [a,b,c]):=iP fun d hd=>by
 simp at hd
 rcases hd with rfl|rfl|rfl
 .exact h
 .exact g
 .exact k
theorem rZ(h:Xd k e):Go 7 e:=by
 cases h with
 |lf h=>exact(lE h).up (by decide)
 |two w a b=>exact oG (by rcases w with rfl|rfl|rfl|rfl|rfl <;> exact eC _ (by decide +kernel)) ((lE a).up (by decide)) ((lE b).up (by decide))
 |row _ h=>exact gz (eC "row" (by decide +kernel)) (iP fun d hd=>lE (h d hd))
 |many h=>exact gz (eC "many" (by decide +kernel)) ((lE h).up (by decide))
theorem IM(x:RC h k c r):Go (h+8) r:=by
 induction x with
 |say _ h=>exact gz (n:=_+7) (eC "say" (by decide +kernel)) ((rZ h).up (by omega))
 |fail _ h=>exact gz (n:=_+7) (eC "fail" (by decide +kernel)) (d8 (eV h.isNm))
 |@want h k c c' b e r _ he _ ih=>exact(oG (n:=h+8) (by cases b <;> exact eC _ (by decide +kernel)) ((rZ he).up (by omega)) ih).up (by omega)
 |@when h k c c1 c2 e p q _ he _ _ i1 i2=>
   refine(iP (n:=h+8) fun d hd=>?_).up (by omega);simp at hd
   rcases hd with rfl|rfl|rfl|rfl
   .exact eC "when" (by decide +kernel)
   .exact(rZ he).up (by omega)
   .exact i1
   .exact i2
theorem x9:∀{d:Dl},(∀p∈d,e.lookup p.1=some p.2/\Go 64 p.2)->gG (aJ e) (aJ d)=some true
 |[],_=>rfl
 |(k,v)::r,h=>by
  have ih:=x9 (e:=e) (d:=r) fun p hp=>h p (List.mem_cons_of_mem _ hp);obtain⟨h1,h2⟩:=h (k,v) List.mem_cons_self;show gG (aJ e) ((.str k,v)::aJ r)=_;unfold gG;rw[d3,h1];dsimp only;rw[if_pos ⟨h2.shp,h2.shp⟩,ih];simp[SeqAt.eqv_refl v h2.cl]
theorem rE(nd:(ky d).Nodup)(g:∀p∈d,Go 64 p.2):j4 (aJ d) (aJ d)=some true:=by
 have h:=x9 (e:=d) (d:=d) fun p hp=>⟨kP nd hp,g p hp⟩;unfold j4;rw[if_pos h,if_pos rfl,h]
theorem Hf(h:Bd l d r):lQ (bkL d r) (bkL d r)=some true:=by
 have h1:ik (.dict (aJ d)) (.dict (aJ d))=some true:=rE h.t.nd fun p hp=>(yb (h.t.ok p hp).1).up (by decide);have h2:ik (.dict (aJ r)) (.dict (aJ r))=some true:=rE h.m.nd fun p hp=>(IM (h.m.ok p hp).1).up (by decide);show (fX [.dict (aJ d),.dict (aJ r)] [.dict (aJ d),.dict (aJ r)]).map _=_;simp only[fX,h1,h2];rfl
theorem ne_self(h:SeqAt.shaped d=true):neG d d=some (.bool false):=by
 unfold neG;rw[if_pos ⟨h,h⟩];unfold SeqAt.shaped at h;rw[Bool.and_eq_true] at h;rw[SeqAt.eqv_refl d h.1];rfl
@[simp] theorem Lv:jP f g h ρ T=bnd (f ρ T) fun w1 T1=>bnd (g ρ T1) fun w2 T2=>bnd (h ρ T2) (lF w1 w2):=rfl
@[simp] theorem Kv:lF (.d (.dict ds)) (.d (.str s)) (.d z) T=some (.d ((aA ds s).getD z),T):=rfl
def eU:Nat->Nat->List PyData
 |_,0=>[]
 |k,n+1=>.int (k:Int)::eU (k+1) n
theorem u6:∀(n k j:Nat),(eU k n)[j]? = if j<n then some (.int ((k+j:Nat):Int)) else none
 |0,k,j=>by simp[eU]
 |n+1,k,0=>by simp[eU]
 |n+1,k,j+1=>by
  show (eU (k+1) n)[j]? = _;rw[u6 n (k+1) j,show k+1+j=k+(j+1) by omega];simp
theorem nH(n:Nat):cy 0 n=eU 0 n:=by
 refine List.ext_getElem? fun j=>?_;rw[u6];unfold cy;rw[List.getElem?_map]
 by_cases hj:j<n
 .rw[List.getElem?_range hj,if_pos hj]
  simp
 .rw[List.getElem?_eq_none (by simp;omega),if_neg hj]
  rfl
theorem EW(h:b (ρ.set i (some (.d d))) T=some ((.rt x,ρ'),T)):forL i b (d::r) ρ T=some ((.rt x,ρ'),T):=by
 show bnd (b _ T) _=_;rw[h];rfl
section
variable {p:Bool}{n:Nat}{D0 R0:Dc}
theorem E7(B:Bk p n D0 R0)(hs:∀x,aA G x=aA G' x)(hG:GV G)(x:Str):eF D0 R0 G x=eF D0 R0 G' x:=by
 unfold eF
 cases hr:aA R0 x with
 |none=>rfl
 |some r=>
  show some (dq (run G (s0 r)).S)=_;rw[l8 hs hG B.n20 (c8 (B.rg hr).1 B.n20)]
def bR(G:Dc)(q:Str×PyData):Bool:=match aA G q.1 with
 |some v=>decide (mk (cst 4 v)=mk (cst 4 q.2))
 |none=>false
theorem v7(B:Bk p n D0 R0)(hs:Snd D0 R0 G)(hd:Sub D0 G)(hc:∀x,ClsAt R0 G x)(hq:aF q.2=true):neG ((eF D0 R0 G q.1).getD LK) (tlD MDE (mk (cst 4 q.2)))=some (.bool (!bR G q)):=by
 have g:=qj B hs hd hc q.1;have s2:=l6 oE (gw hq);unfold bR
 cases hg:aA G q.1 with
 |some v=>
  rw[hg] at g;obtain⟨g1,g2⟩:=g;rw[g1];show neG (tlD MDE (mk (cst 4 v))) (tlD MDE (mk (cst 4 q.2)))=_;unfold neG;rw[if_pos ⟨l6 oE (gw g2),s2⟩];simp[tlD,PyData.eqv,PyData.eqvAll];rw[Bool.eq_iff_iff];simp
 |none=>
  rw[hg] at g;obtain⟨d,w,g1,g2,_,g4,l,rfl⟩:=g;rw[g1];unfold neG;rw[if_pos ⟨g2,s2⟩];simp[tlD,PyData.eqv,PyData.eqvAll,g4]
def otB:FS:=(ak (aG 4 (jP (aa 0) (af ixD (aa 3) (fC (.int 0))) (fC (.tuple [.str "lacks"])))) (fIf (ay (af neG (aa 4) (av .tuple (ae (fC (.str "made")) (ae (af ixD (aa 3) (fC (.int 1))) ah))))) (az (av .tuple (ae (fC (.str "read")) (ae (aa 2) (ae (af ixD (aa 3) (fC (.int 0))) (ae (af ixD (aa 3) (fC (.int 1))) (ae (aa 4) ah))))))) aD))
def otE:FS:=(ak (fIf (bU (ay (af eqD (af ixD (af ixD (aa 1) (fC (.int 2))) (fC (.int 0))) (fC (.str "wants")))) (ay (af eqD (af ixD (jP (aa 0) (af ixD (af ixD (aa 1) (fC (.int 2))) (fC (.int 1))) (fC (.tuple [.str "lacks"]))) (fC (.int 0))) (fC (.str "made"))))) (az (av .tuple (ae (fC (.str "wanted")) (ae (af ixD (af ixD (aa 1) (fC (.int 2))) (fC (.int 1))) (ae (af ixD (af ixA (aa 0) (af ixD (af ixD (aa 1) (fC (.int 2))) (fC (.int 1)))) (fC (.int 1))) ah))))) aD) (az (fC .none)))
theorem Ie:j7=aN 5 (ak (iQ 2 3 (af ixD (aa 1) (fC (.int 1))) otB) otE):=rfl
theorem Dd(h:b ((ρ.set i (some (.d (.int (k:Int))))).set j (some (.d d))) T=some ((.nx,ρ'),T)):eY i j b k (d::r) ρ T=eY i j b (k+1) r ρ' T:=by
 show bnd (b _ T) _=_;rw[h];rfl
theorem Da(h:b ((ρ.set i (some (.d (.int (k:Int))))).set j (some (.d d))) T=some ((.rt x,ρ'),T)):eY i j b k (d::r) ρ T=some ((.rt x,ρ'),T):=by
 show bnd (b _ T) _=_;rw[h];rfl
def otR(e:Str->PyData)(G:Dc):Nat->List (Str×PyData)->Option PyData
 |_,[]=>none
 |k,q::r=>if bR G q=true then otR e G (k+1) r else some (.tuple [.str "read",.int (k:Int),.str q.1,stS q.2,e q.1])
def otW(G:Dc)(a b:Str):PyData:=if a=Str.ofString "wants" then (match aA G b with
 |some v=>.tuple [.str "wanted",.str b,stS v]
 | none=>.none) else .none
def otX(e:Str->PyData)(G:Dc)(rs:List (Str×PyData))(a b:Str):PyData:=(otR e G 0 rs).getD (otW G a b)
abbrev eN(D0 R0 G:Dc)(x:Str):PyData:=(eF D0 R0 G x).getD LK
theorem vZ(B:Bk p n D0 R0){G E:Dc}(hs:Snd D0 R0 G)(hd:Sub D0 G)(hc:∀x,ClsAt R0 G x)(he:∀x,aA E x=eF D0 R0 G x){li:PyData}:∀(rs:List (Str×PyData)) (k:Nat) (o2 o3 o4:Option D.W),(∀q∈rs,aF q.2=true/\isName (.str q.1)=true) ->
  match otR (eN D0 R0 G) G k rs with
  |none=>∃o2' o3' o4',eY 2 3 otB k (rs.map rdP) [some (.d (.dict E)),some (.d li),o2,o3,o4] []=some ((.nx,[some (.d (.dict E)),some (.d li),o2',o3',o4']),[])
  |some d=>∃ρ',eY 2 3 otB k (rs.map rdP) [some (.d (.dict E)),some (.d li),o2,o3,o4] []=some ((.rt d,ρ'),[])
 |[],k,o2,o3,o4,_=>⟨o2,o3,o4,by simp[eY]⟩
 |q::rs,k,o2,o3,o4,h=>by
  have hq:=(h q List.mem_cons_self).1;have nm:=v7 B hs hd hc hq;unfold tlD MDE at nm;rw[List.map_cons];unfold otR
  cases hb:bR G q with
  |true=>
   rw[hb] at nm
   have st:otB (((([some (.d (.dict E)),some (.d li),o2,o3,o4]:Rho).set 2 (some (.d (.int (k:Int))))).set 3 (some (.d (rdP q))))) []=some ((.nx,[some (.d (.dict E)),some (.d li),some (.d (.int (k:Int))),some (.d (rdP q)),some (.d ((eF D0 R0 G q.1).getD LK))]),[]):=by
    unfold LK at nm ⊢;simp[otB,rdP,stS,he,nm]
   rw[Dd st,if_pos rfl];exact vZ B hs hd hc he rs (k+1) _ _ _ fun x hx=>h x (List.mem_cons_of_mem _ hx)
  |false=>
   rw[hb] at nm;rw[if_neg (by simp)];refine⟨_,Da (ρ':=[some (.d (.dict E)),some (.d li),some (.d (.int (k:Int))),some (.d (rdP q)),some (.d ((eF D0 R0 G q.1).getD LK))]) ?_⟩;unfold eN LK at *;simp[otB,rdP,stS,he,nm]
theorem Fv(B:Bk p n D0 R0)(hs:Snd D0 R0 G)(hd:Sub D0 G)(hc:∀x,ClsAt R0 G x)(he:∀x,aA E x=eF D0 R0 G x)(h:∀q∈rs,aF q.2=true/\isName (.str q.1)=true):j7 [.d (.dict E),.d (lnD y rs a b)] []=some (otX (eN D0 R0 G) G rs a b,[]):=by
 have i1:ixD (lnD y rs a b) (.int 1)=some (.tuple (rs.map rdP)):=rfl;have i2:ixD (lnD y rs a b) (.int 2)=some (.tuple [.str a,.str b]):=rfl;have lp:=vZ B hs hd hc he (li:=lnD y rs a b) rs 0 none none none h;rw[Ie];unfold otX otW
 cases ho:otR (eN D0 R0 G) G 0 rs with
 |some d=>
  rw[ho] at lp;obtain⟨ρ',e⟩:=lp;simp[iQ,jE,i1,e]
 |none=>
  rw[ho] at lp;obtain⟨o2,o3,o4,e⟩:=lp;have ge:=qj B hs hd hc b
  by_cases ha:a=Str.ofString "wants"
  .subst ha
   cases hk:aA G b with
   |some v=>
    rw[hk] at ge;simp[iQ,jE,i1,e,otE,i2,he,ge.1,oA,tlD,MDE,stS,hk]
   |none=>
    rw[hk] at ge;obtain⟨d,w,g1,_,g3,g4,_⟩:=ge;unfold LK at g1;unfold MDE at g4;simp[iQ,jE,i1,e,otE,i2,he,g1,g3,g4]
  .simp[iQ,jE,i1,e,otE,i2,ha]
theorem HA(B:Bk p n D0 R0)(hs:Snd D0 R0 G)(hd:Sub D0 G)(hc:∀x,ClsAt R0 G x)(x:Str):gj [.d (bkD D0 R0),.d (.dict G),.d (.str x)] []=some (eN D0 R0 G x,[]):=by
 have ge:=qj B hs hd hc x;have b1:ixD (bkD D0 R0) (.int 1)=some (.dict R0):=rfl
 cases hk:aA G x with
 |some v=>
  rw[hk] at ge;have st:=kO (v:=v) [] ge.2;unfold eN;rw[ge.1];simp[gj,hk,st];rfl
 |none=>
  unfold eN eF
  cases hr:aA R0 x with
  |some r=>
   have lf:=qw [] (hs.gv B) B.n20 (B.rg hr).1
   have e1:ixD (cO (run G (s0 r))) (.int 1)=some (dq (run G (s0 r)).S):=by
    unfold cO
    cases vMd (run G (s0 r)).S with
    |nil=>rfl
    |cons a l=>exact sm
   simp[gj,hk,b1,hr,lf,e1]
  |none=>
   cases h0:aA D0 x with
   |some v=>rw[hd x v h0] at hk;cases hk
   |none=>
    simp[gj,hk,b1,hr];rfl
def ρR(bk G H x li:PyData)(o5 o6 o7:Option D.W):Rho:=[some (.d bk),some (.d G),some (.d H),some (.d x),some (.d li),o5,o6,o7]
theorem wq(B:Bk p n D0 R0){G:Dc}(hs:Snd D0 R0 G)(hd:Sub D0 G)(hc:∀x,ClsAt R0 G x){H x:PyData}{y:Str}{a b:Str}{R:List (Str×PyData)}:∀(rs pre:List (Str×PyData)) (o5 o6 o7:Option D.W),R=pre++rs->(∀q∈rs,aF q.2=true/\isName (.str q.1)=true) ->
  match otR (eN D0 R0 G) G pre.length rs with
  |none=>∃o5' o6' o7',forL 5 gh (eU pre.length rs.length) (ρR (bkD D0 R0) (.dict G) H x (lnD y R a b) o5 o6 o7) []=some ((.nx,ρR (bkD D0 R0) (.dict G) H x (lnD y R a b) o5' o6' o7'),[])
  |some d=>∃ρ',forL 5 gh (eU pre.length rs.length) (ρR (bkD D0 R0) (.dict G) H x (lnD y R a b) o5 o6 o7) []=some ((.rt d,ρ'),[])
 |[],pre,o5,o6,o7,_,_=>⟨o5,o6,o7,rfl⟩
 |q::rs,pre,o5,o6,o7,hR,h=>by
  have hq:=(h q List.mem_cons_self).1;have nm:=v7 B hs hd hc hq;unfold tlD MDE at nm;have le:=HA B hs hd hc q.1;have i1:ixD (lnD y R a b) (.int 1)=some (.tuple (R.map rdP)):=rfl
  have ix:atI (R.map rdP) (pre.length:Int)=some (.tuple [.str q.1,stS q.2]):=by
   refine xh ?_;rw[hR,List.map_append,List.getElem?_append_right (by simp)];simp[rdP]
  have ih:=wq B hs hd hc (H:=H) (x:=x) (y:=y) (a:=a) (b:=b) (R:=R) rs (pre++[q]) (some (.d (.int (pre.length:Int)))) (some (.d (.str q.1))) (some (.d (stS q.2))) (by rw[hR];simp) fun z hz=>h z (List.mem_cons_of_mem _ hz);rw[List.length_append] at ih;unfold otR
  show match (if bR G q=true then otR (eN D0 R0 G) G (pre.length+1) rs else _) with|none=>_|some d=>_
  have up:∀(o:Option D.W),cC 6 7 (af ixD (af ixD (aa 4) (fC (.int 1))) (aa 5)) ((ρR (bkD D0 R0) (.dict G) H x (lnD y R a b) o o6 o7).set 5 (some (.d (.int (pre.length:Int))))) []=some ((.nx,ρR (bkD D0 R0) (.dict G) H x (lnD y R a b) (some (.d (.int (pre.length:Int)))) (some (.d (.str q.1))) (some (.d (stS q.2)))),[]):=fun o=>by
   unfold ρR;simp[cC,i1,ix]
  cases hb:bR G q with
  |true=>
   rw[hb] at nm;rw[if_pos rfl]
   have st:gh ((ρR (bkD D0 R0) (.dict G) H x (lnD y R a b) o5 o6 o7).set 5 (some (.d (.int (pre.length:Int))))) []=some ((.nx,ρR (bkD D0 R0) (.dict G) H x (lnD y R a b) (some (.d (.int (pre.length:Int)))) (some (.d (.str q.1))) (some (.d (stS q.2)))),[]):=by
    unfold gh;rw[bG (up o5)];unfold ρR;simp[le,eN,stS,nm]
   have e0:forL 5 gh (eU pre.length (q::rs).length) (ρR (bkD D0 R0) (.dict G) H x (lnD y R a b) o5 o6 o7) []=forL 5 gh (eU (pre.length+1) rs.length) (ρR (bkD D0 R0) (.dict G) H x (lnD y R a b) (some (.d (.int (pre.length:Int)))) (some (.d (.str q.1))) (some (.d (stS q.2)))) []:=kR st;rw[e0];exact ih
  |false=>
   rw[hb] at nm;rw[if_neg (by simp)]
   have st:gh ((ρR (bkD D0 R0) (.dict G) H x (lnD y R a b) o5 o6 o7).set 5 (some (.d (.int (pre.length:Int))))) []=some ((.rt (.tuple [.str "read",.int (pre.length:Int),.str q.1,stS q.2,eN D0 R0 G q.1]),ρR (bkD D0 R0) (.dict G) H x (lnD y R a b) (some (.d (.int (pre.length:Int)))) (some (.d (.str q.1))) (some (.d (stS q.2)))),[]):=by
    unfold gh;rw[bG (up o5)];unfold ρR;simp[le,eN,stS,nm]
   exact⟨_,EW (r:=eU (pre.length+1) rs.length) st⟩
theorem lB(ha:Lw a)(hb:Lw b):Go 1 (tlD a b):=gz (d8 ha) (d8 hb)
theorem IP:Go 1 LK:=⟨by decide +kernel,by decide +kernel⟩
theorem Hi(B:Bk p n D0 R0)(hG:GV G)(x:Str):Go 1 (eN D0 R0 G x):=by
 unfold eN eF
 cases hr:aA R0 x with
 |some r=>
  obtain⟨ok,_⟩:=gW hG B.n20 (c8 (B.rg hr).1 B.n20);show Go 1 (dq (run G (s0 r)).S)
  rcases eK ok.st with⟨v,e,hv⟩|⟨y,e,hy⟩|⟨b',y,r',e,hy⟩
  .rw[e,m4];exact lB oE (gw hv)
  .rw[e,m5];exact lB (cL (by decide +kernel)) (eV hy)
  .rw[e,m6];exact lB (cL (by decide +kernel)) (eV hy)
 |none=>
  cases h0:aA D0 x with
  |some v=>exact lB oE (gw (B.gv x v h0))
  |none=>exact IP
theorem yS(B:Bk p n D0 R0)(hG:GV G):∀(rs:List (Str×PyData)) (k:Nat),(∀q∈rs,aF q.2=true/\isName (.str q.1)=true)->∀d,otR (eN D0 R0 G) G k rs=some d->Go 2 d/\∃ds,d=.tuple ds
 |[],k,_,d,e=>nomatch e
 |q::rs,k,h,d,e=>by
  unfold otR at e;split at e
  .exact yS B hG rs (k+1) (fun z hz=>h z (List.mem_cons_of_mem _ hz)) d e
  .cases e
   obtain⟨hv,hx⟩:=h q List.mem_cons_self;refine⟨iP fun d hd=>?_,_,rfl⟩;simp only[List.mem_cons,List.not_mem_nil,or_false] at hd
   rcases hd with rfl|rfl|rfl|rfl|rfl
   .exact eC "read" (by decide +kernel)
   .exact⟨rfl,Nat.zero_le _⟩
   .exact d8 (eV hx)
   .exact d8 (gw hv)
   .exact Hi B hG q.1
theorem G5(B:Bk p n D0 R0)(hG:GV G)(h:∀q∈rs,aF q.2=true/\isName (.str q.1)=true)(hb:Lw b):Go 2 (otX (eN D0 R0 G) G rs a b)/\(otX (eN D0 R0 G) G rs a b=.none\/∃ds,otX (eN D0 R0 G) G rs a b=.tuple ds):=by
 have gn:Go 2 PyData.none:=⟨rfl,Nat.zero_le _⟩;unfold otX
 cases e:otR (eN D0 R0 G) G 0 rs with
 |some d=>
  obtain⟨h1,h2⟩:=yS B hG rs 0 h d e;exact⟨h1,.inr h2⟩
 |none=>
  show Go 2 (otW G a b)/\_;unfold otW;split
  .cases hk:aA G b with
   |none=>exact⟨gn,.inl rfl⟩
   |some v=>exact⟨(oG (n:=1) (eC "wanted" (by decide +kernel)) (d8 hb) (d8 (gw (hG b v hk)))),.inr ⟨_,rfl⟩⟩
  .exact⟨gn,.inl rfl⟩
def t1(s:String):PyData:=.tuple [.str (Str.ofString s)]
theorem rY(s:String)(h:((cd (Str.ofString s)).all fun c=>decide (c<128))=true):Go 2 (t1 s):=iP fun d hd=>by rw[List.mem_singleton.mp hd];exact eC s h
theorem DK(B:Bk p n D0 R0)(hs:Snd D0 R0 G)(hd:Sub D0 G)(hc:∀x,ClsAt R0 G x)(ee:iA [.d (bkD D0 R0)] []=some (.dict E,[]))(he:∀x,aA E x=eF D0 R0 G x)(hH:∀x y,aA H x=some y->Hx y)
  (sh:∀x r,aA R0 x=some r->∃t,(∀T,je [.d r] T=some (.str t,T))/\∀T,df 25 [.d r] T=some (.str t,T)) (hr:aA R0 x=some r) :
  ∃d,ir [.d (.dict E),.d (.dict R0),.d (.dict H),.d (.str x)] []=some (d,[])/\gL [.d (bkD D0 R0),.d (.dict G),.d (.dict H),.d (.str x)] []=some (d,[])/\gS [.d (bkD D0 R0),.d (.dict H),.d (.str x)] []=some (.bool (isNone d),[])/\Go 2 d/\(d=.none\/∃ds,d=.tuple ds):=by
 have b1:ixD (bkD D0 R0) (.int 1)=some (.dict R0):=rfl;have n0:isNone PyData.none=true:=rfl;have nt:∀ds,isNone (.tuple ds)=false:=fun _=>rfl;obtain⟨t',s1,s2⟩:=sh x r hr
 cases hh:aA H x with
 |none=>
  have ow:gi [.d (.dict R0),.d (.dict H),.d (.str x)] []=some (.none,[]):=by simp[gi,hh]
  exact⟨t1 "none",by simp[ir,hh,t1],by simp[gL,hh,t1],by simp[gS,b1,ow,eP,n0,t1,nt],rY "none" (by decide +kernel),.inr ⟨_,rfl⟩⟩
 |some y=>
  obtain⟨t,nn,rs,a,b,rfl,hv,hb,h12,_⟩:=hH x y hh
  by_cases ht:t=t'
  .subst ht
   have ow:gi [.d (.dict R0),.d (.dict H),.d (.str x)] []=some (lnD nn rs a b,[]):=by simp[gi,hh,hr,s1]
   have nl':isNone (lnD nn rs a b)=false:=rfl;have lo:=Fv B hs hd hc he (y:=nn) (a:=a) (b:=b) hv;obtain⟨g1,g2⟩:=G5 B (hs.gv B) (a:=a) hv hb;refine⟨otX (eN D0 R0 G) G rs a b,by simp[ir,hh,ow,isD,nl',lo],?_,by simp[gS,b1,ow,ee,lo,eP,isD,nl'],g1,g2⟩;have i1:ixD (lnD nn rs a b) (.int 1)=some (.tuple (rs.map rdP)):=rfl;have i2:ixD (lnD nn rs a b) (.int 2)=some (.tuple [.str a,.str b]):=rfl;have lp:=wq B hs hd hc (H:=.dict H) (x:=.str x) (y:=nn) (a:=a) (b:=b) (R:=rs) rs [] none none none rfl hv;have ro:eS (rs.length:Int)=true:=rng_ok (by omega) (by omega)
   have tn:((rs.length:Int)).toNat=rs.length:=by omega
   rw[AI];unfold otX otW
   cases ho:otR (eN D0 R0 G) G 0 rs with
   |some d=>
    rw[show otR (eN D0 R0 G) G ([]:List (Str×PyData)).length rs=some d from ho] at lp;obtain⟨ρ',e⟩:=lp;rw[List.length_nil] at e;unfold ρR at e;simp[hh,b1,hr,s2,i1,ro,tn,nH,e]
   |none=>
    rw[show otR (eN D0 R0 G) G ([]:List (Str×PyData)).length rs=none from ho] at lp;obtain⟨o5,o6,o7,e⟩:=lp;rw[List.length_nil] at e;unfold ρR at e
    by_cases ha:a=Str.ofString "wants"
    .subst ha
     cases hk:aA G b with
     |some v=>
      have st:=kO (v:=v) [] (hs.gv B b v hk);simp[hh,b1,hr,s2,i1,ro,tn,nH,e,i2,hk,st]
     |none=>simp[hh,b1,hr,s2,i1,ro,tn,nH,e,i2,hk]
    .simp[hh,b1,hr,s2,i1,ro,tn,nH,e,i2,ha]
  .have ow:gi [.d (.dict R0),.d (.dict H),.d (.str x)] []=some (.none,[]):=by simp[gi,hh,hr,s1,ht]
   exact⟨t1 "recipe",by simp[ir,hh,ow,isD,n0,t1],by simp[gL,hh,b1,hr,s2,ht,t1],by simp[gS,b1,ow,eP,n0,t1,nt],rY "recipe" (by decide +kernel),.inr ⟨_,rfl⟩⟩
theorem Hw(B:Bk p n D0 R0)(x:Str)(T:Tp):(∃r,aA R0 x=some r/\gQ [.d (bkD D0 R0),.d (.str x)] T=some (.str "made",T))\/(aA R0 x=none/\∃w,w≠"made"/\gQ [.d (bkD D0 R0),.d (.str x)] T=some (.str (Str.ofString w),T)):=by
 cases hr:aA R0 x with
 |some r=>exact .inl ⟨r,rfl,by simp[gQ,bkD,(B.rg hr).2,hr]⟩
 |none=>
  cases hd:aA D0 x with
  |some v=>exact .inr ⟨rfl,"told",by decide,by simp[gQ,bkD,hd]⟩
  |none=>exact .inr ⟨rfl,"lacks",by decide,by simp[gQ,bkD,hd,hr]⟩
theorem FD(B:Bk p n D0 R0)(ee:iA [.d (bkD D0 R0)] []=some (.dict E,[]))(x:Str):(∃r,aA R0 x=some r/\∀d,ir [.d (.dict E),.d (.dict R0),.d (.dict H),.d (.str x)] []=some (d,[])->gb [.d (bkD D0 R0),.d (.dict H),.d (.str x)] []=some (d,[])) \/
  (aA R0 x=none/\gb [.d (bkD D0 R0),.d (.dict H),.d (.str x)] []=some (t1 "refused",[])):=by
 have b1:ixD (bkD D0 R0) (.int 1)=some (.dict R0):=rfl
 rcases Hw B x [] with⟨r,hr,so⟩|⟨hr,w,hw,so⟩
 .refine .inl ⟨r,hr,fun d hd=>?_⟩
  simp[gb,XO.lI,XO.gZ,jh,XO.mkX,XO.jZ,so];simp[pB,so,ee,b1,hd]
 .refine .inr ⟨hr,?_⟩
  simp[gb,XO.lI,XO.gZ,jh,XO.mkX,XO.jZ,so,hw,t1]
end
theorem IQ(h:Hx y):Go 64 y:=by
 obtain⟨t,nn,rs,a,b,rfl,hv,hb,_,ht,hn,ha⟩:=h;refine(gz (n:=3) (d8 ht) ?_).up (by decide);refine oG (n:=2) (d8 hn) (iP fun d hd=>?_) ((lB ha hb).up (by decide));obtain⟨q,hq,rfl⟩:=List.mem_map.mp hd;exact gz (n:=0) (d8 (eV (hv q hq).2)) (d8 (gw (hv q hq).1))
def ρW(sc:PyData)(l:List Str)(d r:Dl)(G H:Dc)(o6 o7:Option D.W):Rho:=[some (.d sc),some (.d (.list (nl l))),some (.d (bkL d r)),some (.d (.dict H)),some (.d (.dict G)),some (.d (.tuple [bkL d r,.dict H])),o6,o7]
theorem EF(h1:l.length<=20)(hb:Bd l d r)(hs:Snd (aJ d) (aJ r) G)(hd:Sub (aJ d) G)(hc:∀x,ClsAt (aJ r) G x)(hH:∀x y,aA H x=some y->Hx y)(x:Str) :
  ∃o7',jp (ρW sc l d r G H (some (.d (.str x))) o7) []=some ((.nx,ρW sc l d r G H (some (.d (.str x))) o7'),[]):=by
 have B:=hb.bk h1;obtain⟨G1,E,ee,s1,d1,c1,he1⟩:=HE B (by rw[mE];exact yL hb.t.nd);have he:∀x,aA E x=eF (aJ d) (aJ r) G x:=fun x=>(he1 x).trans (E7 B (B0 B d1 s1 c1 hd hs hc) (s1.gv B) x)
 have sh:∀x r0,aA (aJ r) x=some r0->∃t,(∀T,je [.d r0] T=some (.str t,T))/\∀T,df 25 [.d r0] T=some (.str t,T):=fun x r0 hr=>by
  rw[d3] at hr;obtain⟨t,_,q⟩:=xl (hb.m.look hr) (by decide);exact⟨t,q⟩
 have b1:ixD (bkL d r) (.int 1)=some (.dict (aJ r)):=rfl
 rcases FD B (H:=H) ee x with⟨r0,hr,lf⟩|⟨hr,lf⟩
 .obtain⟨w,q1,q2,q3,q4,q5⟩:=DK B hs hd hc ee he hH sh hr
  have lf':gb [.d (bkL d r),.d (.dict H),.d (.str x)] []=some (w,[]):=lf w q1;have q2':gL [.d (bkL d r),.d (.dict G),.d (.dict H),.d (.str x)] []=some (w,[]):=q2;have q3':gS [.d (bkL d r),.d (.dict H),.d (.str x)] []=some (.bool (isNone w),[]):=q3;have n1:=ne_self (q4.up (by decide:2<=64)).shp;refine⟨some (.d w),?_⟩
  rcases q5 with rfl|⟨ds,rfl⟩
  .simp[jp,ρW,lf',b1,hr,n1,q2',q3',isD,eP,isNone]
  .simp[jp,ρW,lf',b1,hr,n1,q2',q3',isD,eP,isNone]
 .have lf':gb [.d (bkL d r),.d (.dict H),.d (.str x)] []=some (t1 "refused",[]):=lf
  have n1:=ne_self ((rY "refused" (by decide +kernel)).up (by decide:2<=64)).shp;unfold t1 at lf' n1;exact⟨some (.d (.tuple [.str "refused"])),by simp[jp,ρW,lf',b1,hr,n1]⟩
def ρU(sc pk b3:PyData)(l:List Str)(b4:PyData)(o5:Option D.W):Rho:=[some (.d sc),some (.d pk),some (.d (.list (nl l))),some (.d b3),some (.d (.list [b4])),o5]
theorem FG(ns:List Int)(pk:Bool):∃l d q h,j8 [.d (scr ns),.d (.bool pk)] []=some (.tuple [.list (nl l),bkL d q,.dict (aJ h)],[])/\l.length<=20/\Bd l d q/\Hq l h:=by
 obtain⟨f1,hf1,ef1⟩:=iV ns 1 (by decide);obtain⟨r1,f1',e1,_,r10,r11⟩:=bB hf1 (m:=5) (by decide) (by decide);obtain⟨f0,hf0,ef0⟩:=iV ns 0 (by decide);obtain⟨l,f0',e0,hn,nd,hlen⟩:=Fw hf0 (m:=3+r1) (by omega) (by omega)
 have h0:0<l.length:=by omega
 have h20:l.length<=20:=by omega
 obtain⟨d0,q0,eb,hb⟩:=HF hn h0 h20 nd ns (ba:=3) (by decide) pk;obtain⟨f3,hf3,ef3⟩:=iV ns 10 (by decide);obtain⟨r3,f3',e3,_,r30,r31⟩:=bB hf3 (m:=4) (by decide) (by decide);have o1:∀ρ:Rho,b6 aP bM (ae (aa 0) (ae (fC (.int 1)) ah)) (ae (fC (.int 5)) ah) (some (.d (scr ns))::ρ) []=some (.d (.int r1),[]):=fun ρ=>kG (ws:=[.d (scr ns),.d (.int 1)]) (ws2:=[.d (.int 5)]) (by simp) (ef1 []) (by simp) rfl e1;have o0:∀ρ:Rho,b6 ji bM (ae (aa 0) (ae (fC (.int 0)) ah)) (ae (af aS (fC (.int 3)) (b6 aP bM (ae (aa 0) (ae (fC (.int 1)) ah)) (ae (fC (.int 5)) ah))) ah) (some (.d (scr ns))::ρ) []=some (.d (.list (nl l)),[]):=fun ρ=>kG (ws:=[.d (scr ns),.d (.int 0)]) (ws2:=[.d (.int (3+r1))]) (by simp) (ef0 []) (by simp[o1]) rfl e0;have o3:∀ρ:Rho,b6 aP bM (ae (aa 0) (ae (fC (.int 10)) ah)) (ae (fC (.int 4)) ah) (some (.d (scr ns))::ρ) []=some (.d (.int r3),[]):=fun ρ=>kG (ws:=[.d (scr ns),.d (.int 10)]) (ws2:=[.d (.int 4)]) (by simp) (ef3 []) (by simp) rfl e3
 have lp:=jt (i:=5) (body:=l0) (N:=10) (I:=fun _ ρ T=>∃d r o5,ρ=ρU (scr ns) (.bool pk) (bkL d r) l (bkL d0 q0) o5/\T=[]/\Bd l d r) (cy 0 (1+r3).toNat) 0 (ρU (scr ns) (.bool pk) (bkL d0 q0) l (bkL d0 q0) none) [] (by rw[kH];omega) ⟨d0,q0,none,rfl,rfl,hb⟩ (fun k d ρ T hd _ hI=>by
  obtain⟨dd,rr,o5,rfl,rfl,hb'⟩:=hI;obtain⟨j,rfl,j0,j1⟩:=u5 hd;obtain⟨xs,hf,ef⟩:=iV ns (11+j) (by omega);obtain⟨d2,r2',xs',e,hb2⟩:=DG hn h0 h20 hb' hf pk;have oc:b6 jg bM (ae (aa 0) (ae (af aS (fC (.int 11)) (aa 5)) ah)) (ae (aa 3) (ae (aa 2) (ae (aa 1) ah))) (ρU (scr ns) (.bool pk) (bkL dd rr) l (bkL d0 q0) (some (.d (.int j)))) []=some (.d (bkL d2 r2'),[]):=kG (ws:=[.d (scr ns),.d (.int (11+j))]) (ws2:=[.d (bkL dd rr),.d (.list (nl l)),.d (.bool pk)]) (by simp[ρU]) (ef []) (by simp[ρU]) rfl e;refine⟨ρU (scr ns) (.bool pk) (bkL d2 r2') l (bkL d0 q0) (some (.d (.int j))),[],?_,d2,r2',_,rfl,rfl,hb2⟩;unfold l0;have st:(ρU (scr ns) (.bool pk) (bkL dd rr) l (bkL d0 q0) o5).set 5 (some (.d (.int j)))=ρU (scr ns) (.bool pk) (bkL dd rr) l (bkL d0 q0) (some (.d (.int j))):=rfl;rw[st,nU,oc]
  rfl)
 obtain⟨ρ',T',elp,d1,q1,o5,rfl,rfl,hb1⟩:=lp;obtain⟨h,eh,hq⟩:=HB hn h0 h20 ns (b:=16) (by decide) hb hb1;refine⟨l,d1,q1,h,?_,h20,hb1,hq⟩;have ro:eS (1+r3)=true:=rng_ok (by omega) (by omega)
 have z2:1+1<=sizeLine:=by decide
 rw[A9,oI];simp only[mq,mr,if_true];show dE (ak _ _ [some (.d (scr ns)),some (.d (.bool pk)),none,none,none,none] [])=_;rw[bG (ρ1:=[some (.d (scr ns)),some (.d (.bool pk)),some (.d (.list (nl l))),none,none,none]) (T1:=[]) (by rw[nU,o0];rfl)];rw[bG (ρ1:=[some (.d (scr ns)),some (.d (.bool pk)),some (.d (.list (nl l))),some (.d (bkL d0 q0)),none,none]) (T1:=[]) (by simp[eb])];rw[bG (ρ1:=ρU (scr ns) (.bool pk) (bkL d0 q0) l (bkL d0 q0) none) (T1:=[]) (by unfold ρU;simp)]
 have fl:bw 5 (dF (af aS (fC (.int 1)) (b6 aP bM (ae (aa 0) (ae (fC (.int 10)) ah)) (ae (fC (.int 4)) ah)))) l0 (ρU (scr ns) (.bool pk) (bkL d0 q0) l (bkL d0 q0) none) []=some ((.nx,ρU (scr ns) (.bool pk) (bkL d1 q1) l (bkL d0 q0) o5),[]):=by
  simp only[yf];rw[show dF (af aS (fC (.int 1)) (b6 aP bM (ae (aa 0) (ae (fC (.int 10)) ah)) (ae (fC (.int 4)) ah))) (ρU (scr ns) (.bool pk) (bkL d0 q0) l (bkL d0 q0) none) []=some (cy 0 (1+r3).toNat,[]) by unfold ρU;simp[o3,ro]];exact elp
 rw[bG fl];unfold ρU;simp[z2,eh]
theorem CY:∀ns:List Int,ns.length<=63->∃T',oB [.d (jz ns)] []=some (.bool true,T'):=by
 intro ns _;have scE:jz ns=scr ns:=rfl;obtain⟨f2,hf2,ef2⟩:=iV ns 2 (by decide);obtain⟨r2,f2',e2,_,r20,r21⟩:=bB hf2 (m:=3) (by decide) (by decide);have o2:∀ρ:Rho,b6 aP bM (ae (aa 0) (ae (fC (.int 2)) ah)) (ae (fC (.int 3)) ah) (some (.d (scr ns))::ρ) []=some (.d (.int r2),[]):=fun ρ=>kG (ws:=[.d (scr ns),.d (.int 2)]) (ws2:=[.d (.int 3)]) (by simp) (ef2 []) (by simp) rfl e2;obtain⟨l,d1,q1,h,es,h20,hb1,hq⟩:=FG ns (decide (r2=0));have B:=hb1.bk h20;obtain⟨G,eg,sg,dg,cg⟩:=qW B [];have eg':fD [.d (bkL d1 q1)] []=some (.dict G,[]):=eg
 have hH:∀x y,aA (aJ h) x=some y->Hx y:=fun x y e=>by
  rw[d3] at e;exact(hq.ok _ (mD e)).2
 have lq:=jt (i:=6) (body:=jp) (N:=30) (I:=fun _ ρ T=>∃o6 o7,ρ=ρW (scr ns) l d1 q1 G (aJ h) o6 o7/\T=[]) (nl (l++[Str.ofString "zzzz"])) 0 (ρW (scr ns) l d1 q1 G (aJ h) none none) [] (by rw[cu,List.length_append];simp;omega) ⟨_,_,rfl,rfl⟩ (fun k d ρ T hd _ hI=>by
  obtain⟨o6,o7,rfl,rfl⟩:=hI;obtain⟨x,_,rfl⟩:=List.mem_map.mp hd;obtain⟨o7',e⟩:=EF h20 hb1 sg dg cg hH (sc:=scr ns) (o7:=o7) x
  exact⟨_,[],e,_,_,rfl,rfl⟩)
 obtain⟨ρ2,T2,elq,o6,o7,rfl,rfl⟩:=lq;refine⟨[],?_⟩
 have za:(nl l).length+1<=sizeLine:=by rw[cu];exact cq (by omega)
 have na:nl l++[.str "zzzz"]=nl (l++[Str.ofString "zzzz"]):=by simp[nl]
 have x0:ixD (bkL d1 q1) (.int 0)=some (.dict (aJ d1)):=rfl;have x1:ixD (bkL d1 q1) (.int 1)=some (.dict (aJ q1)):=rfl;have eqb:=Hf hb1;have eqh:lQ (.dict (aJ h)) (.dict (aJ h))=some true:=rE hq.nd fun q hq'=>IQ (hq.ok q hq').2
 have eqq:eqQ (.tuple [bkL d1 q1,.dict (aJ h)]) (.tuple [bkL d1 q1,.dict (aJ h)])=some (.bool true):=by
  show (ij [bkL d1 q1,.dict (aJ h)] [bkL d1 q1,.dict (aJ h)]).map _=_;simp only[ij,eqb,eqh];rfl
 rw[scE,CN,oI];simp only[mq,mr,if_true];show dE (ak _ _ [some (.d (scr ns)),none,none,none,none,none,none,none] [])=_;rw[bG (ρ1:=[some (.d (scr ns)),some (.d (.list (nl l))),some (.d (bkL d1 q1)),some (.d (.dict (aJ h))),none,none,none,none]) (T1:=[]) (by simp[oH,o2,es];rfl)];rw[bG (ρ1:=[some (.d (scr ns)),some (.d (.list (nl l))),some (.d (bkL d1 q1)),some (.d (.dict (aJ h))),some (.d (.dict G)),none,none,none]) (T1:=[]) (by simp[eg'])];rw[bG (ρ1:=ρW (scr ns) l d1 q1 G (aJ h) none none) (T1:=[]) (by unfold ρW;simp[x0,x1];rfl)]
 have it:bc (af aS (aa 1) (av .list (ae (fC (.str "zzzz")) ah))) (ρW (scr ns) l d1 q1 G (aJ h) none none) []=some (nl (l++[Str.ofString "zzzz"]),[]):=by
  unfold ρW;rw[←na];simp[za]
 rw[bG (a:=bw 6 _ _) (by rw[yf,it];exact elq)];unfold ρW;simp[eqq]
def top(i:Nat):Stmt:=PySem.Challenge.pw_redo_k44_reasons_why_it_fell.main.body.getD i (.Pass ⟨0,0,0,0⟩)
abbrev zS:List (Str×Nat):=("is_whole",8)::("has_only",9)::("is_name",10)::("is_single",11)::("is_built",12)::("many_of",14)::("is_value",13)::("exprs_within",16)::("sort_at",19)::("stamp_of",24)::("filling_words",29)::("expr_words",28)::("recipe_words",27)::("show_recipe",26)::("told_less",38)::("bounded",33)::("told_many",34)::("told_part",35)::("told_sum",36)::("told_join",37)::("told_of",32)::("told_by",31)::("step_of",40)::("end_by",50)::("line_from",49)::("lines_from",48)::("start_of",44)::("awaited_at",46)::("given",47)::("gone_on",45)::("made_afresh",43)::("lines_of",42)::("ends_now",53)::("own_line",55)::("otherwise_now",56)::("stands",54)::("reason_by",59)::("reason_for",58)::("_law_feed",61)::("_law_next",62)::("_law_names",63)::("_law_value",64)::("_law_weight",65)::("_law_kept",66)::("_law_stamp",67)::("_law_of_two",68)::("_law_told",69)::("_law_is_name",70)::("_law_follow",71)::("_law_good",72)::("_law_show_expr",73)::("_law_show",74)::("_law_expr",75)::("_law_wanted",76)::("_law_recipe",77)::("_law_any_recipe",78)::("_law_book",79)::("_law_turned",80)::("_law_held",81)::("_law_start",82)::("_law_end",83)::("_law_reason",84)::("_law_found",85)::("law",86)::[]
abbrev zZ:List Str:=["abs","all","bool","dict","enumerate","int","isinstance","len","list","max","range","str","sum","tuple"]
abbrev zI:List (Str×Int):=[("MOST_LETTERS",8),("MOST_PARTS",8),("MOST_ROWS",4),("MOST_SIGNS",20),("MOST_VALUES",40)]
abbrev zT:List (Str×Str):=[("LETTERS","abcdefghijklmnopqrstuvwxyz"),("TEXT_SIGNS","abcdefghijklmnopqrstuvwxyz0123456789-")]
structure Bi(K:Frag)(mg:Str->Option Value)(C R:Addr):Prop extends Bz K mg zZ zI zT where
 xj:XO.XB0 K C R
 xm:mg "NoThing"=some (.ref C)
 g_GETTING:sF K mg "GETTING" ["want","peek"]
 g_LACKS:sF K mg "LACKS" ["lacks"]
section
variable {P:Program}{w:World}{K:Frag}{mg:Str->Option Value}{base:Heap}{C R:Addr}(E:Ev P w K mg base (Bi K mg C R) top zS)
include E
theorem gP:Fn P w K mg base "is_whole" ["thing"] 1 (spM K 1 eM):=aV E 8 ["thing"] fun B S hr=>(au (aC (iR (bK .int B.z (ag 0) B.z boot_int) (k8 (Hl (bK .bl B.z (ag 0) B.z boot_bool))))))
theorem tP:Fn P w K mg base "has_only" ["text","signs"] 1 (spM K 2 iz):=aV E 9 ["text","signs"] fun B S hr=>(au (aC (bo sk rfl B.z boot_all (ai (eE (top 9) ["text","signs"] (bO (ag 0)) (dD jV (ag 0) (ag 2))) ap))))
theorem B5:Fn P w K mg base "is_name" ["thing"] 2 (spM K 1 jm):=aV E 10 ["thing"] fun B S hr=>(au (aC (iR (bK .str B.z (ag 0) B.z boot_str) (iR (Dt dS dS aj (bo bI rfl B.z boot_len (ai (ag 0) ap)) (kK rfl B.i)) (k8 (aX (tP E) hr (ag 0) (vv rfl B.s)))))))
theorem AQ:Fn P w K mg base "is_single" ["thing"] 2 (spM K 1 kg):=aV E 11 ["thing"] fun B S hr=>(ax (aI (bv (aW (gP E) hr (ag 0))) (au (aC (dD dS (bo y9 rfl B.z boot_abs (ai (ag 0) ap)) (aR jK aj aj)))) aK) (au (aC (iR (bK .str B.z (ag 0) B.z boot_str) (iR (dD dS (bo bI rfl B.z boot_len (ai (ag 0) ap)) (kK rfl B.i)) (k8 (aX (tP E) hr (ag 0) (vv rfl B.s))))))))
theorem Bh:∀n,Fn P w K mg base "is_built" ["thing","rows_left"] (2+n) (spM K 2 (fE n)):=dj (dG E 12) fun n ih=>aV (k:=2+n) E 12 ["thing","rows_left"] fun B S hr=>(ax (aI (c5 (bv (bK .tup B.z (ag 0) B.z boot_tuple))) (au (aC (aW (AQ E) hr (ag 0)))) aK) (ax (aI (bV (eZ (aE aU (ag 1) aj) (fM (aE ic (bo bI rfl B.z boot_len (ai (ag 0) ap)) (kK rfl B.i))))) (au (aC ff)) aK) (au (aC (bo sk rfl B.z boot_all (ai (eE (top 12) ["thing","rows_left"] (bO (ag 0)) (aX ih hr (ag 0) (aR iY (ag 2) aj))) ap))))))
theorem B4:∀n,Fn P w K mg base "many_of" ["value"] (0+n) (spM K 1 (iB n)):=dj (dG E 14) fun n ih=>aV (k:=0+n) E 14 ["value"] fun B S hr=>(ax (aI (c5 (bv (bK .tup B.z (ag 0) B.z boot_tuple))) (au (aC aj)) aK) (au (aC (aR bj aj (bo y8 rfl B.z boot_sum (ai (eE (top 14) ["value"] (bO (ag 0)) (aW ih hr (ag 0))) ap))))))
theorem Bg:Fn P w K mg base "is_value" ["thing"] 28 (spM K 1 kq):=aV E 13 ["thing"] fun B S hr=>(au (aC (iR (aX (Bh E 25) hr (ag 0) (kK rfl B.i)) (k8 (dD dS (aW (B4 E 25) hr (ag 0)) (kK rfl B.i))))))
theorem sR:Fn P w K mg base "exprs_within" ["expr"] 1 (spM K 1 cR):=aV E 16 ["expr"] fun B S hr=>(ax (aI (bV (eZ (aE aU (ao aq (ag 0) aj) aB) (fM (aE aU (ao aq (ag 0) aj) aB)))) (au (aC (cw ap))) aK) (ax (aI (aE aU (ao aq (ag 0) aj) aB) (au (aC (cj yo rfl B.z boot_list (ai (ao aq (ag 0) aj) ap)))) aK) (au (aC (cj yo rfl B.z boot_list (ai (fR (ag 0) (fG aj) fH) ap))))))
theorem ux:Fn P w K mg base "sort_at" ["book","name"] 1 (spM K 2 gQ):=aV E 19 ["book","name"] fun B S hr=>(ax (aI (aE (i3 hr) (ag 1) (ao aq (ag 0) aj)) (au (aC aB)) aK) (ax (aI (aE (i3 hr) (ag 1) (ao aq (ag 0) aj)) (au (aC aB)) aK) (au (aC aB))))
theorem lY:∀n,Fn P w K mg base "stamp_of" ["value"] (1+n) (spM K 1 (dh n)):=dj (dG E 24) fun n ih=>aV (k:=1+n) E 24 ["value"] fun B S hr=>(ax (aI (bv (aW (gP E) hr (ag 0))) (au (aC (cj jS rfl B.z boot_str (ai (ag 0) ap)))) aK) (ax (aI (bv (bK .str B.z (ag 0) B.z boot_str)) (au (aC (aR bj aB (ag 0)))) aK) (au (aC (aR bj (aR bj aB (w4 aB (eE (top 24) ["value"] (bO (ag 0)) (aW ih hr (ag 0))))) aB)))))
theorem z8:Fn P w K mg base "filling_words" ["expr"] 27 (spM K 1 gK):=aV E 29 ["expr"] fun B S hr=>(ax (aI (aE aU (ao aq (ag 0) aj) aB) (au (aC (cw (ai (aW (lY E 25) hr (ao aq (ag 0) aj)) ap)))) aK) (ax (aI (aE aU (ao aq (ag 0) aj) aB) (au (aC (cw (ai (cj jS rfl B.z boot_str (ai (ao aq (ag 0) aj) ap)) ap)))) aK) (ax (aI (aE aU (ao aq (ag 0) aj) aB) (au (aC (cw (ai (cj jS rfl B.z boot_str (ai (bo bI rfl B.z boot_len (ai (ao aq (ag 0) aj) ap)) ap)) ap)))) aK) (au (aC (cw ap))))))
theorem Az:∀n,Fn P w K mg base "expr_words" ["expr"] (27+n) (spM K 1 (eJ n)):=dj (dG E 28) fun n ih=>aV (k:=27+n) E 28 ["expr","words","part"] fun B S hr=>(ax (wW (i:=1) S.nd (cw (ai (ao aq (ag 0) aj) ap)) (aW (z8 E) hr (ag 0))) (ax (dC (i:=2) S.nd (bO (aW (sR E) hr (ag 0))) (au (yj (i:=1) (by exact(aW ih hr (ag 2)))))) (au (aC (ag 1)))))
theorem Ab:∀n,Fn P w K mg base "recipe_words" ["recipe"] (52+n) (spM K 1 (fZ n)):=dj (dG E 27) fun n ih=>aV (k:=52+n) E 27 ["recipe","words","part"] fun B S hr=>(ax (aI (aE aU (ao aq (ag 0) aj) aB) (au (aC (cw (ai (ao aq (ag 0) aj) (ai (ao aq (ag 0) aj) ap))))) aK) (ax (wW (i:=1) S.nd (cw (ai (ao aq (ag 0) aj) ap)) (aW (Az E 25) hr (ao aq (ag 0) aj))) (ax (dC (i:=2) S.nd (bO (fR (ag 0) (fG aj) fH)) (au (yj (i:=1) (by exact(aW ih hr (ag 2)))))) (au (aC (ag 1))))))
theorem Ai:Fn P w K mg base "show_recipe" ["recipe"] 78 (spM K 1 je):=aV E 26 ["recipe"] fun B S hr=>(au (aC (qq aB (aW (Ab E 25) hr (ag 0)))))
theorem AL:Fn P w K mg base "told_less" ["one","other"] 2 (spM K 2 gM):=aV E 38 ["one","other"] fun B S hr=>(ax (aI (bV (eZ (c5 (bv (aW (gP E) hr (ag 0)))) (fM (c5 (bv (aW (gP E) hr (ag 1))))))) (au (aC (aH (ai aB (ai aB ap))))) aK) (au (aC (aH (ai aB (ai (cM (aE dH (ag 0) (ag 1)) aj aj) ap))))))
theorem mj:Fn P w K mg base "bounded" ["thing"] 29 (spM K 1 gR):=aV E 33 ["thing"] fun B S hr=>(au (aC (cM (bv (aW (Bg E) hr (ag 0))) (aH (ai aB (ai (ag 0) ap))) (aH (ai aB (ai aB ap))))))
theorem AK:Fn P w K mg base "told_many" ["value"] 2 (spM K 1 kc):=aV E 34 ["value"] fun B S hr=>(ax (aI (bv (aW (gP E) hr (ag 0))) (au (aC (aH (ai aB (ai aB ap))))) aK) (au (aC (aH (ai aB (ai (bo bI rfl B.z boot_len (ai (ag 0) ap)) ap))))))
theorem AJ:Fn P w K mg base "told_part" ["row","number"] 2 (spM K 2 gc):=aV E 35 ["row","number"] fun B S hr=>(ax (aI (bV (eZ (c5 (bv (bK .tup B.z (ag 0) B.z boot_tuple))) (fM (c5 (bv (aW (gP E) hr (ag 1))))))) (au (aC (aH (ai aB (ai aB ap))))) aK) (ax (aI (c5 (qp dS dH aj (ag 1) (bo bI rfl B.z boot_len (ai (ag 0) ap)))) (au (aC (aH (ai aB (ai aB ap))))) aK) (au (aC (aH (ai aB (ai (ao aq (ag 0) (ag 1)) ap)))))))
theorem Bc:Fn P w K mg base "told_sum" ["one","other"] 30 (spM K 2 iy):=aV E 36 ["one","other"] fun B S hr=>(ax (aI (bV (eZ (c5 (bv (aW (gP E) hr (ag 0)))) (fM (c5 (bv (aW (gP E) hr (ag 1))))))) (au (aC (aH (ai aB (ai aB ap))))) aK) (au (aC (aW (mj E) hr (aR bj (ag 0) (ag 1))))))
theorem AM:Fn P w K mg base "told_join" ["one","other"] 30 (spM K 2 gf):=aV E 37 ["one","other"] fun B S hr=>(ax (aI (bV (dB (bv (bK .str B.z (ag 0) B.z boot_str)) (dM (bv (bK .str B.z (ag 1) B.z boot_str))))) (au (aC (aW (mj E) hr (aR bj (ag 0) (ag 1))))) aK) (ax (aI (bV (dB (bv (bK .tup B.z (ag 0) B.z boot_tuple)) (dM (bv (bK .tup B.z (ag 1) B.z boot_tuple))))) (au (aC (aW (mj E) hr (aR bj (ag 0) (ag 1))))) aK) (au (aC (aH (ai aB (ai aB ap)))))))
theorem B2:Fn P w K mg base "told_of" ["word","parts"] 31 (spM K 2 bh):=aV E 32 ["word","parts"] fun B S hr=>(ax (aI (aE aU (ag 0) aB) (au (aC (aW (mj E) hr (cj gq rfl B.z boot_tuple (ai (ag 1) ap))))) aK) (ax (aI (aE aU (ag 0) aB) (au (aC (aW (AK E) hr (ao aq (ag 1) aj)))) aK) (ax (aI (aE aU (ag 0) aB) (au (aC (aX (AJ E) hr (ao aq (ag 1) aj) (ao aq (ag 1) aj)))) aK) (ax (aI (aE aU (ag 0) aB) (au (aC (aX (Bc E) hr (ao aq (ag 1) aj) (ao aq (ag 1) aj)))) aK) (ax (aI (aE aU (ag 0) aB) (au (aC (aX (AM E) hr (ao aq (ag 1) aj) (ao aq (ag 1) aj)))) aK) (ax (aI (aE aU (ag 0) aB) (au (aC (aH (ai aB (ai (cM (aE (yK hr) (ao aq (ag 1) aj) (ao aq (ag 1) aj)) aj aj) ap))))) aK) (au (aC (aX (AL E) hr (ao aq (ag 1) aj) (ao aq (ag 1) aj))))))))))
theorem B3:∀n,Fn P w K mg base "told_by" ["expr","got"] (31+n) (spM K 2 (dw n)):=dj (dG E 31) fun n ih=>aV (k:=31+n) E 31 ["expr","got","parts","inner","told"] fun B S hr=>(ax (aI (aE aU (ao aq (ag 0) aj) aB) (au (aC (aH (ai aB (ai (ao aq (ag 0) aj) ap))))) aK) (ax (aI (aE aU (ao aq (ag 0) aj) aB) (au (aC (aH (ai aB (ai (ao aq (ag 1) (ao aq (ag 0) aj)) ap))))) aK) (ax (ju (i:=2) S.nd ap) (ax (dC (i:=3) S.nd (bO (aW (sR E) hr (ag 0))) (ax (aQ (i:=4) S.nd (aX ih hr (ag 3) (ag 1))) (ax (aI (aE aU (ao aq (ag 4) aj) aB) (au (aC (ag 4))) aK) (au (k7 (i:=2) (by exact(ao aq (ag 4) aj))))))) (au (aC (qt (B2 E) (hr.mono (by omega)) rfl (ai (ao aq (ag 0) aj) (ai (ag 2) ap)) (a7 (a7 bX)))))))))
theorem uw:∀n,Fn P w K mg base "step_of" ["recipe","got"] (56+n) (spM K 2 (cW n)):=dj (dG E 40) fun n ih=>aV (k:=56+n) E 40 ["recipe","got","told"] fun B S hr=>(ax (aI (aE aU (ao aq (ag 0) aj) aB) (au (aC (aH (ai aB (ai (ao aq (ag 0) aj) ap))))) aK) (ax (aQ (i:=2) S.nd (aX (B3 E 25) hr (ao aq (ag 0) aj) (ag 1))) (ax (aI (aE aU (ao aq (ag 2) aj) aB) (au (aC (ag 2))) aK) (ax (aI (aE aU (ao aq (ag 0) aj) aB) (au (aC (aX ih hr (cM (aE (yJ hr) (ao aq (ag 2) aj) (aH (ai aj (ai aB (ai (aH ap) ap))))) (ao aq (ag 0) aj) (ao aq (ag 0) aj)) (ag 1)))) aK) (ax (aI (aE aU (ao aq (ag 0) aj) aB) (au (aC (aH (ai aB (ai (ao aq (ag 2) aj) ap))))) aK) (ax (aI (c5 (bv (aW (B5 E) hr (ao aq (ag 2) aj)))) (au (aC (aH (ai aB (ai aB ap))))) aK) (au (aC (aH (ai (ao aq (ag 0) aj) (ai (ao aq (ag 2) aj) (ai (ao aq (ag 0) aj) ap))))))))))))
theorem C8:Fn P w K mg base "end_by" ["step"] 27 (spM K 1 jo):=aV E 50 ["step"] fun B S hr=>(ax (aI (aE aU (ao aq (ag 0) aj) aB) (au (aC (aH (ai aB (ai (aW (lY E 25) hr (ao aq (ag 0) aj)) ap))))) aK) (ax (aI (aE aU (ao aq (ag 0) aj) aB) (au (aC (ag 0))) aK) (au (aC (aH (ai aB (ai (ao aq (ag 0) aj) ap)))))))
theorem AO:Fn P w K mg base "line_from" ["name","come"] 28 (spM K 2 ke):=aV E 49 ["name","come","reads"] fun B S hr=>(ax (aQ (i:=2) S.nd (cj gq rfl B.z boot_tuple (ai (eE (top 49) ["name","come","reads"] (bO (ao aq (ag 1) aj)) (aH (ai (ao aq (ag 0) aj) (ai (aW (lY E 25) hr (ao aq (ag 0) aj)) ap)))) ap))) (au (aC (aH (ai (ag 0) (ai (ag 2) (ai (aW (C8 E) hr (ao aq (ag 1) aj)) ap)))))))
theorem Ay:Fn P w K mg base "lines_from" ["come"] 29 (spM K 1 lV):=aV E 48 ["come","lines","name"] fun B S hr=>(ax (iH (i:=1) S.nd) (ax (dC (i:=2) S.nd (bO (ag 0)) (au (dN (i:=1) hr (ag 2) (aX (AO E) hr (ag 2) (ao (b8 hr) (ag 0) (ag 2)))))) (au (aC (ag 1)))))
theorem Be:Fn P w K mg base "start_of" ["recipe"] 82 (spM K 1 km):=aV E 44 ["recipe"] fun B S hr=>(au (aC (aH (ai (aH ap) (ai (aH ap) (ai (aX (uw E 25) hr (ag 0) (aH ap)) ap))))))
theorem sV:Fn P w K mg base "awaited_at" ["come"] 1 (spM K 1 dW):=aV E 46 ["come"] fun B S hr=>(au (aC (cM (aE jV (ao aq (ao aq (ag 0) aj) aj) (qr (ss:=["want","peek"]) rfl B.g_GETTING)) (ao aq (ao aq (ag 0) aj) aj) gr)))
theorem EV:Fn P w K mg base "given" ["come","value"] 82 (spM K 2 js):=aV E 47 ["come","value","step","got","reads"] fun B S hr=>(ax (aQ (i:=2) S.nd (ao aq (ag 0) aj)) (ax (aQ (i:=3) S.nd (aR bj (ao aq (ag 0) aj) (aH (ai (ag 1) ap)))) (ax (aQ (i:=4) S.nd (cM (aE aU (ao aq (ag 2) aj) aB) (aR bj (ao aq (ag 0) aj) (aH (ai (aH (ai (ao aq (ag 2) aj) (ai (ag 1) ap))) ap))) (ao aq (ag 0) aj))) (au (aC (aH (ai (ag 3) (ai (ag 4) (ai (aX (uw E 25) hr (ao aq (ag 2) aj) (ag 3)) ap)))))))))
theorem B6:Fn P w K mg base "gone_on" ["come","good"] 83 (spM K 2 kz):=aV E 45 ["come","good"] fun B S hr=>(ax (mH 100000 (aE (i3 hr) (aW (sV E) hr (ag 0)) (ag 1)) (au (aQ (i:=0) S.nd (aX (EV E) hr (ag 0) (ao (b8 hr) (ag 1) (aW (sV E) hr (ag 0))))))) (au (aC (ag 0))))
theorem Aj:Fn P w K mg base "made_afresh" ["book"] 84 (spM K 1 lU):=aV E 43 ["book","good","come","name","recipe","grown","many"] fun B S hr=>(ax (vm (i:=1) B.z S.nd (ao aq (ag 0) aj)) (ax (iH (i:=2) S.nd) (ax (qQ (i:=3) (j:=4) S.nd (ao aq (ag 0) aj) (au (dN (i:=2) hr (ag 3) (aW (Be E) hr (ag 4))))) (ax (aQ (i:=5) S.nd ff) (ax (mH 100000 (bv (ag 5)) (ax (aQ (i:=6) S.nd (bo bI rfl B.z boot_len (ai (ag 1) ap))) (ax (dC (i:=3) S.nd (bO (ao aq (ag 0) aj)) (ax (dN (i:=2) hr (ag 3) (qR (aX (B6 E) hr (ao (b8 hr) (ag 2) (ag 3)) (ag 1)))) (au (aI (aE aU (ao aq (ao aq (ao (b8 hr) (ag 2) (ag 3)) aj) aj) aB) (au (dN (i:=1) hr (ag 3) (ao aq (ao aq (ao (b8 hr) (ag 2) (ag 3)) aj) aj))) aK)))) (au (aQ (i:=5) S.nd (dD ic (bo bI rfl B.z boot_len (ai (ag 1) ap)) (ag 6))))))) (au (aC (aH (ai (ag 1) (ai (ag 2) ap))))))))))
theorem Bf:Fn P w K mg base "lines_of" ["book"] 85 (spM K 1 ko):=aV E 42 ["book"] fun B S hr=>(au (aC (aW (Ay E) hr (ao aq (aW (Aj E) hr (ag 0)) aj))))
theorem tQ:Fn P w K mg base "ends_now" ["book"] 86 (spM K 1 iA):=aV E 53 ["book","ends","name","value","line"] fun B S hr=>(ax (iH (i:=1) S.nd) (ax (qQ (i:=2) (j:=3) S.nd (ao aq (ag 0) aj) (au (dN (i:=1) hr (ag 2) (aH (ai aB (ai (aW (lY E 25) hr (ag 3)) ap)))))) (ax (qQ (i:=2) (j:=4) S.nd (aW (Bf E) hr (ag 0)) (au (dN (i:=1) hr (ag 2) (ao aq (ag 4) aj)))) (au (aC (ag 1))))))
theorem tO:Fn P w K mg base "own_line" ["recipes","held","name"] 79 (spM K 3 gi):=aV E 55 ["recipes","held","name"] fun B S hr=>(ax (aI (bV (eZ (aE (iE hr) (ag 2) (ag 1)) (eZ (aE (iE hr) (ag 2) (ag 0)) (fM (aE ia (ao aq (ao (b8 hr) (ag 1) (ag 2)) aj) (aW (Ai E) hr (ao (b8 hr) (ag 0) (ag 2)))))))) (au (aC gr)) aK) (au (aC (ao aq (ao (b8 hr) (ag 1) (ag 2)) aj))))
theorem sP:Fn P w K mg base "otherwise_now" ["ends","line"] 1 (spM K 2 j7):=aV E 56 ["ends","line","k","read","end"] fun B S hr=>(ax (Dk (i:=2) (j:=3) B.z S.nd (ao aq (ag 1) aj) (ax (aQ (i:=4) S.nd (w6 hr (ag 0) (ao aq (ag 3) aj) (qr (ss:=["lacks"]) rfl B.g_LACKS))) (au (aI (aE (jL hr) (ag 4) (aH (ai aB (ai (ao aq (ag 3) aj) ap)))) (au (aC (aH (ai aB (ai (ag 2) (ai (ao aq (ag 3) aj) (ai (ao aq (ag 3) aj) (ai (ag 4) ap)))))))) aK)))) (ax (aI (bV (dB (aE aU (ao aq (ao aq (ag 1) aj) aj) aB) (dM (aE aU (ao aq (w6 hr (ag 0) (ao aq (ao aq (ag 1) aj) aj) (qr (ss:=["lacks"]) rfl B.g_LACKS)) aj) aB)))) (au (aC (aH (ai aB (ai (ao aq (ao aq (ag 1) aj) aj) (ai (ao aq (ao (b8 hr) (ag 0) (ao aq (ao aq (ag 1) aj) aj)) aj) ap)))))) aK) (au (aC gr))))
theorem C7:Fn P w K mg base "stands" ["book","held","name"] 87 (spM K 3 gS):=aV E 54 ["book","held","name","line"] fun B S hr=>(ax (aQ (i:=3) S.nd (fA (tO E) hr (ao aq (ag 0) aj) (ag 1) (ag 2))) (au (aC (iR (dD v5 (ag 3) gr) (k8 (dD sA (aX (sP E) hr (aW (tQ E) hr (ag 0)) (ag 3)) gr))))))
theorem AN:Fn P w K mg base "reason_by" ["ends","recipes","held","name"] 80 (spM K 4 ir):=aV E 59 ["ends","recipes","held","name","line"] fun B S hr=>(ax (aI (aE (iE hr) (ag 3) (ag 2)) (au (aC (aH (ai aB ap)))) aK) (ax (aQ (i:=4) S.nd (fA (tO E) hr (ag 1) (ag 2) (ag 3))) (au (aC (cM (aE sA (ag 4) gr) (aH (ai aB ap)) (aX (sP E) hr (ag 0) (ag 4)))))))
theorem Ax:Fn P w K mg base "reason_for" ["book","held","name"] 87 (spM K 3 pB):=aV E 58 ["book","held","name"] fun B S hr=>(ax (aI (aE ia (aX (ux E) hr (ag 0) (ag 2)) aB) (au Fd) aK) (au (aC (gI (AN E) hr (aW (tQ E) hr (ag 0)) (ao aq (ag 0) aj) (ag 1) (ag 2)))))
theorem Ae:XO.FnX P w K mg base "reason_for" ["book","held","name"] 87 (XO.spF K 3 (fun _=>C) jh):=let ⟨_,X,G⟩:=E.x;XO.fnX (E.d.at (i:=58) (by decide +kernel)) X G (fun _ _ _ _ _ _=>bl3 fun _ _ _=>rfl) fun f fd F=>XO.JF F (iX (N:=["book","held","name"]) (by decide +kernel)) fun _ _ _ _ _ _ hr=>XO.Di (cs:=fun _=>C) (c:=0) E.b.xj E.b.xm (aE ia (aX (ux E) hr (ag 0) (ag 2)) aB)
theorem iu:Fn P w K mg base "_law_feed" ["_law_script","_law_k"] 1 (spO K 2 bM):=Jb E 61 ["_law_script","_law_k"] fun B S hr=>(ax (aI (aE aU (bo bI rfl B.z boot_len (ai (ag 0) ap)) aj) (au (vn (ai aj (ai aj (ai (ag 1) ap))))) aK) (au (vn (ai (ao aq (ag 0) (aR iZ (ag 1) (bo bI rfl B.z boot_len (ai (ag 0) ap)))) (ai aj (ai (ag 1) ap))))))
theorem bA:Fn P w K mg base "_law_next" ["_law_feed_here","_law_many"] 1 (spM K 2 aP):=aV E 62 ["_law_feed_here","_law_many","_law_digit","_law_seed"] fun B S hr=>(ax (yi (ag 0) aj (aR bj (ao aq (ag 0) aj) aj)) (ax (aI (aE Jv (ao aq (ag 0) aj) (aR jK aj aj)) (ax (aQ (i:=2) S.nd (aR iZ (ao aq (ag 0) aj) (ag 1))) (ax (yi (ag 0) aj (aR Ew (ao aq (ag 0) aj) (ag 1))) (au (aC (ag 2))))) aK) (ax (aQ (i:=3) S.nd (aR bj (aR bj (aR iZ (ao aq (ag 0) aj) aj) (aR jM aj (ao aq (ag 0) aj))) (aR jM aj (ao aq (ag 0) aj)))) (ax (aQ (i:=3) S.nd (aR iZ (aR jM (aR bj (ag 3) aj) aj) aj)) (au (aC (aR iZ (aR iZ (aR jM (aR iZ (aR bj (aR jM (ag 3) aj) (ao aq (ag 0) aj)) aj) aj) aj) (ag 1))))))))
theorem AB:Fn P w K mg base "_law_names" ["_law_feed_here","_law_many"] 2 (spM K 2 ji):=aV E 63 ["_law_feed_here","_law_many","_law_words","_law_letters","_law_names_here","_law_k","_law_way","_law_name"] fun B S hr=>(ax (aQ (i:=2) S.nd (cw (ai aB (ai aB (ai aB (ai aB (ai aB (ai aB (ai aB (ai aB ap)))))))))) (ax (aQ (i:=3) S.nd aB) (ax (ju (i:=4) S.nd ap) (ax (dC (i:=5) S.nd (kT rfl B.z (ag 1)) (ax (aQ (i:=6) S.nd (aX (bA E) hr (ag 0) aj)) (ax (aQ (i:=7) S.nd (ao aq (ag 3) (aX (bA E) hr (ag 0) aj))) (ax (aI (aE aU (ag 6) aj) (au (aQ (i:=7) S.nd (ao aq (ag 2) (aX (bA E) hr (ag 0) aj)))) aK) (ax (aI (bV (dB (aE aU (ag 6) aj) (dM (aE ic (bo bI rfl B.z boot_len (ai (ag 4) ap)) aj)))) (au (aQ (i:=7) S.nd (fR (aR bj (ao aq (ag 4) (rK aj)) (ag 7)) fH (fG aj)))) aK) (ax (aI (aE aU (ag 6) aj) (au (aQ (i:=7) S.nd (aR jM (aR bj (ag 7) (ao aq (ag 3) (aX (bA E) hr (ag 0) aj))) aj))) aK) (ax (aI (aE jV (ag 7) (ag 4)) (au (aQ (i:=7) S.nd (ao aq (sf (top 63) ["_law_feed_here","_law_many","_law_words","_law_letters","_law_names_here","_law_k","_law_way","_law_name"] (bO (ag 3)) (ag 0) (aE Eu (ag 0) (ag 5))) aj))) aK) (au (Hj (i:=4) (by exact(aX (bA E) hr (ag 0) (aR bj (bo bI rfl B.z boot_len (ai (ag 4) ap)) aj))) (by exact(ag 7))))))))))) (au (aC (ag 4)))))))
theorem lW:Fn P w K mg base "_law_value" ["_law_feed_here","_law_names_here"] 2 (spM K 2 f9):=aV E 64 ["_law_feed_here","_law_names_here","_law_some","_law_k"] fun B S hr=>(ax (aQ (i:=2) S.nd (cw (ai aj (ai aj (ai aB (ai (aH ap) (ai aj (ai aB (ai (aH (ai aj ap)) (ai (aH (ai aj (ai aB ap))) (ai (rK aj) (ai (aR jK aj aj) (ai aB (ai (aH (ai (aH ap) (ai (aH (ai aB (ai aj ap))) ap))) (ai (aH (ai aj (ai aj (ai aj ap)))) (ai (aR iY aj (aR jK aj aj)) ap)))))))))))))))) (ax (aQ (i:=3) S.nd (aX (bA E) hr (ag 0) aj)) (ax (aI (aE dH (ag 3) aj) (au (aC (ao aq (ag 2) (ag 3)))) aK) (ax (aI (aE aU (ag 3) aj) (au (aC (aX (bA E) hr (ag 0) (aR jK aj aj)))) aK) (au (aC (ao aq (ag 1) (aX (bA E) hr (ag 0) (bo bI rfl B.z boot_len (ai (ag 1) ap))))))))))
theorem Ak:∀n,Fn P w K mg base "_law_weight" ["_law_value_here"] (0+n) (spM K 1 (eI n)):=dj (dG E 65) fun n ih=>aV (k:=0+n) E 65 ["_law_value_here","_law_some","_law_deep"] fun B S hr=>(ax (aQ (i:=1) S.nd (cM (bv (bK .tup B.z (ag 0) B.z boot_tuple)) (eE (top 65) ["_law_value_here","_law_some","_law_deep"] (bO (ag 0)) (aW ih hr (ag 0))) (cw ap))) (ax (aQ (i:=2) S.nd (aR bj (cj sj rfl B.z boot_int (ai (bK .tup B.z (ag 0) B.z boot_tuple) ap)) (Fe B.z (eE (top 65) ["_law_value_here","_law_some","_law_deep"] (bO (ag 1)) (ao aq (ag 0) aj)) aj))) (au (aC (aH (ai (ag 2) (ai (aR bj aj (bo y8 rfl B.z boot_sum (ai (eE (top 65) ["_law_value_here","_law_some","_law_deep"] (bO (ag 1)) (ao aq (ag 0) aj)) ap))) ap)))))))
theorem pG:Fn P w K mg base "_law_kept" ["_law_value_here"] 26 (spM K 1 du):=aV E 66 ["_law_value_here","_law_deep","_law_many","_law_good_here"] fun B S hr=>(ax (rG (i:=1) (j:=2) S.nd (aW (Ak E 25) hr (ag 0))) (ax (aI (bv (bK .int B.z (ag 0) B.z boot_int)) (au (aC (cM (aE dS (bo y9 rfl B.z boot_abs (ai (ag 0) ap)) (aR jK aj aj)) (aH (ai aB (ai (ag 0) ap))) (aH (ai aB (ai aB ap)))))) aK) (ax (aQ (i:=3) S.nd (dD dS (bo bI rfl B.z boot_len (ai (ag 0) ap)) (cM (bv (bK .str B.z (ag 0) B.z boot_str)) aj aj))) (au (aC (cM (bV (dB (bv (ag 3)) (dB (aE dS (ag 1) aj) (dM (aE dS (ag 2) aj))))) (aH (ai aB (ai (ag 0) ap))) (aH (ai aB (ai aB ap)))))))))
theorem j9:∀n,Fn P w K mg base "_law_stamp" ["_law_value_here"] (0+n) (spM K 1 (cU n)):=dj (dG E 67) fun n ih=>aV (k:=0+n) E 67 ["_law_value_here"] fun B S hr=>(ax (aI (bv (bK .int B.z (ag 0) B.z boot_int)) (au (aC (cj jS rfl B.z boot_str (ai (ag 0) ap)))) aK) (ax (aI (bv (bK .str B.z (ag 0) B.z boot_str)) (au (aC (aR bj aB (ag 0)))) aK) (au (aC (aR bj (aR bj aB (w4 aB (eE (top 67) ["_law_value_here"] (bO (ag 0)) (aW ih hr (ag 0))))) aB)))))
theorem Ap:Fn P w K mg base "_law_of_two" ["_law_word","_law_one","_law_other"] 27 (spM K 3 bD):=aV E 68 ["_law_word","_law_one","_law_other","_law_kinds"] fun B S hr=>(ax (aI (aE aU (ag 0) aB) (au (aC (aH (ai aB (ai (cj sj rfl B.z boot_int (ai (dD (yK hr) (ag 1) (ag 2)) ap)) ap))))) aK) (ax (aI (aE aU (ag 0) aB) (ax (aI (bV (eZ (c5 (bv (bK .tup B.z (ag 1) B.z boot_tuple))) (fM (c5 (bv (bK .int B.z (ag 2) B.z boot_int)))))) (au (aC (aH (ai aB (ai aB ap))))) aK) (au (aC (cM (qp dS dH aj (ag 2) (bo bI rfl B.z boot_len (ai (ag 1) ap))) (aH (ai aB (ai (ao aq (ag 1) (ag 2)) ap))) (aH (ai aB (ai aB ap))))))) aK) (ax (aQ (i:=3) S.nd (cw (ai (bK .int B.z (ag 1) B.z boot_int) (ai (bK .int B.z (ag 2) B.z boot_int) (ai (bK .str B.z (ag 1) B.z boot_str) (ai (bK .str B.z (ag 2) B.z boot_str) ap)))))) (ax (aI (aE aU (ag 0) aB) (ax (aI (bV (eZ (aE (jL hr) (fR (ag 3) fH (fG aj)) (cw (ai ff (ai ff ap)))) (fM (aE ia (ao aq (ag 3) aj) (ao aq (ag 3) aj))))) (au (aC (aH (ai aB (ai aB ap))))) aK) (au (aC (aW (pG E) hr (aR bj (ag 1) (ag 2)))))) aK) (ax (aI (aE (jL hr) (fR (ag 3) fH (fG aj)) (cw (ai ff (ai ff ap)))) (au (aC (aH (ai aB (ai aB ap))))) aK) (au (aC (cM (aE aU (ag 0) aB) (aW (pG E) hr (aR bj (ag 1) (ag 2))) (aH (ai aB (ai (cj sj rfl B.z boot_int (ai (dD dH (ag 1) (ag 2)) ap)) ap)))))))))))
theorem sX:∀n,Fn P w K mg base "_law_told" ["_law_expr_here","_law_got"] (27+n) (spM K 2 (cH n)):=dj (dG E 69) fun n ih=>aV (k:=27+n) E 69 ["_law_expr_here","_law_got","_law_some","_law_one","_law_told_here"] fun B S hr=>(ax (aI (aE aU (ao aq (ag 0) aj) aB) (au (aC (aH (ai aB (ai (ao aq (ag 0) aj) ap))))) aK) (ax (aI (aE aU (ao aq (ag 0) aj) aB) (au (aC (aH (ai aB (ai (ao aq (ag 1) (ao aq (ag 0) aj)) ap))))) aK) (ax (ju (i:=2) S.nd ap) (ax (dC (i:=3) S.nd (bO (cM (aE aU (ao aq (ag 0) aj) aB) (ao aq (ag 0) aj) (fR (ag 0) (fG aj) fH))) (ax (aQ (i:=4) S.nd (aX ih hr (ag 3) (ag 1))) (ax (aI (aE aU (ao aq (ag 4) aj) aB) (au (aC (ag 4))) aK) (au (k7 (i:=2) (by exact(ao aq (ag 4) aj))))))) (ax (aI (aE aU (ao aq (ag 0) aj) aB) (au (aC (aW (pG E) hr (cj gq rfl B.z boot_tuple (ai (ag 2) ap))))) aK) (ax (aI (aE aU (ao aq (ag 0) aj) aB) (au (aC (cM (bv (bK .int B.z (ao aq (ag 2) aj) B.z boot_int)) (aH (ai aB (ai aB ap))) (aH (ai aB (ai (bo bI rfl B.z boot_len (ai (ao aq (ag 2) aj) ap)) ap)))))) aK) (au (aC (fA (Ap E) hr (ao aq (ag 0) aj) (ao aq (ag 2) aj) (ao aq (ag 2) aj))))))))))
theorem Ac:Fn P w K mg base "_law_is_name" ["_law_thing"] 1 (spM K 1 iq):=aV E 70 ["_law_thing"] fun B S hr=>(ax (aI (bV (eZ (c5 (bv (bK .str B.z (ag 0) B.z boot_str))) (fM (c5 (qp dS dS aj (bo bI rfl B.z boot_len (ai (ag 0) ap)) aj))))) (au (aC ff)) aK) (au (aC (bo sk rfl B.z boot_all (ai (eE (top 70) ["_law_thing"] (bO (ag 0)) (dD jV (ag 0) aB)) ap)))))
theorem ph:Fn P w K mg base "_law_follow" ["_law_recipe_here","_law_known"] 53 (spM K 2 f6):=aV E 71 ["_law_recipe_here","_law_known","_law_got","_law_reads","_law_told_here"] fun B S hr=>(ax (ju (i:=2) S.nd ap) (ax (ju (i:=3) S.nd ap) (ax (mH 100000 (aE jV (ao aq (ag 0) aj) (aH (ai aB (ai aB (ai aB ap))))) (ax (aQ (i:=4) S.nd (qt (sX E 25) (hr.mono (by omega)) rfl (ai (ao aq (ag 0) aj) (ai (ag 2) ap)) (a7 (a7 bX)))) (ax (aI (aE aU (ao aq (ag 4) aj) aB) (au (aC (aH (ai (cj gq rfl B.z boot_tuple (ai (ag 3) ap)) (ai (ag 4) ap))))) aK) (au (aI (aE aU (ao aq (ag 0) aj) aB) (au (aQ (i:=0) S.nd (cM (aE (yJ hr) (ao aq (ag 4) aj) (aH (ai aj (ai aB (ai (aH ap) ap))))) (ao aq (ag 0) aj) (ao aq (ag 0) aj)))) (au (aI (c5 (bv (aW (Ac E) hr (ao aq (ag 4) aj)))) (au (aC (aH (ai (cj gq rfl B.z boot_tuple (ai (ag 3) ap)) (ai (aH (ai aB (ai aB ap))) ap))))) (au (aI (aE (iE hr) (ao aq (ag 4) aj) (ag 1)) (au (aC (aH (ai (cj gq rfl B.z boot_tuple (ai (ag 3) ap)) (ai (aH (ai aB (ai (ao aq (ag 4) aj) ap))) ap))))) (ax (k7 (i:=2) (by exact(ao (b8 hr) (ag 1) (ao aq (ag 4) aj)))) (ax (aI (aE aU (ao aq (ag 0) aj) aB) (au (k7 (i:=3) (by exact(aH (ai (ao aq (ag 4) aj) (ai (aW (j9 E 25) hr (ao (b8 hr) (ag 1) (ao aq (ag 4) aj))) ap)))))) aK) (au (aQ (i:=0) S.nd (ao aq (ag 0) aj)))))))))))))) (ax (aI (aE aU (ao aq (ag 0) aj) aB) (au (aC (aH (ai (cj gq rfl B.z boot_tuple (ai (ag 3) ap)) (ai (aH (ai aB (ai (ao aq (ag 0) aj) ap))) ap))))) aK) (ax (aQ (i:=4) S.nd (qt (sX E 25) (hr.mono (by omega)) rfl (ai (ao aq (ag 0) aj) (ai (ag 2) ap)) (a7 (a7 bX)))) (ax (aI (aE aU (ao aq (ag 4) aj) aB) (au (aC (aH (ai (cj gq rfl B.z boot_tuple (ai (ag 3) ap)) (ai (ag 4) ap))))) aK) (au (aC (aH (ai (cj gq rfl B.z boot_tuple (ai (ag 3) ap)) (ai (aH (ai aB (ai (aW (j9 E 25) hr (ao aq (ag 4) aj)) ap))) (ai (ao aq (ag 4) aj) ap))))))))))))
theorem sZ:Fn P w K mg base "_law_good" ["_law_book_here"] 54 (spM K 1 fD):=aV E 72 ["_law_book_here","_law_good_here","_law_many","_law_name","_law_found_here"] fun B S hr=>(ax (vm (i:=1) B.z S.nd (ao aq (ag 0) aj)) (ax (aQ (i:=2) S.nd (rK aj)) (ax (mH 100000 (aE dH (ag 2) (bo bI rfl B.z boot_len (ai (ag 1) ap))) (ax (aQ (i:=2) S.nd (bo bI rfl B.z boot_len (ai (ag 1) ap))) (au (dC (i:=3) S.nd (bO (ao aq (ag 0) aj)) (au (aI (aE (iE hr) (ag 3) (ag 1)) (ax (aQ (i:=4) S.nd (qR (aX (ph E) hr (ao (b8 hr) (ao aq (ag 0) aj) (ag 3)) (ag 1)))) (au (aI (aE aU (ao aq (ao aq (ag 4) aj) aj) aB) (au (dN (i:=1) hr (ag 3) (ao aq (ag 4) aj))) aK))) aK)))))) (au (aC (ag 1))))))
theorem z0:∀n,Fn P w K mg base "_law_show_expr" ["_law_expr_here"] (25+n) (spM K 1 (eG n)):=dj (dG E 73) fun n ih=>aV (k:=25+n) E 73 ["_law_expr_here","_law_words","_law_inner"] fun B S hr=>(ax (aI (aE aU (ao aq (ag 0) aj) aB) (au (aC (aR bj aB (aW (j9 E 25) hr (ao aq (ag 0) aj))))) aK) (ax (aI (aE aU (ao aq (ag 0) aj) aB) (au (aC (aR bj aB (cj jS rfl B.z boot_str (ai (ao aq (ag 0) aj) ap))))) aK) (ax (ju (i:=1) S.nd (ai (ao aq (ag 0) aj) ap)) (ax (aQ (i:=2) S.nd (fR (ag 0) (fG aj) fH)) (ax (aI (aE aU (ao aq (ag 0) aj) aB) (ax (k7 (i:=1) (by exact(cj jS rfl B.z boot_str (ai (bo bI rfl B.z boot_len (ai (ao aq (ag 0) aj) ap)) ap)))) (au (aQ (i:=2) S.nd (ao aq (ag 0) aj)))) aK) (au (aC (qq aB (aR bj (ag 1) (eE (top 73) ["_law_expr_here","_law_words","_law_inner"] (bO (ag 2)) (aW ih hr (ag 0))))))))))))
theorem sY:∀n,Fn P w K mg base "_law_show" ["_law_recipe_here"] (50+n) (spM K 1 (df n)):=dj (dG E 74) fun n ih=>aV (k:=50+n) E 74 ["_law_recipe_here","_law_words"] fun B S hr=>(ax (aI (aE aU (ao aq (ag 0) aj) aB) (au (aC (aR bj aB (ao aq (ag 0) aj)))) aK) (ax (aQ (i:=1) S.nd (cw (ai (ao aq (ag 0) aj) (ai (aW (z0 E 25) hr (ao aq (ag 0) aj)) ap)))) (au (aC (qq aB (aR bj (ag 1) (eE (top 74) ["_law_recipe_here","_law_words"] (bO (fR (ag 0) (fG aj) fH)) (aW ih hr (ag 0)))))))))
theorem pH:∀n,Fn P w K mg base "_law_expr" ["_law_feed_here","_law_got","_law_names_here","_law_deep"] (2+n) (spM K 4 (cZ n)):=dj (dG E 75) fun n ih=>aV (k:=2+n) E 75 ["_law_feed_here","_law_got","_law_names_here","_law_deep","_law_way","_law_one","_law_other"] fun B S hr=>(ax (aQ (i:=4) S.nd (aX (bA E) hr (ag 0) aj)) (ax (aI (bV (dB (aE dH (ag 4) aj) (dM (aE ic (ag 1) aj)))) (au (aC (aH (ai aB (ai (aX (bA E) hr (ag 0) (ag 1)) ap))))) aK) (ax (aI (bV (eZ (aE aU (ag 3) aj) (fM (aE dH (ag 4) aj)))) (au (aC (aH (ai aB (ai (aX (lW E) hr (ag 0) (ag 2)) ap))))) aK) (ax (aQ (i:=5) S.nd (gI ih hr (ag 0) (ag 1) (ag 2) (aR iY (ag 3) aj))) (ax (aI (aE aU (ag 4) aj) (au (aC (aH (ai aB (ai (ag 5) ap))))) aK) (ax (aQ (i:=6) S.nd (gI ih hr (ag 0) (ag 1) (ag 2) (aR iY (ag 3) aj))) (ax (aI (aE aU (ag 4) aj) (au (aC (aH (ai aB (ai (fR (aH (ai (ag 5) (ai (ag 6) ap))) fH (fG (aX (bA E) hr (ag 0) aj))) ap))))) aK) (au (aC (aH (ai (ao aq (cw (ai aB (ai aB (ai aB (ai aB (ai aB ap)))))) (aX (bA E) hr (ag 0) aj)) (ai (ag 5) (ai (ag 6) ap)))))))))))))
theorem Al:Fn P w K mg base "_law_wanted" ["_law_feed_here","_law_got","_law_names_here"] 28 (spM K 3 jf):=aV E 76 ["_law_feed_here","_law_got","_law_names_here","_law_way"] fun B S hr=>(ax (aQ (i:=3) S.nd (aX (bA E) hr (ag 0) aj)) (ax (aI (aE dH (ag 3) aj) (au (aC (aH (ai aB (ai (ao aq (ag 2) (aX (bA E) hr (ag 0) (bo bI rfl B.z boot_len (ai (ag 2) ap)))) ap))))) aK) (ax (aI (aE aU (ag 3) aj) (au (aC (aH (ai aB (ai (aH (ai aB (ai (ao aq (ag 2) (aX (bA E) hr (ag 0) (bo bI rfl B.z boot_len (ai (ag 2) ap)))) ap))) (ai (aH (ai aB (ai aB ap))) ap)))))) aK) (au (aC (gI (pH E 25) hr (ag 0) (ag 1) (ag 2) aj))))))
theorem An:∀n,Fn P w K mg base "_law_recipe" ["_law_feed_here","_law_got","_law_names_here","_law_wants","_law_whens","_law_peeks"] (28+n) (spM K 6 (de n)):=dj (dG E 77) fun n ih=>aV (k:=28+n) E 77 ["_law_feed_here","_law_got","_law_names_here","_law_wants","_law_whens","_law_peeks","_law_way","_law_word","_law_one","_law_first"] fun B S hr=>(ax (aQ (i:=6) S.nd (aX (bA E) hr (ag 0) aj)) (ax (aI (bV (dB (aE dH (ag 6) aj) (dM (aE ic (ag 3) aj)))) (ax (aQ (i:=7) S.nd (cM (bV (dB (bv (ag 5)) (dM (aE aU (aX (bA E) hr (ag 0) aj) aj)))) aB aB)) (ax (aQ (i:=8) S.nd (fA (Al E) hr (ag 0) (ag 1) (ag 2))) (au (aC (aH (ai (ag 7) (ai (ag 8) (ai (oZ ih hr (ag 0) (aR bj (ag 1) aj) (ag 2) (aR iY (ag 3) aj) (ag 4) (ag 5)) ap)))))))) aK) (ax (aI (bV (dB (aE jV (ag 6) (aH (ai aj (ai aj ap)))) (dM (aE ic (ag 4) aj)))) (ax (aQ (i:=8) S.nd (gI (pH E 25) hr (ag 0) (ag 1) (ag 2) aj)) (ax (aQ (i:=9) S.nd (oZ ih hr (ag 0) (ag 1) (ag 2) (ag 3) (aR iY (ag 4) aj) (ag 5))) (au (aC (aH (ai aB (ai (ag 8) (ai (ag 9) (ai (oZ ih hr (ag 0) (ag 1) (ag 2) (ag 3) (aR iY (ag 4) aj) (ag 5)) ap))))))))) aK) (ax (aI (bV (dB (aE aU (ag 6) aj) (dM (aE aU (aX (bA E) hr (ag 0) aj) aj)))) (au (aC (aH (ai aB (ai (ao aq (ag 2) (aX (bA E) hr (ag 0) (bo bI rfl B.z boot_len (ai (ag 2) ap)))) ap))))) aK) (au (aC (aH (ai aB (ai (gI (pH E 25) hr (ag 0) (ag 1) (ag 2) aj) ap)))))))))
theorem sM:Fn P w K mg base "_law_any_recipe" ["_law_feed_here","_law_names_here","_law_peeks"] 54 (spM K 3 fB):=aV E 78 ["_law_feed_here","_law_names_here","_law_peeks","_law_wants","_law_whens"] fun B S hr=>(ax (rG (i:=3) (j:=4) S.nd (ao aq (cw (ai (aH (ai aj (ai aj ap))) (ai (aH (ai aj (ai aj ap))) (ai (aH (ai aj (ai aj ap))) (ai (aH (ai aj (ai aj ap))) (ai (aH (ai aj (ai aj ap))) ap)))))) (aX (bA E) hr (ag 0) aj))) (au (aC (oZ (An E 25) hr (ag 0) aj (ag 1) (ag 3) (ag 4) (ag 2)))))
theorem AS:Fn P w K mg base "_law_book" ["_law_script","_law_base","_law_names_here","_law_peeks"] 55 (spM K 4 kj):=aV E 79 ["_law_script","_law_base","_law_names_here","_law_peeks","_law_told_here","_law_recipes","_law_k","_law_feed_here","_law_way"] fun B S hr=>(ax (iH (i:=4) S.nd) (ax (iH (i:=5) S.nd) (ax (dC (i:=6) S.nd (kT rfl B.z (bo bI rfl B.z boot_len (ai (ag 2) ap))) (uA (i:=7) (iu E) (hr.mono (by omega)) rfl S.nd (ai (ag 0) (ai (aR bj (ag 1) (ag 6)) ap)) (a7 (a7 bX)) (ax (aQ (i:=8) S.nd (aX (bA E) hr (ag 7) aj)) (au (aI (aE dH (ag 8) aj) (au (dN (i:=4) hr (ao aq (ag 2) (ag 6)) (aX (lW E) hr (ag 7) (ag 2)))) (au (aI (aE dH (ag 8) aj) (au (dN (i:=5) hr (ao aq (ag 2) (ag 6)) (fA (sM E) hr (ag 7) (ag 2) (ag 3)))) aK))))))) (au (aC (aH (ai (ag 4) (ai (ag 5) ap))))))))
theorem Am:Fn P w K mg base "_law_turned" ["_law_feed_here","_law_book_here","_law_names_here","_law_peeks"] 55 (spM K 4 jg):=aV E 80 ["_law_feed_here","_law_book_here","_law_names_here","_law_peeks","_law_name","_law_told_here","_law_recipes","_law_way"] fun B S hr=>(ax (aQ (i:=4) S.nd (ao aq (ag 2) (aX (bA E) hr (ag 0) (bo bI rfl B.z boot_len (ai (ag 2) ap))))) (ax (vj (i:=5) B.z S.nd (sf (top 80) ["_law_feed_here","_law_book_here","_law_names_here","_law_peeks","_law_name","_law_told_here","_law_recipes","_law_way"] (bO (ao aq (ag 1) aj)) (aH (ai (ag 0) (ai (ao (b8 hr) (ao aq (ag 2) aj) (ag 0)) ap))) (aE ia (ag 0) (ag 5)))) (ax (vj (i:=6) B.z S.nd (sf (top 80) ["_law_feed_here","_law_book_here","_law_names_here","_law_peeks","_law_name","_law_told_here","_law_recipes","_law_way"] (bO (ao aq (ag 1) aj)) (aH (ai (ag 0) (ai (ao (b8 hr) (ao aq (ag 2) aj) (ag 0)) ap))) (aE ia (ag 0) (ag 5)))) (ax (aQ (i:=7) S.nd (aX (bA E) hr (ag 0) aj)) (ax (aI (aE dH (ag 7) aj) (au (dN (i:=5) hr (ag 4) (aX (lW E) hr (ag 0) (ag 2)))) (au (aI (aE dH (ag 7) aj) (au (dN (i:=6) hr (ag 4) (fA (sM E) hr (ag 0) (ag 2) (ag 3)))) aK))) (au (aC (aH (ai (ag 5) (ai (ag 6) ap))))))))))
theorem AR:Fn P w K mg base "_law_held" ["_law_script","_law_base","_law_books","_law_names_here"] 76 (spM K 4 ki):=aV E 81 ["_law_script","_law_base","_law_books","_law_names_here","_law_held_here","_law_goods","_law_k","_law_feed_here","_law_which","_law_known","_law_name","_law_recipe_here"] fun B S hr=>(ax (iH (i:=4) S.nd) (ax (Ja (i:=5) (top 81) ["_law_script","_law_base","_law_books","_law_names_here","_law_held_here","_law_goods","_law_k","_law_feed_here","_law_which","_law_known","_law_name","_law_recipe_here"] ["_law_script","_law_base","_law_books","_law_names_here","_law_held_here","_law_goods","_law_k","_law_feed_here","_law_which","_law_known","_law_name","_law_recipe_here"] S.nd (bO (ag 2)) (aW (sZ E) hr (ag 0)) wV) (ax (dC (i:=6) S.nd (kT rfl B.z (bo bI rfl B.z boot_len (ai (ag 3) ap))) (uA (i:=7) (iu E) (hr.mono (by omega)) rfl S.nd (ai (ag 0) (ai (aR bj (ag 1) (ag 6)) ap)) (a7 (a7 bX)) (ax (aQ (i:=8) S.nd (aX (bA E) hr (ag 7) (bo bI rfl B.z boot_len (ai (ag 2) ap)))) (ax (aQ (i:=9) S.nd (ao aq (ag 5) (ag 8))) (ax (aI (aE aU (aX (bA E) hr (ag 7) aj) aj) (ax (iH (i:=9) S.nd) (au (dC (i:=10) S.nd (bO (ag 3)) (au (aI (aE ic (aX (bA E) hr (ag 7) aj) aj) (au (dN (i:=9) hr (ag 10) (aX (lW E) hr (ag 7) (ag 3)))) aK))))) aK) (au (aI (bV (dB (aE (i3 hr) (ao aq (ag 3) (ag 6)) (ao aq (ao aq (ag 2) (ag 8)) aj)) (dM (aE ic (aX (bA E) hr (ag 7) aj) aj)))) (ax (aQ (i:=11) S.nd (ao (b8 hr) (ao aq (ao aq (ag 2) (ag 8)) aj) (ao aq (ag 3) (ag 6)))) (au (dN (i:=4) hr (ao aq (ag 3) (ag 6)) (qR (aH (ai (aW (sY E 25) hr (ag 11)) (ai (aR bj (aH (ai (ao aq (ag 3) (ag 6)) ap)) (fR (aX (ph E) hr (ag 11) (ag 9)) fH (fG aj))) ap))))))) aK))))))) (au (aC (ag 4))))))
theorem AA:Fn P w K mg base "_law_start" ["_law_script","_law_peeks"] 77 (spM K 2 j8):=aV E 82 ["_law_script","_law_peeks","_law_names_here","_law_tome","_law_books","_law_k"] fun B S hr=>(ax (aQ (i:=2) S.nd (kJ (AB E) (iu E) (hr.mono (by omega)) (hr.mono (by omega)) rfl rfl (ai (ag 0) (ai aj ap)) (a7 (a7 bX)) (ai (aR bj aj (kJ (bA E) (iu E) (hr.mono (by omega)) (hr.mono (by omega)) rfl rfl (ai (ag 0) (ai aj ap)) (a7 (a7 bX)) (ai aj ap) (a7 (a7 bX)))) ap) (a7 (a7 bX)))) (ax (aQ (i:=3) S.nd (gI (AS E) hr (ag 0) aj (ag 2) (ag 1))) (ax (aQ (i:=4) S.nd (cw (ai (ag 3) ap))) (ax (dC (i:=5) S.nd (kT rfl B.z (aR bj aj (kJ (bA E) (iu E) (hr.mono (by omega)) (hr.mono (by omega)) rfl rfl (ai (ag 0) (ai aj ap)) (a7 (a7 bX)) (ai aj ap) (a7 (a7 bX))))) (au (aQ (i:=3) S.nd (kJ (Am E) (iu E) (hr.mono (by omega)) (hr.mono (by omega)) rfl rfl (ai (ag 0) (ai (aR bj aj (ag 5)) ap)) (a7 (a7 bX)) (ai (ag 3) (ai (ag 2) (ai (ag 1) ap))) (a7 (a7 (a7 (a7 bX)))))))) (au (aC (aH (ai (ag 2) (ai (ag 3) (ai (gI (AR E) hr (ag 0) aj (aR bj (ag 4) (cw (ai (ag 3) ap))) (ag 2)) ap))))))))))
theorem tR:Fn P w K mg base "_law_end" ["_law_tome","_law_good_here","_law_name"] 54 (spM K 3 gj):=aV E 83 ["_law_tome","_law_good_here","_law_name"] fun B S hr=>(ax (aI (aE (i3 hr) (ag 2) (ag 1)) (au (aC (aH (ai aB (ai (aW (j9 E 25) hr (ao (b8 hr) (ag 1) (ag 2))) ap))))) aK) (au (aC (cM (aE (i3 hr) (ag 2) (ao aq (ag 0) aj)) (ao aq (aX (ph E) hr (ao (b8 hr) (ao aq (ag 0) aj) (ag 2)) (ag 1)) aj) (aH (ai aB ap))))))
theorem Ao:Fn P w K mg base "_law_reason" ["_law_tome","_law_good_here","_law_kept_here","_law_name"] 76 (spM K 4 gL):=aV E 84 ["_law_tome","_law_good_here","_law_kept_here","_law_name","_law_line","_law_k","_law_other","_law_stamp_here"] fun B S hr=>(ax (aI (aE (iE hr) (ag 3) (ag 2)) (au (aC (aH (ai aB ap)))) aK) (ax (aI (aE ia (ao aq (ao (b8 hr) (ag 2) (ag 3)) aj) (aW (sY E 25) hr (ao (b8 hr) (ao aq (ag 0) aj) (ag 3)))) (au (aC (aH (ai aB ap)))) aK) (ax (aQ (i:=4) S.nd (ao aq (ao (b8 hr) (ag 2) (ag 3)) aj)) (ax (dC (i:=5) S.nd (kT rfl B.z (bo bI rfl B.z boot_len (ai (ao aq (ag 4) aj) ap))) (ax (rG (i:=6) (j:=7) S.nd (ao aq (ao aq (ag 4) aj) (ag 5))) (au (aI (aE (jL hr) (fA (tR E) hr (ag 0) (ag 1) (ag 6)) (aH (ai aB (ai (ag 7) ap)))) (au (aC (aH (ai aB (ai (ag 5) (ai (ag 6) (ai (ag 7) (ai (fA (tR E) hr (ag 0) (ag 1) (ag 6)) ap)))))))) aK)))) (ax (aI (bV (dB (aE aU (ao aq (ao aq (ag 4) aj) aj) aB) (dM (aE (i3 hr) (ao aq (ao aq (ag 4) aj) aj) (ag 1))))) (au (aC (aH (ai aB (ai (ao aq (ao aq (ag 4) aj) aj) (ai (aW (j9 E 25) hr (ao (b8 hr) (ag 1) (ao aq (ao aq (ag 4) aj) aj))) ap)))))) aK) (au (aC gr)))))))
theorem AC:Fn P w K mg base "_law_found" ["_law_tome","_law_kept_here","_law_name"] 88 (spM K 3 gb):=aV E 85 ["_law_tome","_law_kept_here","_law_name","_law_found_here"] fun B S hr=>(ax (aQ (i:=3) S.nd (aH (ai aB ap))) (ax (XO.Fb (cs:=fun _=>C) (c0:=0) (au (aQ (i:=3) S.nd (fA (Ax E) hr (ag 0) (ag 1) (ag 2)))) (XO.Hk (Ae E) (hr.mono (by omega)) rfl (ai (ag 0) (ai (ag 1) (ai (ag 2) ap))) (a7 (a7 (a7 bX)))) (fun ρ T c T' e=>Af e) B.xj.c B.xm fun e=>(au (aQ (i:=3) S.nd (aH (ai aB ap))))) (au (aC (ag 3)))))
theorem GC(F:Fun K "law" "law" (top 86) f fd):FnOk P w K mg base CX0 89 f fd ["_law_script"] (spM K 1 oB):=Jc E ["_law_script","_law_names_here","_law_tome","_law_kept_here","_law_good_here","_law_handed","_law_name","_law_found_here"] F fun B S hr=>(ax (E9 (i:=1) (j:=2) (k:=3) S.nd (aX (AA E) hr (ag 0) (dD aU (kJ (bA E) (iu E) (hr.mono (by omega)) (hr.mono (by omega)) rfl rfl (ai (ag 0) (ai aj ap)) (a7 (a7 bX)) (ai aj ap) (a7 (a7 bX))) aj))) (ax (aQ (i:=4) S.nd (aW (sZ E) hr (ag 2))) (ax (aQ (i:=5) S.nd (aH (ai (aH (ai (qS B.z (ao aq (ag 2) aj)) (ai (qS B.z (ao aq (ag 2) aj)) ap))) (ai (qS B.z (ag 3)) ap)))) (ax (dC (i:=6) S.nd (bO (aR bj (ag 1) (cw (ai aB ap)))) (ax (aQ (i:=7) S.nd (fA (AC E) hr (ao aq (ag 5) aj) (ao aq (ag 5) aj) (ag 6))) (au (aI (aE (iE hr) (ag 6) (ao aq (ag 2) aj)) (au (aI (aE (jL hr) (ag 7) (aH (ai aB ap))) (au (aC ff)) aK)) (au (aI (aE (jL hr) (ag 7) (gI (Ao E) hr (ag 2) (ag 4) (ag 3) (ag 6))) (au (aC ff)) (au (aI (aE ia (dD sA (ag 7) gr) (fA (C7 E) hr (ag 2) (ag 3) (ag 6))) (au (aC ff)) (au (aI (bV (dB (aE v5 (ag 7) gr) (dM (c5 (bv (bK .tup B.z (ag 7) B.z boot_tuple)))))) (au (aC ff)) aK)))))))))) (au (aC (dD (Ip hr) (ag 5) (aH (ai (ag 2) (ai (ag 3) ap))))))))))
end
theorem all_mk{l:PySem.W.OpenLaw}{w:World}{K:Frag}{h:Heap}{mg:Str->Option Value}{fa:Addr}(X:K.In h)(G:h.Ns mainGlobals mg)(hfa:mg "law"=some (.ref fa))(d:DfL K top zS)(z:ZL K zZ)(i:IL K zI)(s:SL K zT){C R:Addr}(qC:PySem.W.nsIn K mainGlobals "NoThing"=some (some (.ref C)))(xj:XO.XB0 K C R){a_GETTING:Addr}{o_GETTING:Obj}(u_GETTING:PySem.W.nsIn K mainGlobals "GETTING"=some (some (.ref a_GETTING)))(l_GETTING:K.lookup a_GETTING=some o_GETTING)(v_GETTING:oQ o_GETTING ["want","peek"]=true){a_LACKS:Addr}{o_LACKS:Obj}(u_LACKS:PySem.W.nsIn K mainGlobals "LACKS"=some (some (.ref a_LACKS)))(l_LACKS:K.lookup a_LACKS=some o_LACKS)(v_LACKS:oQ o_LACKS ["lacks"]=true)
  (hm:∀ns:List Int,ns.length<=63->∃T',oB [.d (jz ns)] []=some (.bool true,T')) :
  ∃fd:FuncData,(∀(s:Shared) (v:Value),BindsTo s fd ⟨[v],[]⟩ [("_law_script",v)])/\∀base:Heap,K.In base->base.Ns mainGlobals mg->FnOk l.prog w K mg base CX0 89 fa fd ["_law_script"] (ot K):=by
 obtain⟨f0,oc,od,an,sl,kV,dc,pm,cd,ct,a,lk,c,kp⟩:=(d.at (x:="law") (i:=86) (by decide +kernel)).ex;cases hfa.symm.trans (PySem.W.mg_of X G a);exact⟨PySem.W.fnOf "law" "law" (dz (top 86)) (bY (top 86)) (a9 (top 86)) .none kV dc pm an cd ct,fun s v=>.of_eq rfl,fun base _ _=>De (GC ⟨⟨_,X,G⟩,⟨Je X G z i s,xj,PySem.W.mg_of X G qC,⟨_,PySem.W.mg_of X G u_GETTING,ud l_GETTING v_GETTING⟩,⟨_,PySem.W.mg_of X G u_LACKS,ud l_LACKS v_LACKS⟩⟩,d⟩ (rC (st:=top 86) lk c kp)) (BK hm)⟩
theorem walk{l:PySem.W.OpenLaw}{XP:(Str->Option Value)->Heap->Prop}{YP:World->Heap->Prop}{d:DefRec}{K:Params->Frag}(hn:l.most=some 63)(hdf:d.params.defaults=[])
  (hY:∀(w:World) (h:Heap),YP w h->(K w.params).In h)
  (F:∀(w:World) (mg:Str->Option Value) (fa:Addr) (h:Heap),(K w.params).In h->h.Ns mainGlobals mg->mg d.name=some (.ref fa) ->
   ∃fd:FuncData,(∀(s:Shared) (u:Value),BindsTo s fd ⟨[u],[]⟩ [("_law_script",u)])/\∀base:Heap,(K w.params).In base->base.Ns mainGlobals mg->FnOk l.prog w (K w.params) mg base CX0 89 fa fd ["_law_script"] (ot (K w.params))) :
  PySem.W.WalkO q loose XP YP l.row.toRowW d [] (fun f vs=>PySem.call f vs):=L2.DN (n:=63) (k:=89) (x:="_law_script") (CX:=fun _=>CX0) (sp:=fun w=>ot (K w.params)) hn (by decide) hdf ⟨rfl,by decide,by decide,rfl⟩ hY F (fun _ _ a ns hl _ hS=>⟨a,ns,rfl,hS,hl,fun _=>rfl⟩) fun _ _ _ _ _ z=>z
open PySem PySem.Spec PySem.Calls PySem.W PyProof.Rows PySem.W.X PySem.W.ZRun
theorem walkZ{q:Program}{loose:List Str}{XP:(Str->Option Value)->Heap->Prop}{K:Params->Frag}{r:RowW}{d:DefRec}{kwd:List (Str×Expr)}
  {w:World}{s₀ s₁:Shared}{mg mb:Str->Option Value}{a:Addr}{o:Obj}{pm cd doc dV kV:Value}{args:List WData}{vals:List Value}{as:List Addr}
  (KX:(K w.params).In s₁.heap) (GR:Ground q loose r.records XP w s₀ mg mb s₁.heap) (ho:s₁.heap.get? a=some o)
  (hd:o.data=.func { docDef d.name d.params d.body d.scope pm cd doc with defaults:=dV,kwdefaults:=kV }) (hcd:s₁.heap.CodeRec cd d.name) (hD:Dflts mg s₁.heap d.params kwd dV kV) (hmg:mg d.name=some (.ref a)) (hg:s₁.gens = #[])
  (hpre:r.claim.pre args=true) (hlay:WData.layableAll args=true) (hrd:ReadsAllW r.records (classAt s₀.heap) s₁.heap vals args as) (hwl:WellAll w.params s₁.heap vals args) (hlo:∀a∈as,(a == sysModules)=false)
  (W:PySem.W.WalkO q loose XP (fun w h=>(K w.params).In h) r d kwd fun f vs=>PySem.call f vs) :
  wpAny (model r.prog w) callerA (PySem.call (.ref a) vals) (fun v s'=>GoodWG r.claim (classAt s₀.heap) (ExcName.means s₀.heap) args s₁ (.ok (.ret v)) s')
    (fun e s'=>GoodWG r.claim (classAt s₀.heap) (ExcName.means s₀.heap) args s₁ (.error e) s') s₁:=W w s₀ s₁ mg mb GR KX a o pm cd doc dV kV ho hd hcd hD hmg hg args vals as hpre hlay hrd hwl hlo
end G
namespace PySem.W.Fast
def tw9534454761697684047:=()
def tw7984856027494076428:=()
def tw17151201234175159049:=()
def tw11573759530398538181:=()
def tw10171394857351929063:=()
def tw6792574747901207023:=()
def tw7861376064220906443:=()
def tw1046805408709917135:=()
def tw2303421398035252640:=()
def tw13446708214444743777:=()
def tw3781262884831754790:=()
def tw8359688495012566156:=()
def tw1882673427259792148:=()
def tw12566778055712830607:=()
def tw11620303938045377164:=()
def tw1662522390971944600:=()
def tw4036674914300549717:=()
def tw15020703613381739422:=()
def tw3736593280976124306:=()
def tw7403728522425073158:=()
def tw15661476247517354216:=()
def tw2106204845450627827:=()
def tw6751696325469965131:=()
def tw8719369119228631652:=()
def tw3928231176546409524:=()
def tw4030585134185691411:=()
def tw10325430933389853727:=()
def tw6911829008485278204:=()
def tw12197311159969793733:=()
def tw16351808887962309708:=()
def tw8213609776114480608:=()
def tw6213918313033017024:=()
def tw3123704275962819551:=()
def tw5747531188991125590:=()
def tw12036792081731282136:=()
def tw2574168374457501397:=()
def tw9761722138878702399:=()
def tw10735294226570063485:=()
def tw14969563374500287119:=()
def tw6667588282563621092:=()
def tw9581056524300118040:=()
def tw18043763525077288774:=()
def tw4254678328923710894:=()
def tw2537043729220901251:=()
def tw14329671754370594819:=()
def tw5000316055945976023:=()
def tw11005293246610663891:=()
def tw9400932874147282511:=()
def tw17126830208695296594:=()
def tw1296548217319295226:=()
def tw12073806641521890339:=()
def tw12185141406434290657:=()
def tw16935306969922754540:=()
def tw10720176617170566569:=()
def tw6223813635680245449:=()
def tw3397191217342785680:=()
def tw16017127399429826489:=()
def tw11682176992343919558:=()
def tw17123713683146000164:=()
def tw9135681544609729004:=()
def tw4664544650671626534:=()
def tw15159198006808321451:=()
def tw2922873475983212934:=()
def tw18188295493176333723:=()
def tw14051778489332938510:=()
def tw3568024959068468847:=()
def tw3620584714420359962:=()
def tw1071569319149006042:=()
def tw17806468365721471085:=()
def tw16917976267901028216:=()
def tw12297582975778883374:=()
def tw12266068937989007538:=()
def tw15725282293024472333:=()
def tw11394929811671789732:=()
def tw13248208353385468770:=()
def tw746489910610531336:=()
def tw15438544324600710466:=()
def tw18317203959573663232:=()
def tw14112938681429881227:=()
def tw13849514562088039489:=()
def tw3883183908393698684:=()
def tw2610847929880860062:=()
def tw11961812153828258826:=()
def tw10100824158638290841:=()
def tw5039833976599654211:=()
def tw7353205331401816963:=()
def tw16461621279357941884:=()
def tw14015786344820316308:=()
def tw17090861856314434801:=()
def tw11483952011699355016:=()
def tw17112768651766109844:=()
def tw11726336908404539516:=()
def tw10028336405025926290:=()
def tw15907036652885620890:=()
def tw10742865242885618132:=()
def tw7524744778935252385:=()
def tw15816886726547647548:=()
def tw9648489620099226613:=()
def tw14351626382939745469:=()
def tw10427813459369538053:=()
def tw14458366607391090126:=()
def tw10966707460583403606:=()
def tw2514550722558395583:=()
def tw8796176918804554656:=()
def tw11235323116333596447:=()
def tw2514442095843480363:=()
def tw12929085909364701570:=()
def tw15392919203264051435:=()
def tw7935034350213499336:=()
def tw10202379347518235731:=()
def tw11439609162912545109:=()
def tw9695801182745693988:=()
def tw1410198131027241267:=()
def tw9196722310860625341:=()
def tw12812150986575714330:=()
def tw5088936561346133669:=()
def tw8698494333203484625:=()
def tw10826036909748794907:=()
def tw17980893974345830916:=()
def tw16864932838510377991:=()
def tw13714487462679977998:=()
def tw11981382105756589488:=()
def tw13154804456543293136:=()
def tw10896143132282393613:=()
def tw6274448141686728089:=()
def tw3720039620737141309:=()
def tw13947340007039069375:=()
def tw18194319185533610337:=()
def tw2925568337563771797:=()
def tw17539491313541154436:=()
def tw7790662139016494072:=()
def tw15235106188074983005:=()
def tw7023312549635662365:=()
def tw4004656534089464119:=()
def tw11728770641592435548:=()
def tw3502335841837508257:=()
def tw14288729942993309236:=()
def tw10261045538754167358:=()
def tw15146026163094035479:=()
def tw6419984478863078937:=()
def tw11429293764099857020:=()
def tw13945960303822215901:=()
def tw17981317985974142941:=()
def tw15607886295830632429:=()
def tw194455658447925951:=()
def tw14068107947270282069:=()
def tw13397779467888009667:=()
def tw15047906346052400241:=()
def tw2319345857318897456:=()
def tw17804736308300240120:=()
def tw4201518788406871198:=()
def tw691357846481127033:=()
def tw3351091864480701177:=()
def tw3735126592979969026:=()
def tw902893090365298238:=()
def tw5790381966074995548:=()
def tw7374351103445067534:=()
def tw1120882615446452599:=()
def tw12856162686165121412:=()
def tw10318397707998731404:=()
def tw5995138461832582762:=()
def tw12108245468779875149:=()
def tw4728907465095567174:=()
def tw8627113041158203757:=()
def tw11392290935902885062:=()
def tw4126359310053087556:=()
def tw18148650940498880571:=()
def tw413383105033683824:=()
def tw9347187064019118725:=()
def tw13716407855910250284:=()
def tw17953395681530421799:=()
def tw7136723632363259217:=()
def tw4534217885259643637:=()
def tw5337410700534616660:=()
def tw1568258484920274681:=()
def tw2708319974607022148:=()
def tw7413174097452964171:=()
def tw8756870135302893305:=()
def tw11844971346170916649:=()
def tw17631002292467489373:=()
def tw3279902476718586482:=()
def tw9046096597778649104:=()
def tw835784134070121298:=()
def tw12637139679406634927:=()
def tw5222043548534200374:=()
def tw11012880974352420590:=()
def tw16212036489700140401:=()
def tw4854582197037028639:=()
def tw16161759232208889638:=()
def tw8909562042995372404:=()
def tw15050916169847651282:=()
def tw1213252075551757765:=()
def tw7914773983454480600:=()
def tw6483714462000708937:=()
def tw1284453232496821653:=()
def tw17185675989239540358:=()
def tw3031725490016504845:=()
def tw15024976191678694888:=()
def tw4690792516769929476:=()
def tw8604217024673174974:=()
def tw11797653011011750273:=()
def tw14954256173626430088:=()
def tw9450447331448008609:=()
def tw14308987602487747207:=()
def tw461279248306712481:=()
def tw16676167582647708043:=()
def tw6554731083620962835:=()
def tw11252015009171341016:=()
def tw12470910545580416147:=()
def tw11954245793422417459:=()
def tw92563181176262590:=()
def tw9889976945915618616:=()
def tw116154175633711473:=()
def tw192216911645079925:=()
def tw9029528798050959273:=()
def tw13879912882297107128:=()
def tw12513015851846998127:=()
def tw10919781689895743841:=()
def tw17844823049157601931:=()
def tw9139051609663620934:=()
def tw14784750995699743177:=()
def tw3728712818346981228:=()
def tw15410772215918380237:=()
def tw5940623010976497856:=()
def tw3610854034461880329:=()
def tw6804048707703198513:=()
def tw16281265164342605986:=()
def tw15146862410988703103:=()
def tw7762049320702509387:=()
def tw8984659632201056534:=()
def tw8950142284173733515:=()
def tw15681997025848844768:=()
def tw10270084832143333235:=()
def tw11255462996037246606:=()
def tw5031176785976339235:=()
def tw4205551046138948661:=()
def tw15383694344447172160:=()
def tw3266754093485631887:=()
def tw8960742434560485141:=()
def tw8286843383069229295:=()
def tw15218062500103699221:=()
def tw2474657389566251001:=()
def tw12319350437498233916:=()
def tw5454388062317670477:=()
def tw18302988407797842379:=()
def tw4061362300571981817:=()
end PySem.W.Fast
noncomputable def PySem.W.Fast.tw4030339387118238123 : PySem.Program := PySem.Challenge.pw_redo_k44_reasons_why_it_fell
theorem PySem.W.Fast.te4030339387118238123 : PySem.Challenge.pw_redo_k44_reasons_why_it_fell = PySem.W.Fast.tw4030339387118238123 := rfl

open PySem PySem.W PyProof.Rows PySem.W.X PySem.W.ZRun
set_option maxRecDepth 100000 in
set_option maxHeartbeats 0 in
theorem PySem.Challenge.cw_redo_k44_reasons_why_it_fell_holds : PySem.Challenge.rw_redo_k44_reasons_why_it_fell.Holds := by
 w_on; o_law; z_head; (case hw=>w_witness2)
 k_fill
 intro w s₀ s₁ mg mb GR y fa o pm cd doc dV kV ho hd hcd hD hmg hg args vals as L hpre hlay hrd hwl hlo
 z_open y L KX ZH ZN ZT
 clear ZH ZN ZT
 refine G.walkZ KX GR ho hd hcd hD hmg hg hpre hlay hrd hwl hlo ?W
 clear KX GR ho hd hcd hD hmg hg hpre hlay hrd hwl hlo L y
 refine G.walk (l:=PySem.Challenge.rw_redo_k44_reasons_why_it_fell) rfl rfl (fun w h Y=>Y) ?F
 case F=>
  intro w mg fa h KX GG hmg
  refine' G.all_mk KX GG hmg ?_ ?_ ?_ ?_ ?_ ?_ ?_ ?_ ?_ ?_ ?_ ?_ G.CY
  any_goals repeat' first | exact True.intro | refine' D.Dp ?_ ?_ | refine' D.DM ?_ ?_ | refine' D.ES ?_ ?_ | refine' D.D1 ?_ ?_
  any_goals first | (refine' XO.FJ ?e1 ?e2 ?e3 ?e4 ?e5 ?e6 ?e7 ?e8 ?e9; (case e1=>k_is); (case e2=>k_is); (case e3=>k_is); (case e4=>k_is); (case e5=>k_is); (case e6=>k_is); (case e7=>k_is); (case e8=>rfl); (case e9=>rfl)) | (refine' D.IZ ?a ?l ?c ?k; (case a=>k_is); (case l=>k_is); (case c=>k_is); (case k=>k_is)) | k_is
  all_goals first | rfl | decide +kernel
