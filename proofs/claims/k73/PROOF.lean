import PyProof.Rows.All
import Wide.All
import OpenK.AllK
import Wide.FinOn
import Lean
import PyProof.EqAt
import PyProof.EqKinds
import PyProof.TupleCall
import PySem.Challenge.RW_redo_k73_stale_lines
noncomputable section
open PySem.W (Frag)
set_option Elab.async false
set_option linter.all false
set_option maxRecDepth 100000
set_option compiler.extract_closed false
set_option bootstrap.genMatcherCode false
namespace Internal
namespace L2
open PySem PySem.Spec PyProof.Rows
abbrev Key:=Sum Int Str
def ej:Key->Value->Bool
 |.inl k,v=>Value.isInt k v
 |.inr x,v=>Value.isStrOf x v
def wW(w:World):Key->Int
 |.inl k=>hashInt k
 |.inr x=>hashStr w x
theorem dJ:∀{k:Key}{v:Value},ej k v=true->(∃i t,k=Sum.inl i/\v=Value.int i t)\/(∃x t,k=Sum.inr x/\v=Value.str x t)
 |.inl i,v,h=>by
  obtain⟨t,e⟩:=Value.isInt_shape (k:=i) (v:=v) h;exact .inl ⟨i,t,rfl,e⟩
 |.inr x,v,h=>by
  obtain⟨t,e⟩:=Value.isStrOf_shape (x:=x) (v:=v) h;exact .inr ⟨x,t,rfl,e⟩
theorem zg(i:Int)(t:Tok):ej (.inl i) (.int i t)=true:=by simp[ej,Value.isInt]
theorem zf(x:Str)(t:Tok):ej (.inr x) (.str x t)=true:=by simp[ej,Value.isStrOf]
theorem uZ(a b:Int):decide ((Sum.inl a:Key)=Sum.inl b)=(a == b):=by
 by_cases e:a=b
 .subst e;simp
 .have h:¬(Sum.inl a:Key)=Sum.inl b:=fun q=>e (Sum.inl.inj q)
  rw[decide_eq_false h];exact(beq_eq_false_iff_ne.mpr e).symm
theorem uW(a b:Str):decide ((Sum.inr a:Key)=Sum.inr b)=decide (a=b):=by
 by_cases e:a=b
 .subst e;simp
 .have h:¬(Sum.inr a:Key)=Sum.inr b:=fun q=>e (Sum.inr.inj q)
  rw[decide_eq_false h,decide_eq_false e]
theorem uY(a:Int)(b:Str):decide ((Sum.inl a:Key)=Sum.inr b)=false:=decide_eq_false (fun q=>nomatch q)
theorem uX(a:Str)(b:Int):decide ((Sum.inr a:Key)=Sum.inl b)=false:=decide_eq_false (fun q=>nomatch q)
def bq(prog:Program)(w:World):PySem.KeyKind prog w Key where
 is:=ej
 hash:=wW w
 inj:=fun v a b ha hb=>by
  rcases dJ ha with⟨i,t,rfl,rfl⟩|⟨x,t,rfl,rfl⟩
  .rcases dJ hb with⟨j,u,rfl,e⟩|⟨y,u,rfl,e⟩
   .injection e with e1 _;rw[e1]
   .exact nomatch e
  .rcases dJ hb with⟨j,u,rfl,e⟩|⟨y,u,rfl,e⟩
   .exact nomatch e
   .injection e with e1 _;rw[e1]
 byValue:=fun k v h=>by
  rcases dJ h with⟨i,t,rfl,rfl⟩|⟨x,t,rfl,rfl⟩ <;> rfl
 pyHash:=fun hv h=>by
  rcases dJ hv with⟨i,t,rfl,rfl⟩|⟨x,t,rfl,rfl⟩
  .exact wpAny_pyHash_int h
  .exact wpAny_pyHash_str h
 eqBool:=fun hu hv h=>by
  rcases dJ hu with⟨i,t,rfl,rfl⟩|⟨x,t,rfl,rfl⟩
  .rcases dJ hv with⟨j,u,rfl,rfl⟩|⟨y,u,rfl,rfl⟩
   .rw[uZ] at h;exact wpAny_eqBool_int h
   .rw[uY] at h;exact SeqAt.EqAt.int_str i t y u _ _ _ _ h
  .rcases dJ hv with⟨j,u,rfl,rfl⟩|⟨y,u,rfl,rfl⟩
   .rw[uX] at h;exact SeqAt.EqAt.str_int x t j u _ _ _ _ h
   .rw[uW] at h;exact wpAny_eqBool_str h
 «strs»:=fun k x t v h=>by
  rcases dJ h with⟨i,u,rfl,e⟩|⟨y,u,rfl,e⟩
  .exact nomatch e
  .injection e with e1 _
   subst e1
   cases v <;> rfl
theorem xU(prog:Program)(w:World)(i:Int)(t:Tok):(bq prog w).is (.inl i) (.int i t)=true:=zg i t
theorem xT(prog:Program)(w:World)(x:Str)(t:Tok):(bq prog w).is (.inr x) (.str x t)=true:=zf x t
inductive V where
 |non|bl (b:Bool)|int (i:Int)|str (x:Str)|byt (b:Array UInt8)|flt (b:UInt64)|ref (a:Addr)|ty (n:String)
 deriving DecidableEq
def RelV:V->Value->Prop
 |.non,u=>u=Value.none
 |.bl b,u=>u=Value.bool b
 |.int i,u=>∃t,u=Value.int i t
 |.str x,u=>∃t,u=Value.str x t
 |.byt b,u=>∃t,u=Value.bytes b t
 |.flt b,u=>∃t,u=Value.float b t
 |.ref a,u=>u=Value.ref a
 |.ty n,u=>u=Value.type n
abbrev Vals:List V->List Value->Prop:=Paired RelV
theorem Vals.length{xs:List V}{us:List Value}(r:Vals xs us):xs.length=us.length:=Paired.length r
theorem Vals.get:∀{xs:List V}{us:List Value}{i:Nat}{x:V},Vals xs us->xs[i]? = some x->∃u,us[i]? = some u/\RelV x u
 |_,_,_,_,.nil,e=>by simp at e
 |_,_,0,_,.cons r _,e=>by simp at e;subst e;exact⟨_,rfl,r⟩
 |_,_,i+1,x,.cons _ t,e=>by
  obtain⟨u,h1,h2⟩:=Vals.get (i:=i) (x:=x) t (by simpa using e);exact⟨u,by simpa using h1,h2⟩
theorem Vals.append:∀{xs ys:List V}{us ws:List Value},Vals xs us->Vals ys ws->Vals (xs++ys) (us++ws)
 |_,_,_,_,.nil,s=>s
 |_,_,_,_,.cons r t,s=>.cons r (Vals.append t s)
theorem Vals.take:∀{xs:List V}{us:List Value} (n:Nat),Vals xs us->Vals (xs.take n) (us.take n)
 |_,_,0,_=>.nil
 |_,_,_+1,.nil=>.nil
 |_,_,n+1,.cons r t=>.cons r (Vals.take n t)
theorem Vals.drop:∀{xs:List V}{us:List Value} (n:Nat),Vals xs us->Vals (xs.drop n) (us.drop n)
 |_,_,0,r=>r
 |_,_,_+1,.nil=>.nil
 |_,_,n+1,.cons _ t=>Vals.drop n t
def RelO:Option V->Option Value->Prop
 |some v,some u=>RelV v u
 |none,none=>True
 |_,_=>False
def KV{κ:Type}:List (κ×V)->List (κ×Value)->Prop:=Paired fun(p:κ×V) (q:κ×Value)=>p.1=q.1/\RelV p.2 q.2
def kV:Key->V
 |.inl i=>.int i
 |.inr x=>.str x
inductive HO where
  |lst (xs:List V)
  |tup (xs:List V)
  |dK (kvs:List (Key×V))|dT (kvs:List (List Key×V))
  |set (S:Int->Bool) (n:Nat)
  |ins (C dx:Addr) (fs:List (Str×V))
  |own (x:Addr)
  |xd (fs:List (Str×V))
  |met (f x:Addr)
  |rng (lo hi:Int)
  |frz (o:Obj) (u:HO)
  |tbl (ps:Array Value)
  |ext (φ:Heap->Prop)
abbrev Hp:=Addr->Option HO
def upd(H:Hp)(a:Addr)(o:HO):Hp:=fun b=>if b=a then some o else H b
theorem bC{H:Hp}{a:Addr}{o:HO}:upd H a o a=some o:=by unfold upd;rw[if_pos rfl]
theorem aP{H:Hp}{a b:Addr}{o:HO}(h:b≠a):upd H a o b=H b:=by unfold upd;rw[if_neg h]
theorem AZ{H:Hp}{a:Addr}{o u:HO}:upd (upd H a o) a u=upd H a u:=by funext b;unfold upd;split <;> rfl
theorem Ew{H:Hp}{a b:Addr}{o u:HO}(h:H a=some o)(h':H b=some u)(d:o≠u):a≠b:=by intro e;subst e;rw[h] at h';exact d (Option.some.inj h')
theorem dt{H:Hp}{a b:Addr}{o:HO}(h:H a=some o)(h':H b=none):a≠b:=by intro e;subst e;rw[h] at h';cases h'
section
variable (P:Program)(w:World)
def ObjOk(H:Hp)(h:Heap)(a:Addr):HO->Prop
 |.lst xs=>xs.length<=sizeLine/\∃(its:List Value) (n:Nat),Vals xs its/\h.get? a=some { cls:=.type "list",data:=.seq its.toArray n }
 |.tup xs=>xs.length<=sizeLine/\∃its:List Value,Vals xs its/\IsTup h a its.toArray
 |.dK kvs=>kvs.length<=sizeLine/\(a == sysModules)=false/\∃vs,KV kvs vs/\h.DictOf (bq P w) a vs
 |.dT kvs=>kvs.length<=sizeLine/\(a == sysModules)=false/\∃xs:List (List Key×Addr×Value),
   Paired (fun(p:List Key×V) (q:List Key×Addr×Value)=>p.1=q.1/\H q.2.1=some (.tup (p.1.map kV))/\RelV p.2 q.2.2) kvs xs /\
   ∃o es ep,h.get? a=some o/\o.ExactDict/\o.data=.dict es ep/\es.toList=xs.map (entryOfKey (tupleKind (bq P w)))/\(xs.map (·.1)).Nodup
 |.set S n=>h.SetOf (intKind P w) a S n
 |.ins C dx fs=>H dx=some (.own a)/\fs.length<=1000/\dx≠a/\h.get? a=some (PySem.W.instObj C dx) /\
   ∃mA,h.Ns1 dx mA/\(∀f,RelO (fs.lookup f) (mA f))/\PySem.Within mA (fs.map (·.1))
 |.own _=>∃o,h.get? a=some o
 |.xd fs=>∃mA,h.Ns1 a mA/\∀f,RelO (fs.lookup f) (mA f)
 |.rng lo hi=>∃t u v,h.get? a=some { cls:=.type "range",data:=.fields #[.int lo t,.int hi u,.int 1 v] }
 |.frz o u=>h.get? a=some o/\ObjOk H h a u
 |.tbl ps=>h.get? a=some { cls:=.none,data:=.fields ps }
 |.met f x=>h.get? a=some (PySem.W.methodObj (.ref f) (.ref x))
 |.ext φ=>φ h/\(∃o,h.get? a=some o)/\∀h1 h2:Heap,φ h1->(∀o,h1.get? a=some o->h2.get? a=some o)->φ h2
def HOk(H:Hp)(h:Heap):Prop:=∀a o,H a=some o->ObjOk P w H h a o
end
section
variable {P:Program}{w:World}{H H':Hp}{h h':Heap}{a:Addr}{o:HO}
theorem ObjOk.lt(x:ObjOk P w H h a o):a<h.objs.size:=by
 cases o with
 |lst xs=>obtain⟨_,_,_,_,e⟩:=x;exact Heap.lt_size e
 |tup xs=>obtain⟨_,_,_,p⟩:=x;exact p.lt
 |dK kvs=>obtain⟨_,_,_,_,o,_,_,e,_⟩:=x;exact Heap.lt_size e
 |dT kvs=>obtain⟨_,_,_,_,o,_,_,e,_⟩:=x;exact Heap.lt_size e
 |set S n=>obtain⟨o,_,_,_,e,_⟩:=x;exact Heap.lt_size e
 |ins C dx fs=>obtain⟨_,_,_,e,_⟩:=x;exact Heap.lt_size e
 |own y=>obtain⟨_,e⟩:=x;exact Heap.lt_size e
 |xd fs=>obtain⟨_,⟨_,_,_,e,_⟩,_⟩:=x;exact Heap.lt_size e
 |rng lo hi=>obtain⟨_,_,_,e⟩:=x;exact Heap.lt_size e
 |frz ob u=>obtain⟨e,_⟩:=x;exact Heap.lt_size e
 |tbl ps=>exact Heap.lt_size (show h.get? a=some _ from x)
 |met f y=>exact Heap.lt_size (show h.get? a=some _ from x)
 |ext φ=>obtain⟨_,⟨_,e⟩,_⟩:=x;exact Heap.lt_size e
theorem Paired.mapP{α β:Type}{F G:α->β->Prop}:∀{l₁:List α}{l₂:List β},Paired F l₁ l₂->(∀a b,F a b->G a b)->Paired G l₁ l₂
 |_,_,.nil,_=>.nil
 |_,_,.cons r t,f=>.cons (f _ _ r) (Paired.mapP t f)
theorem ObjOk.stay(x:ObjOk P w H h a o)(k:∀b u,(b=a\/H b=some (.own a))->h.get? b=some u->h'.get? b=some u)
  (ho:∀b,H b=some (.own a)->H' b=some (.own a)) (ht:∀b xs,H b=some (.tup xs)->H' b=some (.tup xs)):ObjOk P w H' h' a o:=by
 induction o with
 |lst xs=>obtain⟨z,its,n,r,e⟩:=x;exact⟨z,its,n,r,k _ _ (.inl rfl) e⟩
 |tup xs=>obtain⟨z,its,r,ob,e,c⟩:=x;exact⟨z,its,r,ob,k _ _ (.inl rfl) e,c⟩
 |dK kvs=>obtain⟨z,y,vs,r,ob,es,ep,e,c⟩:=x;exact⟨z,y,vs,r,ob,es,ep,k _ _ (.inl rfl) e,c⟩
 |dT kvs=>
  obtain⟨z,y,xs,r,ob,es,ep,e,c⟩:=x;exact⟨z,y,xs,Paired.mapP r fun p q z=>⟨z.1,ht _ _ z.2.1,z.2.2⟩,ob,es,ep,k _ _ (.inl rfl) e,c⟩
 |set S n=>obtain⟨ob,es,ep,t,e,c⟩:=x;exact⟨ob,es,ep,t,k _ _ (.inl rfl) e,c⟩
 |ins C dx fs=>
  obtain⟨d,z,ne,e,mA,⟨od,es,ep,e2,c⟩,r⟩:=x;exact⟨ho _ d,z,ne,k _ _ (.inl rfl) e,mA,⟨od,es,ep,k _ _ (.inr d) e2,c⟩,r⟩
 |own y=>obtain⟨ob,e⟩:=x;exact⟨ob,k _ _ (.inl rfl) e⟩
 |xd fs=>obtain⟨mA,⟨od,es,ep,e,c⟩,r⟩:=x;exact⟨mA,⟨od,es,ep,k _ _ (.inl rfl) e,c⟩,r⟩
 |rng lo hi=>obtain⟨t,u,v,e⟩:=x;exact⟨t,u,v,k _ _ (.inl rfl) e⟩
 |frz ob u ih=>obtain⟨e,q⟩:=x;exact⟨k _ _ (.inl rfl) e,ih q⟩
 |tbl ps=>
  have e:h.get? a=some { cls:=.none,data:=.fields ps }:=x;show h'.get? a=some { cls:=.none,data:=.fields ps };exact k a _ (.inl rfl) e
 |met f y=>
  have e:h.get? a=some (PySem.W.methodObj (.ref f) (.ref y)):=x;show h'.get? a=some (PySem.W.methodObj (.ref f) (.ref y));exact k a _ (.inl rfl) e
 |ext φ=>obtain⟨p,⟨o,e⟩,st⟩:=x;exact⟨st _ _ p fun o q=>k _ _ (.inl rfl) q,⟨o,k _ _ (.inl rfl) e⟩,st⟩
theorem HOk.lt(x:HOk P w H h)(e:H a=some o):a<h.objs.size:=(x a o e).lt
theorem HOk.fresh(x:HOk P w H h)(e:h.objs.size<=a):H a=none:=by
 cases q:H a with
 |none=>rfl
 |some u=>exact absurd (Nat.lt_of_lt_of_le (x.lt q) e) (Nat.lt_irrefl _)
theorem HOk.kept(x:HOk P w H h)(k:∀b u,h.get? b=some u->h'.get? b=some u):HOk P w H h':=fun a o e=>
 (x a o e).stay (fun b u _ q=>k b u q) (fun _ q=>q) fun _ _ q=>q
theorem HOk.laid(x:HOk P w H h)(k:∀b u,h.get? b=some u->h'.get? b=some u)(hp:h.objs.size<=a)(new:ObjOk P w (upd H a o) h' a o):HOk P w (upd H a o) h':=fun b u e=>by
 have hn:=x.fresh hp
 by_cases hb:b=a
 .subst hb;rw[bC] at e;cases e;exact new
 .rw[aP hb] at e
  exact(x b u e).stay (fun c v _ q=>k c v q) (fun c q=>by rw[aP (dt q hn)];exact q) fun c xs q=>by rw[aP (dt q hn)];exact q
end
def Rd(H:Hp)(a:Addr)(u:HO):Prop:=H a=some u\/∃o,H a=some (.frz o u)
theorem Rd.ok{P:Program}{w:World}{H:Hp}{h:Heap}{a:Addr}{u:HO}(r:Rd H a u)(x:HOk P w H h):ObjOk P w H h a u:=by
 rcases r with r|⟨o,r⟩
 .exact x a u r
 .obtain⟨_,q⟩:=x a _ r
  exact q
def Mut:Option HO->Prop
 |some (.lst _)=>True
 |some (.dK _)=>True
 |some (.dT _)=>True
 |some (.set _ _)=>True
 |some (.ins _ _ _)=>True
 |some (.ext _)=>True
 |_=>False
section
variable {P:Program}{w:World}{H:Hp}{h h':Heap}{x e:Addr}{o':HO}
theorem HOk.write(ok:HOk P w H h)(mu:Mut (H x))(he:e=x\/H e=some (.own x))(k:∀b u,b≠e->h.get? b=some u->h'.get? b=some u)(heo:∃u,h'.get? e=some u)
  (new:ObjOk P w (upd H x o') h' x o'):HOk P w (upd H x o') h':=fun b u q=>by
 have nown:∀c y,H c=some (.own y)->c≠x:=fun c y r z=>by subst z;rw[r] at mu;exact mu
 have ntup:∀c xs,H c=some (.tup xs)->c≠x:=fun c xs r z=>by subst z;rw[r] at mu;exact mu
 by_cases hb:b=x
 .subst hb;rw[bC] at q;cases q;exact new
 .rw[aP hb] at q
  by_cases hbe:b=e
  .have q':H b=some (.own x):=by
    rcases he with z|z
    .exact absurd (hbe.trans z) hb
    .rw[hbe];exact z
   rw[q] at q';cases q';obtain⟨v,hv⟩:=heo;exact⟨v,by rw[hbe];exact hv⟩
  .refine(ok b u q).stay (fun c v hc r=>k c v ?_ r) (fun c r=>by rw[aP (nown c b r)];exact r) fun c xs r=>by rw[aP (ntup c xs r)];exact r
   rcases hc with rfl|hc
   .exact hbe
   .rintro rfl
    rcases he with z|z
    .exact nown c b hc z
    .rw[hc] at z;cases z;exact hb rfl
end
structure Un(fs ex:List Addr)(H H':Hp)(h h':Heap):Prop where
 keep:∀b o,h.get? b=some o->H b=none->b∉fs->b∉ex->h'.get? b=some o
 slot:∀b o,h.get? b=some o->H b=none->b∈fs->b∉ex->∃sl,h'.get? b=some { o with slots:=sl }
 free:∀b o,h.get? b=some o->H b=none->b∉ex->H' b=none
 there:∀b o,h.get? b=some o->b∉ex->∃o',h'.get? b=some o'
 tups:∀b xs,H b=some (.tup xs)->H' b=some (.tup xs)
 frzs:∀b o u,H b=some (.frz o u)->H' b=some (.frz o u)
 tbls:∀b ps,H b=some (.tbl ps)->∃more,H' b=some (.tbl (ps++more))
section
variable {fs fs' ex ex':List Addr}{H H1 H2:Hp}{h h1 h2 h':Heap}{a x e:Addr}{o:HO}
theorem Un.any(u:Un fs ex H H1 h h1){b:Addr}{ob:Obj}(q:h.get? b=some ob)(n:H b=none)(hx:b∉ex):∃sl,h1.get? b=some { ob with slots:=sl }:=by
 by_cases hb:b∈fs
 .exact u.slot b ob q n hb hx
 .exact⟨ob.slots,u.keep b ob q n hb hx⟩
theorem Un.kept(k:∀b u,h.get? b=some u->h'.get? b=some u):Un fs ex H H h h':=⟨fun b ob q _ _ _=>k b ob q,fun b ob q _ _ _=>⟨ob.slots,k b ob q⟩,fun _ _ _ n _=>n,fun b ob q _=>⟨ob,k b ob q⟩,fun _ _ q=>q,fun _ _ _ q=>q,fun _ ps q=>⟨#[],by rw[q];simp⟩⟩
theorem Un.refl:Un fs ex H H h h:=Un.kept fun _ _ q=>q
theorem Un.laid(k:∀b u,h.get? b=some u->h'.get? b=some u)(hp:h.objs.size<=a)(hn:H a=none):Un fs ex H (upd H a o) h h' where
 keep:=fun b u q _ _ _=>k b u q
 slot:=fun b u q _ _ _=>⟨u.slots,k b u q⟩
 free:=fun b u q n _=>by rw[aP (Nat.ne_of_lt (Nat.lt_of_lt_of_le (Heap.lt_size q) hp))];exact n
 there:=fun b u q _=>⟨u,k b u q⟩
 tups:=fun b xs q=>by rw[aP (dt q hn)];exact q
 frzs:=fun b u xs q=>by rw[aP (dt q hn)];exact q
 tbls:=fun b ps q=>⟨#[],by rw[aP (dt q hn),q];simp⟩
theorem Un.write(mu:Mut (H x))(he:e=x\/H e=some (.own x))(k:∀b u,b≠e->h.get? b=some u->h'.get? b=some u)(heo:∃u,h'.get? e=some u):Un fs ex H (upd H x o) h h':=by
 have hx:∀b,H b=none->b≠x:=fun b n z=>by subst z;rw[n] at mu;exact mu
 have hb:∀b,H b=none->b≠e:=fun b n z=>by
  subst z
  rcases he with r|r
  .exact hx b n r
  .rw[n] at r;cases r
 have hm:∀b u,H b=some u->¬Mut (some u)->b≠x:=fun b u q nm z=>by subst z;rw[q] at mu;exact nm mu
 refine⟨fun b u q n _ _=>k b u (hb b n) q,fun b u q n _ _=>⟨u.slots,k b u (hb b n) q⟩,fun b u q n _=>by rw[aP (hx b n)];exact n,fun b u q _=>?_,
  fun b xs q=>by rw[aP (hm b _ q fun z=>z)];exact q,fun b u xs q=>by rw[aP (hm b _ q fun z=>z)];exact q,fun b ps q=>⟨#[],by rw[aP (hm b _ q fun z=>z),q];simp⟩⟩
 by_cases hbe:b=e
 .subst hbe;exact heo
 .exact⟨u,k b u hbe q⟩
end
def trk(h:Heap)(H:Hp):List Addr:=(List.range h.objs.size).filter fun a=>(H a).isSome
def fK(h:Heap)(H:Hp):Heap:=PySem.W.hideAll h (trk h H)
theorem zo(h:Heap)(H:Hp):(fK h H).objs.size=h.objs.size:=PySem.W.hideAll_size _ _
theorem Au{h:Heap}{H:Hp}{b:Addr}{o:Obj}(e:h.get? b=some o)(n:H b=none):(fK h H).get? b=some o:=
 PySem.W.hideAll_get _ e fun hm=>by
  have q:(H b).isSome=true:=(List.mem_filter.mp hm).2;rw[n] at q;simp at q
theorem Bw{h:Heap}{H:Hp}{b:Addr}{o:Obj}(e:(fK h H).get? b=some o):h.get? b=some o/\H b=none:=by
 have e':h.get? b=some o:=PySem.W.of_hideAll (trk h H) e;refine⟨e',?_⟩
 cases q:H b with
 |none=>rfl
 |some x=>
  have hm:b∈trk h H:=List.mem_filter.mpr ⟨List.mem_range.mpr (Heap.lt_size e'),by simp[q]⟩;have z:(fK h H).get? b=none:=PySem.W.hideAll_none (trk h H) hm;rw[z] at e;cases e
def Ca(g h:Heap)(L:Addr):List (Addr×Obj):=(List.range h.objs.size).filterMap fun a=>if a=L\/(g.get? a).isSome=true then none else (h.get? a).map fun o=>(a,o)
def rest(g h:Heap)(L d:Addr):List (Addr×Obj):=(Ca g h L).filter fun p=>decide (p.1≠d)
structure Mod(K:Frag)(mg:Str->Option Value)(base:Heap):Prop where
 kin:K.In base
 glob:base.Ns mainGlobals mg
 blt:∃mb,base.Ns builtinsNs mb/\∀x:Str,x≠"__name__"->mb x=bootBuiltins x
 nolimit:base.NoLimit
structure Cx where
 prog:Program
 w:World
 K:Frag
 mg:Str->Option Value
 base:Heap
 A:Around
 N:List Str
 s₀:Shared
 H₀:Hp
 env:Env
 outer:List Env
 stack:List Env
 ex:List Addr
 fn:Str->Bool
 calm:Bool
 pn:List (Addr×Obj)
 xe:Value->Shared->Prop
def frs(l:List Env):List Addr:=l.filterMap (·.frame)
abbrev Cx.fs(X:Cx):List Addr:=frs X.outer
def Vis(sc:Scope)(x:Str):Prop:=sc.names.lookup x=some .local\/sc.names.lookup x=some .cell\/sc.names.lookup x=some .free
def Loc(sc:Scope)(x:Str):Prop:=sc.names.lookup x=some .local\/sc.names.lookup x=some .cell
def Look(env:Env)(h:Heap)(m:Str->Option Value)(x:Str)(u:Value):Prop:=(env.kindOf x=some .local/\m x=some u)\/((env.kindOf x=some .cell\/env.kindOf x=some .free)/\∃c,env.cells.lookup x=some c/\h.IsCell c (some u))
structure Cx.Ok(X:Cx):Prop where
 mod:Mod X.K X.mg X.base
 kind:X.env.scope.kind=.function
 glob:X.env.globals=mainGlobals
 blt:X.env.builtins=builtinsNs
 above:X.s₀.heap.objs.size<=X.env.locals
 inj:∀x y c,X.env.cells.lookup x=some c->X.env.cells.lookup y=some c->x=y
 has:∀x,(X.env.kindOf x=some .cell\/X.env.kindOf x=some .free)->∃c,X.env.cells.lookup x=some c
 cab:∀x c,X.fn x=true->X.env.cells.lookup x=some c->X.s₀.heap.objs.size<=c
 hd:X.calm=true->X.A.handled=none
 frames:X.A.frames=some X.stack
 stk:X.stack=X.outer\/(X.stack=X.env::X.outer/\X.env.frame=some X.env.locals)
 exf:∀b∈X.ex,b≠X.env.locals/\∀x c,X.env.cells.lookup x=some c->c≠b
 bs:∀b o,X.base.get? b=some o->X.s₀.heap.get? b=some o/\X.H₀ b=none
 bsz:X.base.objs.size<=X.s₀.heap.objs.size
 noex:∀b o,X.base.get? b=some o->b∉X.ex
 exfs:∀b∈X.ex,b∉X.fs
 funs:X.s₀.heap.FunFrames X.base X.outer
 frf:∀b∈X.fs,X.H₀ b=none
structure Inv(X:Cx)(pins:List (Addr×Obj))(σ:List (Option V))(H:Hp)(s:Shared):Prop where
 ok:X.Ok
 os:s.os=X.s₀.os
 bare:AllBare s.gens
 base:Un X.fs X.ex X.H₀ H X.s₀.heap s.heap
 loc:∃m,s.heap.Ns X.env.locals m/\∀(i:Nat) (x:Str) (v:V),X.N[i]? = some x->σ[i]? = some (some v)->Vis X.env.scope x->∃u,RelV v u/\Look X.env s.heap m x u
 cell:∀x c,X.env.cells.lookup x=some c->∃v,s.heap.IsCell c v
 free:H X.env.locals=none
 freeC:∀x c,X.env.cells.lookup x=some c->H c=none
 pin:∀p∈X.pn++pins,s.heap.get? p.1=some p.2/\H p.1=none/\p.1≠X.env.locals/\p.1∉X.fs/\∀v,p.2.data≠.cell v
 hok:HOk X.prog X.w H s.heap
 len:σ.length=X.N.length
section
variable {X:Cx}{pins:List (Addr×Obj)}{σ:List (Option V)}{H H':Hp}{s:Shared}{h':Heap}
theorem Cx.Ok.nofr(ok:X.Ok){b:Addr}{o:Obj}(e:X.base.get? b=some o):b∉X.fs:=fun hb=>by
 have:=(ok.funs.mem hb).1;rw[e] at this;cases this
theorem Inv.bs(I:Inv X pins σ H s):∀b o,X.base.get? b=some o->s.heap.get? b=some o/\H b=none:=fun b o e=>
 ⟨I.base.keep b o (I.ok.bs b o e).1 (I.ok.bs b o e).2 (I.ok.nofr e) (I.ok.noex b o e),I.base.free b o (I.ok.bs b o e).1 (I.ok.bs b o e).2 (I.ok.noex b o e)⟩
theorem Inv.bk(I:Inv X pins σ H s):∀b o,X.base.get? b=some o->s.heap.get? b=some o:=fun b o e=>(I.bs b o e).1
theorem Inv.mod(I:Inv X pins σ H s):Mod X.K X.mg X.base:=I.ok.mod
theorem Inv.kIn(I:Inv X pins σ H s):X.K.In s.heap:=I.ok.mod.kin.keeps I.bk
theorem Inv.lt(I:Inv X pins σ H s):X.env.locals<s.heap.objs.size:=let ⟨_,hn,_⟩:=I.loc;hn.lt
theorem Inv.sz(I:Inv X pins σ H s):X.s₀.heap.objs.size<=s.heap.objs.size:=Nat.le_trans I.ok.above (Nat.le_of_lt I.lt)
theorem Inv.nofs(I:Inv X pins σ H s){a:Addr}(h:s.heap.objs.size<=a):a∉X.fs:=fun hb=>by
 obtain⟨_,o,ho,_⟩:=I.ok.funs.mem hb;exact absurd (Nat.lt_of_lt_of_le (Heap.lt_size ho) (Nat.le_trans I.sz h)) (Nat.lt_irrefl _)
theorem Inv.cne(I:Inv X pins σ H s):∀x c,X.env.cells.lookup x=some c->c≠X.env.locals:=fun x c e z=>by
 obtain⟨v,o,ho,hd⟩:=I.cell x c e;obtain⟨m,⟨o',es,ep,ho',hd',_⟩,_⟩:=I.loc;rw[z,ho'] at ho;cases ho;rw[hd'] at hd;cases hd
theorem Inv.funs(I:Inv X pins σ H s):s.heap.FunFrames X.base X.outer:=by
 have all:∀(l:List Env),(∀b∈frs l,b∈X.fs)->X.s₀.heap.FunFrames X.base l->s.heap.FunFrames X.base l:=by
  intro l
  induction l with
  |nil=>intro _ _;trivial
  |cons env r ih=>
   intro hs hl;obtain⟨hk,⟨L,o,hf,hn,ho,hd⟩,hr⟩:=hl;have hL:L∈X.fs:=hs L (by unfold frs;rw[List.filterMap_cons,hf];exact List.mem_cons_self);obtain⟨sl,e⟩:=I.base.slot L o ho (I.ok.frf L hL) hL fun z=>I.ok.exfs L z hL;exact⟨hk,⟨L,_,hf,hn,e,hd⟩,ih (fun b hb=>hs b (by unfold frs;rw[List.filterMap_cons,hf];exact List.mem_cons_of_mem _ hb)) hr⟩
 exact all X.outer (fun _ hb=>hb) I.ok.funs
theorem Inv.stack(I:Inv X pins σ H s):s.heap.FunFrames X.base X.stack:=by
 rcases I.ok.stk with e|⟨e,hf⟩
 .rw[e];exact I.funs
 .rw[e]
  obtain⟨m,hn,_⟩:=I.loc;refine .cons (by rw[I.ok.kind];decide) hf hn ?_ I.funs;exact Heap.get?_none_of_le (Nat.le_trans I.ok.bsz I.ok.above)
theorem Inv.stkSub(I:Inv X pins σ H s):∀b∈frs X.stack,b∈X.env.locals::X.fs:=fun b hb=>by
 rcases I.ok.stk with e|⟨e,hf⟩
 .rw[e] at hb;exact List.mem_cons_of_mem _ hb
 .rw[e] at hb
  unfold frs at hb;rw[List.filterMap_cons,hf] at hb;exact hb
theorem Inv.stkFree(I:Inv X pins σ H s):∀b∈frs X.stack,H b=none:=fun b hb=>by
 rcases List.mem_cons.mp (I.stkSub b hb) with e|hb
 .rw[e];exact I.free
 .obtain⟨_,o,ho,_⟩:=I.ok.funs.mem hb
  exact I.base.free b o ho (I.ok.frf b hb) fun z=>I.ok.exfs b z hb
theorem Inv.step{g':Array GenState}{t':Nat}{d':Drawn}{ch:List Addr}(I:Inv X pins σ H s)
  (hch:∀b∈ch,(b∈X.ex\/X.s₀.heap.objs.size<=b)/\b≠X.env.locals/\(∀x c,X.env.cells.lookup x=some c->c≠b)/\∀p∈X.pn++pins,p.1≠b)
  (keep:∀b o,b≠X.env.locals->b∉X.fs->b∉ch->s.heap.get? b=some o->H b=none->h'.get? b=some o)
  (slot:∀b o,b≠X.env.locals->b∈X.fs->b∉ch->s.heap.get? b=some o->H b=none->∃sl,h'.get? b=some { o with slots:=sl }) (free:∀b o,b∉ch->s.heap.get? b=some o->H b=none->H' b=none)
  (there:∀b o,b∉ch->s.heap.get? b=some o->∃o',h'.get? b=some o')
  (tups:∀b xs,H b=some (.tup xs)->H' b=some (.tup xs)) (frzs:∀b o u,H b=some (.frz o u)->H' b=some (.frz o u)) (tbls:∀b ps,H b=some (.tbl ps)->∃more,H' b=some (.tbl (ps++more)))
  (ns:∀m,s.heap.Ns X.env.locals m->h'.Ns X.env.locals m) (hok:HOk X.prog X.w H' h') (hg:AllBare g') :
  Inv X pins σ H' { s with heap:=h',gens:=g',drawn:=d',toks:=t' }:=by
 have neL:∀b o,X.s₀.heap.get? b=some o->b≠X.env.locals:=fun b o e=>Nat.ne_of_lt (Nat.lt_of_lt_of_le (Heap.lt_size e) I.ok.above)
 have neC:∀b o,X.s₀.heap.get? b=some o->b∉X.ex->b∉ch:=fun b o e hx hb=>by
  rcases(hch b hb).1 with z|z
  .exact hx z
  .exact absurd (Nat.lt_of_lt_of_le (Heap.lt_size e) z) (Nat.lt_irrefl _)
 have cellK:∀x c,X.env.cells.lookup x=some c->∀v,s.heap.IsCell c v->h'.IsCell c v:=fun x c e v ⟨o,ho,hd⟩=>by
  have nch:c∉ch:=fun z=>(hch c z).2.2.1 x c e rfl
  by_cases hc:c∈X.fs
  .obtain⟨sl,q⟩:=slot c o (I.cne x c e) hc nch ho (I.freeC x c e)
   exact⟨_,q,hd⟩
  .exact⟨o,keep c o (I.cne x c e) hc nch ho (I.freeC x c e),hd⟩
 refine⟨I.ok,I.os,hg,⟨fun b o e n hb hx=>?_,fun b o e n hb hx=>?_,fun b o e n hx=>?_,fun b o e hx=>?_,fun b xs e=>tups b xs (I.base.tups b xs e),fun b o xs e=>frzs b o xs (I.base.frzs b o xs e),fun b ps e=>?_⟩,?_,fun x c e=>?_,?_,fun x c e=>?_,fun p hp=>?_,hok,I.len⟩
 .exact keep b o (neL b o e) hb (neC b o e hx) (I.base.keep b o e n hb hx) (I.base.free b o e n hx)
 .obtain⟨sl,e1⟩:=I.base.slot b o e n hb hx
  obtain⟨sl',e2⟩:=slot b _ (neL b o e) hb (neC b o e hx) e1 (I.base.free b o e n hx);exact⟨sl',e2⟩
 .obtain⟨o',e1⟩:=I.base.there b o e hx
  exact free b o' (neC b o e hx) e1 (I.base.free b o e n hx)
 .obtain⟨o',e1⟩:=I.base.there b o e hx
  exact there b o' (neC b o e hx) e1
 .obtain⟨m1,e1⟩:=I.base.tbls b ps e
  obtain⟨m2,e2⟩:=tbls b _ e1;exact⟨m1++m2,by rw[e2,Array.append_assoc]⟩
 .obtain⟨m,hn,hl⟩:=I.loc
  refine⟨m,ns m hn,fun i x v e1 e2 e3=>?_⟩;obtain⟨u,r,l⟩:=hl i x v e1 e2 e3;refine⟨u,r,?_⟩
  rcases l with l|⟨k,c,e,z⟩
  .exact .inl l
  .exact .inr ⟨k,c,e,cellK x c e _ z⟩
 .obtain⟨v,z⟩:=I.cell x c e
  exact⟨v,cellK x c e v z⟩
 .obtain⟨m,⟨o,_,_,ho,_⟩,_⟩:=I.loc
  exact free _ o (fun z=>(hch _ z).2.1 rfl) ho I.free
 .obtain⟨v,o,ho,hd⟩:=I.cell x c e
  exact free c o (fun z=>(hch c z).2.2.1 x c e rfl) ho (I.freeC x c e)
 .obtain⟨e,n,ne,nf,d⟩:=I.pin p hp
  have nch:p.1∉ch:=fun z=>(hch p.1 z).2.2.2 p hp rfl;exact⟨keep p.1 p.2 ne nf nch e n,free p.1 p.2 nch e n,ne,nf,d⟩
theorem Inv.un{t':Nat}(I:Inv X pins σ H s)(u:Un X.fs [] H H' s.heap h')(hok:HOk X.prog X.w H' h'):Inv X pins σ H' { s with heap:=h',toks:=t' }:=by
 obtain⟨m,⟨o,es,ep,ho,r⟩,_⟩:=id I.loc;obtain⟨sl,hL⟩:=u.any ho I.free (by simp)
 exact I.step (g':=s.gens) (d':=s.drawn) (ch:=[]) (fun _ z=>nomatch z) (fun b o _ hb _ e n=>u.keep b o e n hb (by simp)) (fun b o _ hb _ e n=>u.slot b o e n hb (by simp)) (fun b o _ e n=>u.free b o e n (by simp)) (fun b o _ e=>u.there b o e (by simp)) u.tups u.frzs u.tbls (fun m' hm=>by
  obtain⟨o',es',ep',ho',r'⟩:=hm;rw[ho] at ho';cases ho'
  exact⟨_,es',ep',hL,r'⟩) hok I.bare
theorem Inv.call{g':Array GenState}{t':Nat}{d':Drawn}{ch:List Addr}(I:Inv X pins σ H s)(u:Un (frs X.stack) ch H H' s.heap h')(hok:HOk X.prog X.w H' h')(hg:AllBare g')
  (hch:∀b∈ch,(b∈X.ex\/X.s₀.heap.objs.size<=b)/\b≠X.env.locals/\(∀x c,X.env.cells.lookup x=some c->c≠b)/\∀p∈X.pn++pins,p.1≠b) :
  Inv X pins σ H' { s with heap:=h',gens:=g',drawn:=d',toks:=t' }:=by
 obtain⟨m,⟨o,es,ep,ho,r⟩,_⟩:=id I.loc;obtain⟨sl,hL⟩:=u.any ho I.free fun z=>(hch _ z).2.1 rfl
 exact I.step (ch:=ch) hch (fun b o hL hb hc e n=>u.keep b o e n (fun z=>(List.mem_cons.mp (I.stkSub b z)).elim hL hb) hc) (fun b o _ _ hc e n=>u.any e n hc) (fun b o hc e n=>u.free b o e n hc) (fun b o hc e=>u.there b o e hc) u.tups u.frzs u.tbls (fun m' hm=>by
  obtain⟨o',es',ep',ho',r'⟩:=hm;rw[ho] at ho';cases ho'
  exact⟨_,es',ep',hL,r'⟩) hok hg
theorem Inv.turned{t':Nat}{it:Addr}(I:Inv X pins σ H s)(k:∀b o,b≠it->s.heap.get? b=some o->h'.get? b=some o)(hn:H it=none)(hL:it≠X.env.locals)
  (h1:it∈X.ex\/X.s₀.heap.objs.size<=it) (h2:∀x c,X.env.cells.lookup x=some c->c≠it) (h3:∀p∈X.pn++pins,p.1≠it):Inv X pins σ H { s with heap:=h',toks:=t' }:=by
 have nit:∀b u,H b=some u->b≠it:=fun b u e z=>by rw[z,hn] at e;cases e
 refine I.step (g':=s.gens) (d':=s.drawn) (ch:=[it]) (fun b hb=>?_) (fun b o _ _ hc e _=>k b o (fun z=>hc (by simp[z])) e) (fun b o _ _ hc e _=>⟨o.slots,k b o (fun z=>hc (by simp[z])) e⟩) (fun _ _ _ _ n=>n)
  (fun b o hc e=>⟨o,k b o (fun z=>hc (by simp[z])) e⟩) (fun _ _ e=>e) (fun _ _ _ e=>e) (fun b ps e=>⟨#[],by rw[e];simp⟩) (fun m hm=>?_) (fun b u e=>?_) I.bare
 .have e:b=it:=by simpa using hb
  subst e;exact⟨h1,hL,h2,h3⟩
 .obtain⟨o,es,ep,ho,r⟩:=hm
  exact⟨o,es,ep,k _ o (Ne.symm hL) ho,r⟩
 .refine(I.hok b u e).stay (fun c v hc q=>k c v ?_ q) (fun _ q=>q) fun _ _ q=>q
  rcases hc with z|z
  .rw[z];exact nit b u e
  .exact nit c _ z
theorem Inv.tok(I:Inv X pins σ H s)(t:Nat):Inv X pins σ H { s with toks:=t }:=I.un (h':=s.heap) (t':=t) Un.refl I.hok
theorem Inv.kept{t':Nat}(I:Inv X pins σ H s)(k:∀b u,s.heap.get? b=some u->h'.get? b=some u):Inv X pins σ H { s with heap:=h',toks:=t' }:=I.un (Un.kept k) (I.hok.kept k)
theorem Inv.laid{a:Addr}{o:HO}{t':Nat}(I:Inv X pins σ H s)(k:∀b u,s.heap.get? b=some u->h'.get? b=some u)(hp:s.heap.objs.size<=a)(new:ObjOk X.prog X.w (upd H a o) h' a o) :
  Inv X pins σ (upd H a o) { s with heap:=h',toks:=t' }:=I.un (Un.laid k hp (I.hok.fresh hp)) (I.hok.laid k hp new)
theorem Inv.write{x e:Addr}{o:HO}{t':Nat}(I:Inv X pins σ H s)(mu:Mut (H x))(he:e=x\/H e=some (.own x))(k:∀b u,b≠e->s.heap.get? b=some u->h'.get? b=some u)(heo:∃u,h'.get? e=some u)
  (new:ObjOk X.prog X.w (upd H x o) h' x o):Inv X pins σ (upd H x o) { s with heap:=h',toks:=t' }:=I.un (Un.write mu he k heo) (I.hok.write mu he k heo new)
theorem Inv.pins_of{pins':List (Addr×Obj)}(I:Inv X pins σ H s)(h:∀p∈pins',s.heap.get? p.1=some p.2/\H p.1=none/\p.1≠X.env.locals/\p.1∉X.fs/\∀v,p.2.data≠.cell v):Inv X pins' σ H s:=⟨I.ok,I.os,I.bare,I.base,I.loc,I.cell,I.free,I.freeC,fun p hp=>(List.mem_append.mp hp).elim (fun z=>I.pin p (List.mem_append_left _ z)) (h p),I.hok,I.len⟩
theorem sD{N:List Str}(hN:N.Nodup){i j:Nat}{x:Str}(a:N[i]? = some x)(b:N[j]? = some x):i=j:=by
 obtain⟨h1,e1⟩:=List.getElem?_eq_some_iff.mp a;obtain⟨h2,e2⟩:=List.getElem?_eq_some_iff.mp b;exact(List.getElem_inj hN).mp (e1.trans e2.symm)
theorem qZ{M:Model}{A:Around}{E:Value->Shared->Prop}{i:Nat}{x:Str}{v:V}{u:Value}{Q:Unit->Shared->Prop}(I:Inv X pins σ H s)(hN:X.N.Nodup)(hi:X.N[i]? = some x)(hx:Loc X.env.scope x)(r:RelV v u)
  (h:∀s',Inv X pins (σ.set i (some v)) H s'->(∃a,Heap.SameBut a s.heap s'.heap/\(a=X.env.locals\/X.env.cells.lookup x=some a))->Q () s') (hf:X.fn x=true\/X.env.scope.names.lookup x=some .local:=by first|exact .inl rfl|exact .inr rfl|assumption):wpAny M A (storeName X.env x u) Q E s:=by
 obtain⟨m,hn,hl⟩:=id I.loc
 have hcls:(X.env.scope.kind == .class||(X.env.scope.kind == .module&&X.env.locals != X.env.globals))=false:=by rw[I.ok.kind];rfl
 have hiσ:i<σ.length:=by rw[I.len];exact(List.getElem?_eq_some_iff.mp hi).1
 have cne:=I.cne
 have tracked:∀{a:Addr}{h':Heap},(∃o,s.heap.get? a=some o/\H a=none)->Heap.SameBut a s.heap h'->HOk X.prog X.w H h':=fun {a h'} ha hs b ob e=>by
  obtain⟨_,_,hfree⟩:=ha;refine(I.hok b ob e).stay (fun c w' hc q=>(hs.2 c ?_).trans q) (fun _ q=>q) fun _ _ q=>q;rintro rfl
  rcases hc with rfl|hc
  .rw[hfree] at e;cases e
  .rw[hfree] at hc;cases hc
 rcases hx with hk|hk
 .refine wpAny_storeName_local hk hn (fun h' hn' hs=>?_) hcls
  obtain⟨oL,_,_,hoL,_⟩:=id hn;refine h _ ⟨I.ok,I.os,I.bare,⟨fun b o e n hb hx=>?_,fun b o e n hb hx=>?_,I.base.free,fun b o e hx=>?_,I.base.tups,I.base.frzs,I.base.tbls⟩,⟨_,hn',fun j y v' e1 e2 e3=>?_⟩,fun y c e=>?_,I.free,I.freeC,fun p hp=>?_,tracked ⟨oL,hoL,I.free⟩ hs,by simpa using I.len⟩ ⟨_,hs,.inl rfl⟩
  .exact(hs.2 b (Nat.ne_of_lt (Nat.lt_of_lt_of_le (Heap.lt_size e) I.ok.above))).trans (I.base.keep b o e n hb hx)
  .obtain⟨sl,e1⟩:=I.base.slot b o e n hb hx
   exact⟨sl,(hs.2 b (Nat.ne_of_lt (Nat.lt_of_lt_of_le (Heap.lt_size e) I.ok.above))).trans e1⟩
  .obtain⟨o',e1⟩:=I.base.there b o e hx
   exact⟨o',(hs.2 b (Nat.ne_of_lt (Nat.lt_of_lt_of_le (Heap.lt_size e) I.ok.above))).trans e1⟩
  .by_cases hj:j=i
   .subst hj
    rw[hi] at e1;cases e1;rw[List.getElem?_set_self hiσ] at e2;cases e2;exact⟨u,r,.inl ⟨hk,by simp⟩⟩
   .rw[List.getElem?_set_ne (Ne.symm hj)] at e2
    obtain⟨u',r',q⟩:=hl j y v' e1 e2 e3;refine⟨u',r',?_⟩
    rcases q with⟨k,e⟩|⟨k,c,e,z⟩
    .refine .inl ⟨k,?_⟩
     have:y≠x:=fun e=>hj (sD hN e1 (e ▸ hi));simp[this,e]
    .exact .inr ⟨k,c,e,z.sameBut hs (cne y c e)⟩
  .obtain⟨w',z⟩:=I.cell y c e
   exact⟨w',z.sameBut hs (cne y c e)⟩
  .obtain⟨e,n,ne,nf,d⟩:=I.pin p hp
   exact⟨(hs.2 p.1 ne).trans e,n,ne,nf,d⟩
 .have hfn:X.fn x=true:=by
   rcases hf with z|z
   .exact z
   .rw[z] at hk;cases hk
  obtain⟨c,hc⟩:=I.ok.has x (.inl hk);obtain⟨w',z⟩:=I.cell x c hc;refine wpAny_storeName_cell I.ok.kind hk hc z (fun h' hc' hs=>?_);obtain⟨oc,hoc,hocd⟩:=id z;refine h { s with heap:=h' } ⟨I.ok,I.os,I.bare,⟨fun b o e n hb hx=>?_,fun b o e n hb hx=>?_,I.base.free,fun b o e hx=>?_,I.base.tups,I.base.frzs,I.base.tbls⟩,⟨m,hn.sameBut hs (Ne.symm (cne x c hc)),fun j y v' e1 e2 e3=>?_⟩,fun y c' e=>?_,I.free,I.freeC,fun p hp=>?_,tracked ⟨oc,hoc,I.freeC x c hc⟩ hs,by simpa using I.len⟩ ⟨c,hs,.inr hc⟩
  .exact(hs.2 b (Nat.ne_of_lt (Nat.lt_of_lt_of_le (Heap.lt_size e) (I.ok.cab x c hfn hc)))).trans (I.base.keep b o e n hb hx)
  .obtain⟨sl,e1⟩:=I.base.slot b o e n hb hx
   exact⟨sl,(hs.2 b (Nat.ne_of_lt (Nat.lt_of_lt_of_le (Heap.lt_size e) (I.ok.cab x c hfn hc)))).trans e1⟩
  .obtain⟨o',e1⟩:=I.base.there b o e hx
   exact⟨o',(hs.2 b (Nat.ne_of_lt (Nat.lt_of_lt_of_le (Heap.lt_size e) (I.ok.cab x c hfn hc)))).trans e1⟩
  .by_cases hj:j=i
   .subst hj
    rw[hi] at e1;cases e1;rw[List.getElem?_set_self hiσ] at e2;cases e2;exact⟨u,r,.inr ⟨.inl hk,c,hc,hc'⟩⟩
   .rw[List.getElem?_set_ne (Ne.symm hj)] at e2
    obtain⟨u',r',q⟩:=hl j y v' e1 e2 e3;refine⟨u',r',?_⟩
    rcases q with q|⟨k,c',e,z'⟩
    .exact .inl q
    .refine .inr ⟨k,c',e,z'.sameBut hs ?_⟩
     rintro rfl;exact hj (sD hN e1 (I.ok.inj _ _ _ e hc ▸ hi))
  .by_cases hcc:c'=c
   .subst hcc;exact⟨_,hc'⟩
   .obtain⟨w2,z2⟩:=I.cell y c' e
    exact⟨w2,z2.sameBut hs hcc⟩
  .obtain⟨e,n,ne,nf,d⟩:=I.pin p hp
   refine⟨(hs.2 p.1 ?_).trans e,n,ne,nf,d⟩;intro q;rw[q,hoc] at e;have q':oc=p.2:=Option.some.inj e;exact d w' (by rw[←q'];exact hocd)
theorem nu{M:Model}{A:Around}{E:Value->Shared->Prop}{i:Nat}{x:Str}{v:V}{u:Value}{Q:Unit->Shared->Prop}(I:Inv X pins σ H s)(hN:X.N.Nodup)(hi:X.N[i]? = some x)(hx:Loc X.env.scope x)(r:RelV v u)
  (h:∀s',Inv X pins (σ.set i (some v)) H s'->Q () s') (hf:X.fn x=true\/X.env.scope.names.lookup x=some .local:=by first|exact .inl rfl|exact .inr rfl|assumption):wpAny M A (storeName X.env x u) Q E s:=qZ I hN hi hx r (fun s' I' _=>h s' I') hf
theorem Inv.call'{s':Shared}{ch:List Addr}(I:Inv X pins σ H s)(ho:s'.os=s.os)(u:Un (frs X.stack) ch H H' s.heap s'.heap)(hok:HOk X.prog X.w H' s'.heap)(hg:AllBare s'.gens)
  (hch:∀b∈ch,(b∈X.ex\/X.s₀.heap.objs.size<=b)/\b≠X.env.locals/\(∀x c,X.env.cells.lookup x=some c->c≠b)/\∀p∈X.pn++pins,p.1≠b):Inv X pins σ H' s':=by
 obtain⟨h',g',d',t',o'⟩:=s';have e:o'=s.os:=ho;subst e;exact I.call (g':=g') (t':=t') (d':=d') u hok hg hch
end
abbrev XK:=Value->Option Addr->Hp->Prop
abbrev St:=List (Option V)
abbrev VK:=V->Hp->Prop
abbrev TE:=St->Hp->VK->Prop
abbrev TT:=St->Hp->(Bool->Hp->Prop)->Prop
abbrev TA:=St->Hp->(List V->Hp->Prop)->Prop
structure Ends where
 nx:St->Hp->Prop
 rt:VK
 bk:St->Hp->Prop:=fun _ _=>False
 ct:St->Hp->Prop:=fun _ _=>False
abbrev TS:=Ends->St->Hp->Prop
def EP(X:Cx)(pins:List (Addr×Obj))(σ:St)(Q:VK)(u:Value)(s':Shared):Prop:=∃v H',Inv X pins σ H' s'/\RelV v u/\Q v H'
def TP(X:Cx)(pins:List (Addr×Obj))(σ:St)(Q:Bool->Hp->Prop)(b:Bool)(s':Shared):Prop:=∃H',Inv X pins σ H' s'/\Q b H'
def AP(X:Cx)(pins:List (Addr×Obj))(σ:St)(Q:List V->Hp->Prop)(us:List Value)(s':Shared):Prop:=∃vs H',Inv X pins σ H' s'/\Vals vs us/\Q vs H'
def SP(X:Cx)(pins:List (Addr×Obj))(D:Ends)(f:Flow)(s':Shared):Prop:=
 match f with
 |.next=>∃σ' H',Inv X pins σ' H' s'/\D.nx σ' H'
 |.brk=>∃σ' H',Inv X pins σ' H' s'/\D.bk σ' H'
 |.cont=>∃σ' H',Inv X pins σ' H' s'/\D.ct σ' H'
 |.ret u=>∃v σ' H',Inv X pins σ' H' s'/\RelV v u/\D.rt v H'
def PE(X:Cx)(e:Expr)(t:TE):Prop:=∀(pins:List (Addr×Obj)) (s:Shared) (σ:St) (H:Hp) (Q:VK),Inv X pins σ H s->t σ H Q->wpAny (model X.prog X.w) X.A (eval e X.env) (EP X pins σ Q) X.xe s
def PT(X:Cx)(e:Expr)(t:TT):Prop:=∀(pins:List (Addr×Obj)) (s:Shared) (σ:St) (H:Hp) (Q:Bool->Hp->Prop),Inv X pins σ H s->t σ H Q->wpAny (model X.prog X.w) X.A (isTrue e X.env (eval e X.env)) (TP X pins σ Q) X.xe s
def PW(X:Cx)(e:Expr)(t:TT):Prop:=∀(whole:Sem Value) (pins:List (Addr×Obj)) (s:Shared) (σ:St) (H:Hp) (Q:Bool->Hp->Prop),Inv X pins σ H s->t σ H Q->wpAny (model X.prog X.w) X.A (isTrue e X.env whole) (TP X pins σ Q) X.xe s
theorem PW.pt{X:Cx}{e:Expr}{t:TT}(h:PW X e t):PT X e t:=h _
def PA(X:Cx)(es:List Expr)(t:TA):Prop:=∀(pos:Pos) (pins:List (Addr×Obj)) (s:Shared) (σ:St) (H:Hp) (Q:List V->Hp->Prop),Inv X pins σ H s->t σ H Q->wpAny (model X.prog X.w) X.A (spliced (backTo pos (starEach es X.env))) (AP X pins σ Q) X.xe s
def PS(X:Cx)(st:Stmt)(t:TS):Prop:=∀(pins:List (Addr×Obj)) (s:Shared) (σ:St) (H:Hp) (D:Ends),Inv X pins σ H s->t D σ H->wpAny (model X.prog X.w) X.A (exec st X.env) (SP X pins D) X.xe s
def PSs(X:Cx)(st:List Stmt)(t:TS):Prop:=∀(pins:List (Addr×Obj)) (s:Shared) (σ:St) (H:Hp) (D:Ends),Inv X pins σ H s->t D σ H->wpAny (model X.prog X.w) X.A (execs st X.env) (SP X pins D) X.xe s
theorem thn{α:Type}{t:Sem α}{Q Q':α->Shared->Prop}{M:Model}{A:Around}{E:Value->Shared->Prop}{s:Shared}(h:wpAny M A t Q E s)(hQ:∀a s,Q a s->Q' a s):wpAny M A t Q' E s:=wpAny_mono h hQ fun _ _ x=>x
section
variable {X:Cx}
def wG(i:Nat):TE:=fun σ H Q=>∃v,σ[i]? = some (some v)/\Q v H
def tC(v:V):TE:=fun _ H Q=>Q v H
theorem CT{i:Nat}{x:Str}{pos:Pos}(hN:X.N[i]? = some x)(hv:Vis X.env.scope x)(hd:(x == ("__debug__" : Str))=false:=by decide)(hcd:(x == ("__classdict__" : Str))=false:=by decide):PE X (.Name x pos) (wG i):=by
 intro pins s σ H Q I h;obtain⟨v,e,h⟩:=h;obtain⟨m,hn,hl⟩:=I.loc;obtain⟨u,r,l⟩:=hl i x v hN e hv;have fin:EP X pins σ Q u s:=⟨v,H,I,r,h⟩
 rcases l with⟨hk,hm⟩|⟨hk,c,hc,hcell⟩
 .exact wpAny_Name (wpAny_loadName_local I.ok.kind hk hn hm fin) hd
 .rcases hk with hk|hk
  .exact wpAny_Name (wpAny_loadName_cell I.ok.kind hk hc hcell fin) hd
  .exact wpAny_Name (wpAny_loadName_free I.ok.kind hk hc hcell fin hcd) hd
theorem CZ{i j pos}:PE X (.Constant (.int i) j pos) (tC (.int i)):=fun _ _ _ H _ I h=>wpAny_Constant_int ⟨.int i,H,I.tok _,⟨_,rfl⟩,h⟩
theorem Ej{b j pos}:PE X (.Constant (.bool b) j pos) (tC (.bl b)):=fun _ _ _ H _ I h=>Constant_bool ⟨.bl b,H,I,rfl,h⟩
theorem uK{j pos}:PE X (.Constant .none j pos) (tC .non):=fun _ _ _ H _ I h=>Constant_none ⟨.non,H,I,rfl,h⟩
theorem CV{x j pos}:PE X (.Constant (.str x) j pos) (tC (.str x)):=fun _ _ _ H _ I h=>Calls.Constant_str ⟨.str x,H,I.tok _,⟨_,rfl⟩,h⟩
def Gl(X:Cx)(x:Str):Prop:=X.env.kindOf x=some .globalImplicit
theorem tQ{E:Value->Shared->Prop}{pins:List (Addr×Obj)}{s:Shared}{σ:St}{H:Hp}{x:Str}{u:Value}{pos:Pos}{Q:Value->Shared->Prop}(I:Inv X pins σ H s)(hg:Gl X x)(hm:X.mg x=some u)(h:Q u s)
  (hd:(x == ("__debug__" : Str))=false:=by decide):wpAny (model X.prog X.w) X.A (eval (.Name x pos) X.env) Q E s:=Calls.Name_function_global I.ok.kind hg (Calls.loadGlobal_global (by rw[I.ok.glob];exact I.mod.glob.keeps I.bk) hm h) hd
theorem lE{E:Value->Shared->Prop}{pins:List (Addr×Obj)}{s:Shared}{σ:St}{H:Hp}{x:Str}{u:Value}{pos:Pos}{Q:Value->Shared->Prop}(I:Inv X pins σ H s)(hg:Gl X x)(hm:X.mg x=none)(hv:bootBuiltins x=some u)(h:Q u s)
  (hn:x≠"__name__":=by decide) (hd:(x == ("__debug__" : Str))=false:=by decide):wpAny (model X.prog X.w) X.A (eval (.Name x pos) X.env) Q E s:=by
 obtain⟨mb,h1,h2⟩:=I.mod.blt;exact Calls.Name_function_global I.ok.kind hg (Calls.loadGlobal_builtin (by rw[I.ok.glob];exact I.mod.glob.keeps I.bk) hm (by rw[I.ok.blt];exact h1.keeps I.bk) ((h2 x hn).trans hv) h) hd
theorem nU{x:Str}{v:V}{u:Value}{pos:Pos}(hg:Gl X x)(hm:X.mg x=some u)(r:RelV v u)(hd:(x == ("__debug__" : Str))=false:=by decide):PE X (.Name x pos) (tC v):=fun _ _ _ H _ I h=>tQ I hg hm ⟨v,H,I,r,h⟩ hd
theorem Br{x:Str}{v:V}{u:Value}{pos:Pos}(hg:Gl X x)(hm:X.mg x=none)(hv:bootBuiltins x=some u)(r:RelV v u)(hn:x≠"__name__":=by decide)(hd:(x == ("__debug__" : Str))=false:=by decide):PE X (.Name x pos) (tC v):=fun _ _ _ H _ I h=>lE I hg hm hv ⟨v,H,I,r,h⟩ hn hd
variable {a b:Expr}{ta tb:TE}{pos:Pos}
variable {tA tB':TT}{rest:List Expr}
def Fo(t u:TT):TT:=fun σ H Q=>t σ H fun c H1=>if c=true then u σ H1 Q else Q false H1
def tOr(t u:TT):TT:=fun σ H Q=>t σ H fun c H1=>if c=true then Q true H1 else u σ H1 Q
def Fh(t:TT):TT:=fun σ H Q=>t σ H fun c H1=>Q (!c) H1
theorem Ba(ha:PT X a tA):PW X (.BoolOp .And [a] pos) tA:=by
 intro wh pins s σ H Q I h;refine isTrue_and (thn (ha pins s σ H Q I h) fun c s1 e=>?_)
 cases c with
 |true=>exact isTrue_and_nil e
 |false=>exact e
theorem CJ(ha:PT X a tA):PW X (.BoolOp .Or [a] pos) tA:=by
 intro wh pins s σ H Q I h;refine isTrue_or (thn (ha pins s σ H Q I h) fun c s1 e=>?_)
 cases c with
 |false=>exact isTrue_or_nil e
 |true=>exact e
theorem CL(ha:PT X a tA)(hb:PW X (.BoolOp .And (b::rest) pos) tB'):PW X (.BoolOp .And (a::b::rest) pos) (Fo tA tB'):=by
 intro wh pins s σ H Q I h;refine isTrue_and (thn (ha pins s σ H _ I h) fun c s1 ⟨H1,I1,q1⟩=>?_)
 cases c with
 |true=>exact hb wh pins s1 σ H1 Q I1 q1
 |false=>exact⟨H1,I1,q1⟩
theorem Ed(ha:PT X a tA)(hb:PW X (.BoolOp .Or (b::rest) pos) tB'):PW X (.BoolOp .Or (a::b::rest) pos) (tOr tA tB'):=by
 intro wh pins s σ H Q I h;refine isTrue_or (thn (ha pins s σ H _ I h) fun c s1 ⟨H1,I1,q1⟩=>?_)
 cases c with
 |true=>exact⟨H1,I1,q1⟩
 |false=>exact hb wh pins s1 σ H1 Q I1 q1
theorem CM(ha:PT X a tA):PT X (.UnaryOp .Not a pos) (Fh tA):=by
 intro pins s σ H Q I h;exact isTrue_not (ha pins s σ H (fun c H1=>Q (!c) H1) I h)
def D7(ta tb:TE):TE:=fun σ H Q=>ta σ H fun x H1=>∃c,x=.bl c/\if c=true then tb σ H1 Q else Q (.bl false) H1
def D4(ta:TE):TE:=fun σ H Q=>ta σ H fun x H1=>∃c,x=.bl c/\Q (.bl (!c)) H1
theorem CW{op}{t:TE}(h:PE X a t):PE X (.BoolOp op [a] pos) t:=fun pins s σ H Q I hw=>BoolOp_one (h pins s σ H Q I hw)
theorem C0(ha:PE X a ta)(hb:PE X (.BoolOp .And (b::rest) pos) tb):PE X (.BoolOp .And (a::b::rest) pos) (D7 ta tb):=by
 intro pins s σ H Q I h;refine BoolOp_and (thn (ha pins s σ H _ I h) fun v s1 ⟨x,H1,I1,r1,q1⟩=>?_);obtain⟨c,rfl,q1⟩:=q1;cases r1;refine wpAny_truthy_bool ?_
 cases c with
 |true=>exact hb pins s1 σ H1 Q I1 q1
 |false=>exact⟨.bl false,H1,I1,rfl,q1⟩
theorem CY(ha:PE X a ta):PE X (.UnaryOp .Not a pos) (D4 ta):=by
 intro pins s σ H Q I h;refine UnaryOp_ (thn (ha pins s σ H _ I h) fun v s1 ⟨x,H1,I1,r1,q1⟩=>?_);obtain⟨c,rfl,q1⟩:=q1;cases r1;exact not_of (wpAny_truthy_bool ⟨.bl (!c),H1,I1,rfl,q1⟩)
def tIf(t:TT)(ta tb:TE):TE:=fun σ H Q=>t σ H fun c H1=>if c=true then ta σ H1 Q else tb σ H1 Q
theorem Ab{c:Expr}(hc:PT X c tA)(ha:PE X a ta)(hb:PE X b tb):PE X (.IfExp c a b pos) (tIf tA ta tb):=by
 intro pins s σ H Q I h;refine wpAny_IfExp (thn (hc pins s σ H _ I h) fun d s1 ⟨H1,I1,q1⟩=>?_)
 cases d with
 |true=>exact ha pins s1 σ H1 Q I1 q1
 |false=>exact hb pins s1 σ H1 Q I1 q1
end
def SqL(K:Frag)(H:Hp)(a:Addr)(xs:List V):Prop:=
 Rd H a (.lst xs) \/
  ∃(o:Obj) (its:Array Value) (n:Nat),K.lookup a=some o/\o.cls=.type "list"/\o.dict=none/\o.data=.seq its n/\its.size<=sizeLine/\Vals xs its.toList
def SqT(K:Frag)(H:Hp)(a:Addr)(xs:List V):Prop:=
 Rd H a (.tup xs) \/
  ∃(o:Obj) (its:Array Value) (n:Nat),K.lookup a=some o/\o.cls=.type "tuple"/\o.data=.seq its n/\its.size<=sizeLine/\Vals xs its.toList
def FX:Value->Option V
 |.none=>some .non
 |.bool b=>some (.bl b)
 |.int i _=>some (.int i)
 |.str x _=>some (.str x)
 |.bytes b _=>some (.byt b)
 |.float b _=>some (.flt b)
 |.ref a=>some (.ref a)
 |.type n=>some (.ty n)
 |_=>none
theorem RelV.abs{x:V}{u:Value}(r:RelV x u):FX u=some x:=by
 cases x with
 |non=>cases r;rfl
 |bl _=>cases r;rfl
 |int _=>obtain⟨t,rfl⟩:=r;rfl
 |str _=>obtain⟨t,rfl⟩:=r;rfl
 |byt _=>obtain⟨t,rfl⟩:=r;rfl
 |flt _=>obtain⟨t,rfl⟩:=r;rfl
 |ref _=>cases r;rfl
 |ty _=>cases r;rfl
theorem RelV.inj{x y:V}{u:Value}(r:RelV x u)(q:RelV y u):x=y:=Option.some.inj (r.abs.symm.trans q.abs)
theorem Vals.inj:∀{xs ys:List V}{us:List Value},Vals xs us->Vals ys us->xs=ys
 |_,_,_,.nil,.nil=>rfl
 |_,_,_,.cons r t,.cons r' t'=>by rw[r.inj r',Vals.inj t t']
section
variable {X:Cx}{pins:List (Addr×Obj)}{σ:St}{H:Hp}{s:Shared}{a:Addr}{xs ys:List V}
theorem SqL.of{K:Frag}(h:H a=some (.lst xs)):SqL K H a xs:=.inl (.inl h)
theorem SqT.of{K:Frag}(h:H a=some (.tup xs)):SqT K H a xs:=.inl (.inl h)
theorem Inv.list(I:Inv X pins σ H s)(h:SqL X.K H a xs):∃its:List Value,Vals xs its/\PlainL s.heap a its.toArray/\xs.length<=sizeLine:=by
 rcases h with h|⟨o,its,n,hk,hc,hd,hs,hz,r⟩
 .obtain⟨z,its,n,r,e⟩:=h.ok I.hok
  exact⟨its,r,⟨_,n,e,rfl,rfl,rfl⟩,z⟩
 .refine⟨its.toList,r,⟨o,n,I.kIn a o hk,hc,hd,by simpa using hs⟩,?_⟩
  have e:=r.length;simp only[Array.length_toList] at e;omega
theorem Inv.tuple(I:Inv X pins σ H s)(h:SqT X.K H a xs):∃its:List Value,Vals xs its/\IsTup s.heap a its.toArray/\xs.length<=sizeLine:=by
 rcases h with h|⟨o,its,n,hk,hc,hs,hz,r⟩
 .obtain⟨z,its,r,p⟩:=h.ok I.hok
  exact⟨its,r,p,z⟩
 .refine⟨its.toList,r,⟨o,I.kIn a o hk,hc,n,by simpa using hs⟩,?_⟩
  have e:=r.length;simp only[Array.length_toList] at e;omega
theorem Inv.list_inj(I:Inv X pins σ H s)(h:SqL X.K H a xs)(h':SqL X.K H a ys):xs=ys:=by
 obtain⟨its,r,⟨o,n,e,_,_,d⟩,_⟩:=I.list h;obtain⟨its',r',⟨o',n',e',_,_,d'⟩,_⟩:=I.list h';rw[e] at e';cases e';rw[d] at d'
 injection d' with d1 _
 have:its=its':=by simpa using congrArg Array.toList d1
 subst this;exact r.inj r'
theorem Inv.tuple_inj(I:Inv X pins σ H s)(h:SqT X.K H a xs)(h':SqT X.K H a ys):xs=ys:=by
 obtain⟨its,r,⟨o,e,_,n,d⟩,_⟩:=I.tuple h;obtain⟨its',r',⟨o',e',_,n',d'⟩,_⟩:=I.tuple h';rw[e] at e';cases e';rw[d] at d'
 injection d' with d1 _
 have:its=its':=by simpa using congrArg Array.toList d1
 subst this;exact r.inj r'
end
abbrev Cx.wish(X:Cx)(E:Value->Shared->Prop):Cx:={ X with xe:=E }
abbrev Cx.nox(X:Cx):Cx:=X.wish fun _ _=>False
theorem Cx.Ok.wish{X:Cx}(ok:X.Ok)(E:Value->Shared->Prop):(X.wish E).Ok:=⟨ok.mod,ok.kind,ok.glob,ok.blt,ok.above,ok.inj,ok.has,ok.cab,ok.hd,ok.frames,ok.stk,ok.exf,ok.bs,ok.bsz,ok.noex,ok.exfs,ok.funs,ok.frf⟩
theorem Cx.Ok.unwish{X:Cx}{E:Value->Shared->Prop}(ok:(X.wish E).Ok):X.Ok:=⟨ok.mod,ok.kind,ok.glob,ok.blt,ok.above,ok.inj,ok.has,ok.cab,ok.hd,ok.frames,ok.stk,ok.exf,ok.bs,ok.bsz,ok.noex,ok.exfs,ok.funs,ok.frf⟩
section
variable {X:Cx}{pins:List (Addr×Obj)}{σ:St}{H:Hp}{s:Shared}{E:Value->Shared->Prop}
theorem Inv.wish(I:Inv X pins σ H s)(E:Value->Shared->Prop):Inv (X.wish E) pins σ H s:=⟨I.ok.wish E,I.os,I.bare,I.base,I.loc,I.cell,I.free,I.freeC,I.pin,I.hok,I.len⟩
theorem Inv.unwish(I:Inv (X.wish E) pins σ H s):Inv X pins σ H s:=⟨I.ok.unwish,I.os,I.bare,I.base,I.loc,I.cell,I.free,I.freeC,I.pin,I.hok,I.len⟩
theorem SP.unwish{D:Ends}{f:Flow}{s':Shared}(h:SP (X.wish E) pins D f s'):SP X pins D f s':=by
 cases f with
 |next=>obtain⟨σ',H',I,q⟩:=h;exact⟨σ',H',I.unwish,q⟩
 |brk=>obtain⟨σ',H',I,q⟩:=h;exact⟨σ',H',I.unwish,q⟩
 |cont=>obtain⟨σ',H',I,q⟩:=h;exact⟨σ',H',I.unwish,q⟩
 |ret u=>obtain⟨v,σ',H',I,r,q⟩:=h;exact⟨v,σ',H',I.unwish,r,q⟩
theorem PSs.nox{st:List Stmt}{t:TS}(h:PSs X.nox st t):PSs X st t:=fun pins s σ H D I hw=>
 wpAny_mono (h pins s σ H D (I.wish _) hw) (fun _ _ q=>q.unwish) fun _ _ z=>False.elim z
end
section
variable {X:Cx}{st:Stmt}{rest:List Stmt}{t u:TS}{e:Expr}{te:TE}{pos:Pos}
def D5:TS:=fun D σ H=>D.nx σ H
def Ff(t u:TS):TS:=fun D σ H=>t { D with nx:=u D } σ H
theorem Bg:PSs X [] D5:=fun _ _ σ H _ I h=>wpAny_execs_nil ⟨σ,H,I,h⟩
theorem z0(h1:PS X st t)(h2:PSs X rest u):PSs X (st::rest) (Ff t u):=by
 intro pins s σ H D I h;refine wpAny_execs_cons (thn (h1 pins s σ H { D with nx:=u D } I h) fun f s1 q=>?_)
 cases f with
 |next=>
  obtain⟨σ',H',I',q⟩:=q;exact h2 pins s1 σ' H' D I' q
 |ret v=>exact q
 |brk=>exact q
 |cont=>exact q
theorem Bf(h1:PS X st t):PSs X [st] t:=by
 intro pins s σ H D I h;refine wpAny_execs_cons (thn (h1 pins s σ H D I h) fun f s1 q=>?_)
 cases f with
 |next=>exact wpAny_execs_nil q
 |ret v=>exact q
 |brk=>exact q
 |cont=>exact q
theorem Inv.quiet{pins:List (Addr×Obj)}{σ:St}{H:Hp}{s:Shared}(I:Inv X pins σ H s):interactive X.env=false:=by simp[interactive,I.ok.kind]
def D6(te:TE):TS:=fun D σ H=>te σ H fun _ H1=>D.nx σ H1
theorem nR(he:PE X e te)(hs:swapsWith e none pos.line X.env=pure false:=by rfl):PS X (.Expr e pos) (D6 te):=by
 intro pins s σ H D I h;exact wpAny_Expr_any (thn (he pins s σ H _ I h) fun v s1 ⟨x,H1,I1,r1,q1⟩=>⟨σ,H1,I1,q1⟩) I.quiet hs
def Fg(te:TE):TS:=fun D σ H=>te σ H D.rt
theorem oN(he:PE X e te):PS X (.Return (some e) pos) (Fg te):=by
 intro pins s σ H D I h;exact wpAny_Return_some (thn (he pins s σ H _ I h) fun v s1 ⟨x,H1,I1,r1,q1⟩=>⟨x,σ,H1,I1,r1,q1⟩)
def Fj(c:TT)(t u:TS):TS:=fun D σ H=>c σ H fun b H1=>if b=true then t D σ H1 else u D σ H1
theorem Ee{c:Expr}{a b:List Stmt}{tc:TT}(hc:PT X c tc)(ha:PSs X a t)(hb:PSs X b u):PS X (.If c a b pos) (Fj tc t u):=by
 intro pins s σ H D I h;refine wpAny_If (thn (hc pins s σ H _ I h) fun d s1 ⟨H1,I1,q1⟩=>?_)
 cases d with
 |true=>exact ha pins s1 σ H1 D I1 q1
 |false=>exact hb pins s1 σ H1 D I1 q1
end
abbrev TG:=V->St->Hp->(St->Hp->Prop)->Prop
abbrev TGs:=List V->St->Hp->(St->Hp->Prop)->Prop
def PG(X:Cx)(target:Expr)(t:TG):Prop:=
 ∀(pins:List (Addr×Obj)) (s:Shared) (σ:St) (H:Hp) (v:V) (u:Value) (Q:St->Hp->Prop),Inv X pins σ H s->RelV v u->t v σ H Q ->
  wpAny (model X.prog X.w) X.A (assign target X.env u) (fun _ s'=>∃σ' H',Inv X pins σ' H' s'/\Q σ' H') X.xe s
def PGs(X:Cx)(ts:List Expr)(t:TGs):Prop:=
 ∀(pins:List (Addr×Obj)) (s:Shared) (σ:St) (H:Hp) (vs:List V) (us:List Value) (Q:St->Hp->Prop),Inv X pins σ H s->Vals vs us->t vs σ H Q ->
  wpAny (model X.prog X.w) X.A (assignInOrder ((assignEach ts X.env).map (·.2)) us) (fun _ s'=>∃σ' H',Inv X pins σ' H' s'/\Q σ' H') X.xe s
section
variable {X:Cx}{pos:Pos}
def v9(i:Nat):TG:=fun v σ H Q=>Q (σ.set i (some v)) H
theorem nS{i:Nat}{x:Str}(hN:X.N.Nodup)(hi:X.N[i]? = some x)(hx:Loc X.env.scope x)(hf:X.fn x=true\/X.env.scope.names.lookup x=some .local:=by first|exact .inl rfl|exact .inr rfl|assumption):PG X (.Name x pos) (v9 i):=by
 intro pins s σ H v u Q I r h;exact wpAny_assign_Name (nu I hN hi hx r (fun s' I'=>⟨_,H,I',h⟩) hf)
def FL:TGs:=fun vs σ H Q=>vs=[]/\Q σ H
def EK(t:TG)(u:TGs):TGs:=fun vs σ H Q=>∃v r,vs=v::r/\t v σ H fun σ' H'=>u r σ' H' Q
theorem Bn:PGs X [] FL:=by
 intro pins s σ H vs us Q I r h;obtain⟨e,h⟩:=h;subst e;cases r;exact assignInOrder_nil ⟨σ,H,I,h⟩
theorem sy{e:Expr}{es:List Expr}{t:TG}{u:TGs}(h1:PG X e t)(h2:PGs X es u)
  (hs:(assignEach (e::es) X.env).map (·.2)=assign e X.env::(assignEach es X.env).map (·.2):=by rfl):PGs X (e::es) (EK t u):=by
 intro pins s σ H vs us Q I r h;obtain⟨v,vr,e1,h⟩:=h;subst e1
 cases r with
 |cons r rr=>
  rw[hs];refine assignInOrder_cons (thn (h1 pins s σ H _ _ _ I r h) fun _ s1 ⟨σ1,H1,I1,q1⟩=>?_);exact h2 pins s1 σ1 H1 _ _ Q I1 rr q1
def FJ(K:Frag)(n:Nat)(t:TGs):TG:=fun v σ H Q=>∃a xs,v=.ref a/\SqT K H a xs/\xs.length=n/\t xs σ H Q
theorem CP{es:List Expr}{k:Nat}{t:TGs}{n:Nat}(hc:X.calm=true)(h:PGs X es t)
  (hn:(assignEach es X.env).length=n:=by rfl) (hst:(assignEach es X.env).findIdx? (·.1)=none:=by rfl):PG X (.Tuple es k pos) (FJ X.K n t):=by
 intro pins s σ H v u Q I r hw;obtain⟨a,xs,e1,hq,hl,hw⟩:=hw;subst e1;cases r;obtain⟨its,rv,ht,hz⟩:=I.tuple hq;refine assign_Tuple_tuple (I.ok.hd hc) ht (by simp[hn,←hl,rv.length]) hst fun h' hx=>?_;have I1:Inv X pins σ H { s with heap:=h' }:=I.kept (t':=s.toks) fun b o e=>hx b o (Nat.ne_of_lt (Heap.lt_size e)) e;exact h pins _ σ H xs _ Q I1 (by simpa using rv) hw
def Fm(te:TE)(g:TG):TS:=fun D σ H=>te σ H fun x H1=>g x σ H1 D.nx
theorem gX{i:Nat}{x:Str}{e:Expr}{te:TE}{pos':Pos}(hN:X.N.Nodup)(hi:X.N[i]? = some x)(hx:Loc X.env.scope x)(he:PE X e te)(hs:swapsWith e (some (.Name x pos')) pos.line X.env=pure false:=by rfl)(hf:X.fn x=true\/X.env.scope.names.lookup x=some .local:=by first|exact .inl rfl|exact .inr rfl|assumption) :
  PS X (.Assign [.Name x pos'] e pos) (Fm te (v9 i)):=by
 intro pins s σ H D I h;refine wpAny_Assign_Name (thn (he pins s σ H _ I h) fun v s1 ⟨y,H1,I1,r1,q1⟩=>?_) hs;exact nu I1 hN hi hx r1 (fun s2 I2=>⟨_,H1,I2,q1⟩) hf
def Ct(c:TT)(tb:TS):TS:=fun D σ H=>∃W:Nat->St->Hp->Prop,(∃m,W m σ H)/\∀m σ H,W m σ H ->
 c σ H fun b H1=>if b=true then ∃N:St->Hp->Prop,(∀σ' H',N σ' H'->∃m',m' < m/\W m' σ' H')/\tb { D with nx:=N,ct:=N,bk:=D.nx } σ H1 else D.nx σ H1
theorem z5{c:Expr}{body:List Stmt}{tc:TT}{tb:TS}(hp:PassesOwn (model X.prog X.w) X.A X.env X.xe)(hc:PT X c tc)(hb:PSs X body tb):PS X (.While c body [] pos) (Ct tc tb):=by
 intro pins s σ H D I h;obtain⟨W,⟨m0,w0⟩,turn⟩:=h;refine wpAny_While (codeAny_whileLoop (fun n s'=>∃σ' H',Inv X pins σ' H' s'/\W n σ' H') ?_ m0 ⟨σ,H,I,w0⟩);rintro n s1 ⟨σ1,H1,I1,w1⟩;refine wpAny_passesOwn hp (thn (hc pins s1 σ1 H1 _ I1 (turn n σ1 H1 w1)) fun b s2 ⟨H2,I2,q2⟩=>?_)
 cases b with
 |true=>
  obtain⟨N,hN,q2⟩:=q2;rw[if_pos rfl];refine wpAny_passesOwn hp (thn (hb pins s2 σ1 H2 _ I2 q2) fun f s3 q3=>?_)
  cases f with
  |next=>
   obtain⟨σ3,H3,I3,n3⟩:=q3;obtain⟨m',hm,w3⟩:=hN σ3 H3 n3;exact⟨m',hm,σ3,H3,I3,w3⟩
  |cont=>
   obtain⟨σ3,H3,I3,n3⟩:=q3;obtain⟨m',hm,w3⟩:=hN σ3 H3 n3;exact⟨m',hm,σ3,H3,I3,w3⟩
  |brk=>exact q3
  |ret v=>exact q3
 |false=>
  rw[if_neg Bool.false_ne_true];exact wpAny_execs_nil ⟨σ1,H2,I2,q2⟩
end
structure It where
 go:Nat->Hp->Prop
 yld:Nat->Hp->V->Hp->Prop
 stop:Nat->Hp->Prop
def dG(X:Cx)(pins:List (Addr×Obj))(H:Hp)(b:Addr):Prop:=H b=none/\b≠X.env.locals/\b∉X.fs/\(b∈X.ex\/X.s₀.heap.objs.size<=b)/\(∀x c,X.env.cells.lookup x=some c->c≠b)/\∀p∈X.pn++pins,p.1≠b
theorem Inv.fpOk{X:Cx}{pins:List (Addr×Obj)}{σ:St}{H H':Hp}{s:Shared}{b:Addr}(I:Inv X pins σ H s)(hb:s.heap.objs.size<=b)(hn:H' b=none):dG X pins H' b:=by
 refine⟨hn,Nat.ne_of_gt (Nat.lt_of_lt_of_le I.lt hb),I.nofs hb,.inr (Nat.le_trans I.sz hb),fun x c e z=>?_,fun p hp z=>?_⟩
 .obtain⟨v,q⟩:=I.cell x c e
  exact absurd (Nat.lt_of_lt_of_le q.lt (by rw[z];exact hb)) (Nat.lt_irrefl _)
 .exact absurd (Nat.lt_of_lt_of_le (Heap.lt_size (I.pin p hp).1) (by rw[z];exact hb)) (Nat.lt_irrefl _)
structure Turn(P:Program)(w:World)(K:Frag)(tg:Expr)(J:It)(fp:List Addr)(it:Addr)(tn:Nat->Heap->Prop):Prop where
 mem:it∈fp
 obj:∀i h,tn i h->∀b∈fp,∃o,h.get? b=some o/\∀v,o.data≠.cell v
 keep:∀i h h',tn i h->(∀b∈fp,∀o,h.get? b=some o->h'.get? b=some o)->tn i h'
 item:∀(X:Cx),X.prog=P->X.w=w->X.K=K->X.calm=true->∀(i:Nat) (pins:List (Addr×Obj)) (s:Shared) (σ:St) (H:Hp) (E:Value->Shared->Prop),Inv X pins σ H s->(∀b∈fp,dG X pins H b)->tn i s.heap->J.go i H ->
  wpAny (model P w) X.A (pyNext (.ref it)) (fun r s1=>∃u,r=some u /\
   wpAny (model P w) X.A (letOwnedTupleGo tg (.ref it) u) (fun _ s2=>∃x H',Inv X pins σ H' s2/\RelV x u/\J.yld i H x H'/\tn (i+1) s2.heap/\∀b∈fp,H' b=none) E s1) E s
 done:∀(X:Cx),X.prog=P->X.w=w->X.K=K->X.calm=true->∀(i:Nat) (pins:List (Addr×Obj)) (s:Shared) (σ:St) (H:Hp) (E:Value->Shared->Prop),Inv X pins σ H s->(∀b∈fp,dG X pins H b)->tn i s.heap->J.stop i H ->
  wpAny (model P w) X.A (pyNext (.ref it)) (fun r s1=>r=none/\Inv X pins σ H s1) E s
 self:∀(A:Around) (i:Nat) (s:Shared) (Q:Value->Shared->Prop) (E:Value->Shared->Prop),tn i s.heap->Q (.ref it) s->wpAny (model P w) A (pyIter (.ref it)) Q E s
abbrev TI:=St->Hp->(It->Hp->Prop)->Prop
def PIE(X:Cx)(pins:List (Addr×Obj))(σ:St)(tg:Expr)(R:It->Hp->Prop)(itv:Value)(s2:Shared):Prop:=∃(it:Addr) (fp:List Addr) (tn:Nat->Heap->Prop) (J:It) (H':Hp),itv=.ref it/\Inv X pins σ H' s2/\Turn X.prog X.w X.K tg J fp it tn/\tn 0 s2.heap/\(∀b∈fp,dG X pins H' b)/\R J H'
def PI(X:Cx)(tg iter:Expr)(wi:TI):Prop:=
 ∀(pins:List (Addr×Obj)) (s:Shared) (σ:St) (H:Hp) (R:It->Hp->Prop),Inv X pins σ H s->wi σ H R ->
  wpAny (model X.prog X.w) X.A (eval iter X.env) (fun v s1=>wpAny (model X.prog X.w) X.A (pyIter v) (PIE X pins σ tg R) X.xe s1) X.xe s
theorem j0{M:Model}{A:Around}{E:Value->Shared->Prop}{s:Shared}{tg:Expr}{it:Addr}{u:Value}{o:Obj}{n:String}{vs:Array Value}{Q:Unit->Shared->Prop}(ho:s.heap.get? it=some o)(hc:o.cls=.type n)(hd:o.data=.fields vs)
  (hn:["enumerate","zip","dict_itemiterator","dict_reverseitemiterator","odict_iterator","itertools.zip_longest","itertools.pairwise"].contains n=false) (hQ:Q () s):wpAny M A (letOwnedTupleGo tg (.ref it) u) Q E s:=by
 unfold letOwnedTupleGo
 cases tg <;> first
  |exact wpAny_pure hQ
  | (cases u <;> first
    |exact wpAny_pure hQ
    | (refine wpAny_bind (wpAny_load ho ?_)
       rw[hc,hd];show wpAny M A (if (["enumerate","zip","dict_itemiterator","dict_reverseitemiterator","odict_iterator","itertools.zip_longest","itertools.pairwise"].contains n&&vs[0]? == some (rawInt _))=true then _ else _) Q E s;rw[if_neg (by intro h;rw[hn,Bool.false_and] at h;cases h)]
       exact wpAny_pure hQ))
def Itl(K:Frag)(a:Addr):It:=⟨fun i H=>∃xs x,SqL K H a xs/\xs[i]? = some x,fun i H x H'=>H'=H/\∀xs,SqL K H a xs->xs[i]? = some x,fun i H=>∃xs,SqL K H a xs/\xs.length<=i⟩
def Itt(K:Frag)(a:Addr):It:=⟨fun i H=>∃xs x,SqT K H a xs/\xs[i]? = some x,fun i H x H'=>H'=H/\∀xs,SqT K H a xs->xs[i]? = some x,fun i H=>∃xs,SqT K H a xs/\xs.length<=i⟩
def Itr(lo:Int)(n:Nat):It:=⟨fun i _=>i<n,fun i H x H'=>H'=H/\x=.int (lo+i),fun i _=>n<=i⟩
theorem yM{P:Program}{w:World}{K:Frag}{tg:Expr}(a it:Addr):Turn P w K tg (Itl K a) [it] it (fun i h=>h.IsListIter it a i) where
 mem:=by simp
 obj:=fun i h st b hb=>by
  have e:b=it:=by simpa using hb
  subst e;obtain⟨o,e,c,d⟩:=st;exact⟨o,e,fun v z=>by rw[d] at z;cases z⟩
 keep:=fun i h h' st k=>st.at fun o e=>k it (by simp) o e
 item:=by
  intro X hP hw hK hc i pins s σ H E I hf st hg;subst hP hw hK;obtain⟨xs,x,hq,hx⟩:=hg;obtain⟨its,rv,p,hz⟩:=I.list hq;obtain⟨u,hu,ru⟩:=rv.get hx;obtain⟨f0,f1,f2,f3,f4,f5⟩:=hf it (by simp);refine wpAny_pyNext_list_item st p.isList (x:=u) (by simpa using hu) fun h' st' sb=>?_;have I1:Inv X pins σ H { s with heap:=h' }:=I.turned (t':=s.toks) (fun b o hb e=>(sb.2 b hb).trans e) f0 f1 f3 f4 f5;obtain⟨o,e,c,d⟩:=id st';exact⟨u,rfl,j0 (s:={ s with heap:=h' }) e c d (by decide) ⟨x,H,I1,ru,⟨rfl,fun ys hy=>by rw[I.list_inj hy hq];exact hx⟩,st',fun b hb=>(hf b hb).1⟩⟩
 done:=by
  intro X hP hw hK hc i pins s σ H E I hf st hg;subst hP hw hK;obtain⟨xs,hq,hx⟩:=hg;obtain⟨its,rv,p,hz⟩:=I.list hq;obtain⟨f0,f1,f2,f3,f4,f5⟩:=hf it (by simp);have hl:=rv.length;exact wpAny_pyNext_list_end (I.ok.hd hc) st p.isList (by simp;omega) fun h' eb=>⟨rfl,I.turned (t':=s.toks) (fun b o hb e=>eb b o hb e) f0 f1 f3 f4 f5⟩
 self:=fun _ _ _ _ _ st h=>wpAny_pyIter_listiter st h
theorem yf{P:Program}{w:World}{K:Frag}{tg:Expr}(a it:Addr):Turn P w K tg (Itt K a) [it] it (fun i h=>h.IsTupleIter it a i) where
 mem:=by simp
 obj:=fun i h st b hb=>by
  have e:b=it:=by simpa using hb
  subst e;obtain⟨o,e,c,d⟩:=st;exact⟨o,e,fun v z=>by rw[d] at z;cases z⟩
 keep:=fun i h h' st k=>st.at fun o e=>k it (by simp) o e
 item:=by
  intro X hP hw hK hc i pins s σ H E I hf st hg;subst hP hw hK;obtain⟨xs,x,hq,hx⟩:=hg;obtain⟨its,rv,p,hz⟩:=I.tuple hq;obtain⟨u,hu,ru⟩:=rv.get hx;obtain⟨f0,f1,f2,f3,f4,f5⟩:=hf it (by simp);refine wpAny_pyNext_tuple_item st (show s.heap.IsTuple a its.toArray from p) (x:=u) (by simpa using hu) fun h' st' sb=>?_;have I1:Inv X pins σ H { s with heap:=h' }:=I.turned (t':=s.toks) (fun b o hb e=>(sb.2 b hb).trans e) f0 f1 f3 f4 f5;obtain⟨o,e,c,d⟩:=id st';exact⟨u,rfl,j0 (s:={ s with heap:=h' }) e c d (by decide) ⟨x,H,I1,ru,⟨rfl,fun ys hy=>by rw[I.tuple_inj hy hq];exact hx⟩,st',fun b hb=>(hf b hb).1⟩⟩
 done:=by
  intro X hP hw hK hc i pins s σ H E I hf st hg;subst hP hw hK;obtain⟨xs,hq,hx⟩:=hg;obtain⟨its,rv,p,hz⟩:=I.tuple hq;obtain⟨f0,f1,f2,f3,f4,f5⟩:=hf it (by simp);have hl:=rv.length;exact wpAny_pyNext_tuple_end (I.ok.hd hc) st (show s.heap.IsTuple a its.toArray from p) (by simp;omega) fun h' eb=>⟨rfl,I.turned (t':=s.toks) (fun b o hb e=>eb b o hb e) f0 f1 f3 f4 f5⟩
 self:=fun _ _ _ _ _ st h=>wpAny_pyIter_tupleiter st h
theorem yg{P:Program}{w:World}{K:Frag}{tg:Expr}(it:Addr)(lo:Int)(n:Nat):Turn P w K tg (Itr lo n) [it] it (fun i h=>IsRangeIter h it (lo+(i:Nat)*1) ((n:Int)-(i:Nat)) 1) where
 mem:=by simp
 obj:=fun i h st b hb=>by
  have e:b=it:=by simpa using hb
  subst e
  exact⟨_,st,fun v z=>by
   have z':Data.fields _=Data.cell v:=z
   cases z'⟩
 keep:=fun i h h' st k=>k it (by simp) _ st
 item:=by
  intro X hP hw hK hc i pins s σ H E I hf st hg;subst hP hw hK;obtain⟨f0,f1,f2,f3,f4,f5⟩:=hf it (by simp);have W:=Walks.range (prog:=X.prog) (w:=X.w) (I.ok.hd hc) it lo 1 n;refine W.item i s _ _ hg st fun v h' tk hv st' kk=>?_;obtain⟨t,rfl⟩:=hv;have I1:Inv X pins σ H { s with heap:=h',toks:=tk }:=I.turned (fun b o hb e=>kk b o (by simpa using hb) e) f0 f1 f3 f4 f5;refine⟨_,rfl,j0 (s:={ s with heap:=h',toks:=tk }) (n:="range_iterator") st' rfl rfl (by decide) ⟨.int (lo+i),H,I1,⟨t,?_⟩,⟨rfl,rfl⟩,st',fun b hb=>(hf b hb).1⟩⟩;rw[Int.mul_one]
 done:=by
  intro X hP hw hK hc i pins s σ H E I hf st hg;subst hP hw hK;obtain⟨f0,f1,f2,f3,f4,f5⟩:=hf it (by simp);exact wpAny_pyNext_range_end (I.ok.hd hc) st (by have:n<=i:=hg;omega) fun h' eb=>⟨rfl,I.turned (t':=s.toks) (fun b o hb e=>eb b o hb e) f0 f1 f3 f4 f5⟩
 self:=fun _ _ _ _ _ st h=>wpAny_pyIter_rangeiter st h
section
variable {X:Cx}{tg:Expr}
theorem zU{pins:List (Addr×Obj)}{σ:St}{H:Hp}{s:Shared}{R:It->Hp->Prop}{E:Value->Shared->Prop}{lo hi:Int}{t u v:Tok}{tk:Nat}(I:Inv X pins σ H s)(h1 : -(2^62)<=lo)(h2:lo<2^62)(h3 : -(2^62)<=hi)(h4:hi<2^62)
  (q:R (Itr lo (hi-lo).toNat) H):wpAny (model X.prog X.w) X.A (pyIter (.ref s.heap.objs.size)) (PIE X pins σ tg R) E { s with heap:=s.heap.push { cls:=.type "range",data:=.fields #[.int lo t,.int hi u,.int 1 v] },toks:=tk }:=by
 refine wpAny_pyIter_range (IsRange.new ..) (small_one h1 h2 h3 h4) ?_;have I1:Inv X pins σ H { s with heap:=s.heap.push { cls:=.type "range",data:=.fields #[.int lo t,.int hi u,.int 1 v] },toks:=tk }:=I.kept fun b o e=>Heap.get?_push_of_some _ e
 refine⟨(s.heap.push { cls:=.type "range",data:=.fields #[.int lo t,.int hi u,.int 1 v] }).objs.size,[(s.heap.push { cls:=.type "range",data:=.fields #[.int lo t,.int hi u,.int 1 v] }).objs.size],_,_,H,rfl,
  I1.kept (t':=tk) fun b o e=>Heap.get?_push_of_some _ e,yg _ lo (hi-lo).toNat,?_,fun b hb=>?_,q⟩
 .have e1:lo+((0:Nat):Int)*1=lo:=by simp
  have e2:(((hi-lo).toNat:Nat):Int)-((0:Nat):Int)=Builtin.Range.rangeSize lo hi 1:=by rw[rangeSize_one];split <;> omega
  show IsRangeIter _ _ (lo+((0:Nat):Int)*1) ((((hi-lo).toNat:Nat):Int)-((0:Nat):Int)) 1;rw[e1,e2];exact Heap.get?_push_size _ rfl
 .have e:b=(s.heap.push { cls:=.type "range",data:=.fields #[.int lo t,.int hi u,.int 1 v] }).objs.size:=by simpa using hb
  subst e;exact I1.fpOk (Nat.le_refl _) (I1.hok.fresh (Nat.le_refl _))
def EI(ta:TA):TI:=fun σ H R=>ta σ H fun vs H1=>∃j:Int,vs=[.int j]/\-(2^62)<=j/\j<2^62/\R (Itr 0 j.toNat) H1
theorem yY{a:Expr}{ta:TA}{p pos:Pos}(hg:Gl X "range")(hm:X.mg "range"=none)(ha:PA X [a] ta)(hs:starEach [a] X.env=[(false,eval a X.env)]:=by rfl):PI X tg (.Call (.Name "range" p) [a] [] pos) (EI ta):=by
 intro pins s σ H R I h;refine Call_ (lE I hg hm boot_range (PyProof.Rows.callWith_type1 (thn (ha pos pins s σ H _ I h) fun us s1 ⟨vs,H1,I1,r1,q1⟩=>?_) hs rfl));obtain⟨j,e,q1,q2,q⟩:=q1;subst e
 cases r1 with
 |cons r rr=>
  cases rr;obtain⟨t,rfl⟩:=r;exact call_range_1 (zU I1 (by omega) (by omega) q1 q2 (by simpa using q))
def Fk(wi:TI)(g:TG)(tb:TS):TS:=fun D σ H=>wi σ H fun J H1=>∃W:Nat->Nat->St->Hp->Prop,(∃m,W 0 m σ H1)/\∀i m σ H,W i m σ H ->
 (J.stop i H/\D.nx σ H)\/(J.go i H/\∃N:St->Hp->Prop,(∀σ' H',N σ' H'->∃m',m' < m/\W (i+1) m' σ' H')/\∀x H',J.yld i H x H'->g x σ H' fun σ2 H2=>tb { D with nx:=N,ct:=N,bk:=D.nx } σ2 H2)
def gb(fp:List Addr)(h:Heap):List (Addr×Obj):=fp.filterMap fun b=>(h.get? b).map fun o=>(b,o)
theorem kj{fp:List Addr}{h:Heap}{b:Addr}{o:Obj}(hb:b∈fp)(e:h.get? b=some o):(b,o)∈gb fp h:=List.mem_filterMap.mpr ⟨b,hb,by rw[e];rfl⟩
theorem y3{fp:List Addr}{h:Heap}{p:Addr×Obj}(hp:p∈gb fp h):p.1∈fp/\h.get? p.1=some p.2:=by
 obtain⟨b,hb,e⟩:=List.mem_filterMap.mp hp
 cases q:h.get? b with
 |none=>rw[q] at e;cases e
 |some o=>
  rw[q] at e;have e':(b,o)=p:=Option.some.inj e;subst e';exact⟨hb,q⟩
theorem Inv.pinned{pins:List (Addr×Obj)}{σ:St}{H:Hp}{s:Shared}{fp:List Addr}(I:Inv X pins σ H s)(hf:∀b∈fp,dG X pins H b)(ho:∀b∈fp,∃o,s.heap.get? b=some o/\∀v,o.data≠.cell v):Inv X (pins++gb fp s.heap) σ H s:=
 I.pins_of fun p hp=>(List.mem_append.mp hp).elim (fun z=>I.pin p (List.mem_append_right _ z)) fun z=>by
  obtain⟨hb,e⟩:=y3 z;obtain⟨f0,f1,f2,_⟩:=hf p.1 hb;obtain⟨o,e',d⟩:=ho p.1 hb;rw[e] at e';cases e';exact⟨e,f0,f1,f2,d⟩
theorem Inv.unpinned{pins pl:List (Addr×Obj)}{σ:St}{H:Hp}{s:Shared}(I:Inv X (pins++pl) σ H s):Inv X pins σ H s:=I.pins_of fun p hp=>I.pin p (List.mem_append_right _ (List.mem_append_left _ hp))
theorem uH{iter:Expr}{body:List Stmt}{wi:TI}{g:TG}{tb:TS}{pos:Pos}(hp:PassesOwn (model X.prog X.w) X.A X.env X.xe)(hc:X.calm=true)(hi:PI X tg iter wi)(hg:PG X tg g)(hb:PSs X body tb)
  (hs:∀x,foldedSetIterable iter X.env x=pure x:=by intro _;rfl):PS X (.For tg iter body [] pos) (Fk wi g tb):=by
 intro pins s σ H D I h;refine wpAny_For (thn (hi pins s σ H _ I h) fun v s1 h1=>thn h1 fun itv s2 h2=>?_) hs;obtain⟨it,fp,tn,J,H2,e,I2,T,st2,f2,W,⟨m0,w0⟩,turn⟩:=h2;subst e;have stat:∀{H':Hp},(∀b∈fp,H' b=none)->∀b∈fp,dG X pins H' b:=fun hn b hb=>⟨hn b hb,(f2 b hb).2⟩;refine codeAny_forLoop_any (fun n s'=>∃i σ' H',Inv X pins σ' H' s'/\tn i s'.heap/\(∀b∈fp,H' b=none)/\W i n σ' H') ?_ m0 ⟨0,σ,H2,I2,st2,fun b hb=>(f2 b hb).1,w0⟩;rintro n s3 ⟨i,σ3,H3,I3,st3,fr3,w3⟩
 rcases turn i n σ3 H3 w3 with⟨stop,qn⟩|⟨go,N,hN,step⟩
 .refine wpAny_passesOwn hp (thn (T.done X rfl rfl rfl hc i pins s3 σ3 H3 X.xe I3 (stat fr3) st3 stop) fun r s4 ⟨hr,I4⟩=>?_)
  subst hr;exact wpAny_execs_nil ⟨σ3,H3,I4,qn⟩
 .refine wpAny_passesOwn hp (thn (T.item X rfl rfl rfl hc i pins s3 σ3 H3 X.xe I3 (stat fr3) st3 go) fun r s4 ⟨u,hr,h4⟩=>?_)
  subst hr;refine wpAny_passesOwn hp (thn h4 fun _ s5 ⟨x,H5,I5,r5,y5,st5,fr5⟩=>?_);have I5':=I5.pinned (stat fr5) (T.obj _ _ st5);refine wpAny_passesOwn hp (thn (hg _ s5 σ3 H5 x u _ I5' r5 (step x H5 y5)) fun _ s6 ⟨σ6,H6,I6,q6⟩=>?_);refine wpAny_passesOwn hp (thn (hb _ s6 σ6 H6 _ I6 q6) fun f s7 q7=>?_)
  have again:∀{σ7:St}{H7:Hp},Inv X (pins++gb fp s5.heap) σ7 H7 s7->N σ7 H7->∃m,m<n/\∃i σ' H',Inv X pins σ' H' s7/\tn i s7.heap/\(∀b∈fp,H' b=none)/\W i m σ' H':=fun {σ7 H7} I7 n7=>by
   obtain⟨m',hm,w7⟩:=hN σ7 H7 n7;refine⟨m',hm,i+1,σ7,H7,I7.unpinned,T.keep _ _ _ st5 fun b hb o e=>(I7.pin (b,o) (List.mem_append_right _ (List.mem_append_right _ (kj hb e)))).1,fun b hb=>?_,w7⟩;obtain⟨o,e,d⟩:=T.obj _ _ st5 b hb;exact(I7.pin (b,o) (List.mem_append_right _ (List.mem_append_right _ (kj hb e)))).2.1
  cases f with
  |next=>obtain⟨σ7,H7,I7,n7⟩:=q7;exact again I7 n7
  |cont=>obtain⟨σ7,H7,I7,n7⟩:=q7;exact again I7 n7
  |brk=>obtain⟨σ7,H7,I7,q7⟩:=q7;exact⟨σ7,H7,I7.unpinned,q7⟩
  |ret v=>obtain⟨x7,σ7,H7,I7,r7,q7⟩:=q7;exact⟨x7,σ7,H7,I7.unpinned,r7,q7⟩
end
abbrev R2:=V->V->Hp->VK->Prop
def OpR(X:Cx)(f:Value->Value->Sem Value)(r:R2):Prop:=
 ∀(pins:List (Addr×Obj)) (s:Shared) (σ:St) (H:Hp) (x y:V) (v u:Value) (Q:VK),Inv X pins σ H s->RelV x v->RelV y u->r x y H Q ->
  wpAny (model X.prog X.w) X.A (f v u) (EP X pins σ Q) X.xe s
def UnR(X:Cx)(f:Value->Sem Value)(r:V->Hp->VK->Prop):Prop:=
 ∀(pins:List (Addr×Obj)) (s:Shared) (σ:St) (H:Hp) (x:V) (v:Value) (Q:VK),Inv X pins σ H s->RelV x v->r x H Q ->
  wpAny (model X.prog X.w) X.A (f v) (EP X pins σ Q) X.xe s
def CallR(X:Cx)(f:Value)(r:List V->Hp->VK->Prop):Prop:=
 ∀(pins:List (Addr×Obj)) (s:Shared) (σ:St) (H:Hp) (xs:List V) (us:List Value) (Q:VK),Inv X pins σ H s->Vals xs us->r xs H Q ->
  wpAny (model X.prog X.w) X.A (call f us) (EP X pins σ Q) X.xe s
def FY(X:Cx)(r:V->Hp->(Bool->Hp->Prop)->Prop):Prop:=
 ∀(pins:List (Addr×Obj)) (s:Shared) (σ:St) (H:Hp) (x:V) (v:Value) (Q:Bool->Hp->Prop),Inv X pins σ H s->RelV x v->r x H Q ->
  wpAny (model X.prog X.w) X.A (truthy v) (TP X pins σ Q) X.xe s
def tOp(r:R2)(ta tb:TE):TE:=fun σ H Q=>ta σ H fun x H1=>tb σ H1 fun y H2=>r x y H2 Q
def tUn(r:V->Hp->VK->Prop)(ta:TE):TE:=fun σ H Q=>ta σ H fun x H1=>r x H1 Q
def rI(C:Int->Int->Prop)(g:Int->Int->V):R2:=fun x y H Q=>∃i j,x=.int i/\y=.int j/\C i j/\Q (g i j) H
def rI0(g:Int->Int->V):R2:=fun x y H Q=>∃i j,x=.int i/\y=.int j/\Q (g i j) H
def rU(g:Int->V):V->Hp->VK->Prop:=fun x H Q=>∃i,x=.int i/\Q (g i) H
section
variable {X:Cx}{a b c:Expr}{ta tb tc:TE}{pos:Pos}
theorem pX(ha:PE X a ta)(hb:PE X b tb){pins:List (Addr×Obj)}{s:Shared}{σ:St}{H:Hp}{R:V->V->Hp->Prop}(I:Inv X pins σ H s)
  (h:ta σ H fun x H1=>tb σ H1 fun y H2=>R x y H2) {Q:Value->Shared->Prop}{f:Value->Value->Sem Value}
  (hf:∀v u s2 x y H2,Inv X pins σ H2 s2->RelV x v->RelV y u->R x y H2->wpAny (model X.prog X.w) X.A (f v u) Q X.xe s2) :
  wpAny (model X.prog X.w) X.A (eval a X.env) (fun v s₁=>wpAny (model X.prog X.w) X.A (eval b X.env) (fun u s₂=>wpAny (model X.prog X.w) X.A (f v u) Q X.xe s₂) X.xe s₁) X.xe s:=by
 refine thn (ha pins s σ H _ I h) fun v s1 ⟨x,H1,I1,r1,q1⟩=>?_;refine thn (hb pins s1 σ H1 _ I1 q1) fun u s2 ⟨y,H2,I2,r2,q2⟩=>?_;exact hf v u s2 x y H2 I2 r1 r2 q2
theorem vO{op:Operator}{r:R2}(ho:OpR X (binaryOp op) r)(ha:PE X a ta)(hb:PE X b tb):PE X (.BinOp a op b pos) (tOp r ta tb):=by
 intro pins s σ H Q I h;exact wpAny_BinOp (pX ha hb I h fun v u s2 x y H2 I2 rx ry q=>ho pins s2 σ H2 x y v u Q I2 rx ry q)
theorem Eg{op:UnaryOp}{r:V->Hp->VK->Prop}(ho:UnR X (unaryOp op) r)(ha:PE X a ta):PE X (.UnaryOp op a pos) (tUn r ta):=by
 intro pins s σ H Q I h;exact UnaryOp_ (thn (ha pins s σ H _ I h) fun v s1 ⟨x,H1,I1,r1,q1⟩=>ho pins s1 σ H1 x v Q I1 r1 q1)
theorem opI{f:Value->Value->Sem Value}{C:Int->Int->Prop}{g:Int->Int->Int}
  (rule:∀(i j:Int) (t u:Tok) (s:Shared) (Q:Value->Shared->Prop) (E:Value->Shared->Prop),C i j->Q (.int (g i j) s.toks) { s with toks:=s.toks+1 }->wpAny (model X.prog X.w) X.A (f (.int i t) (.int j u)) Q E s) :
  OpR X f (rI C fun i j=>.int (g i j)):=by
 intro pins s σ H x y v u Q I rx ry h;obtain⟨i,j,rfl,rfl,hc,q⟩:=h;obtain⟨t,rfl⟩:=rx;obtain⟨t',rfl⟩:=ry;exact rule i j t t' s _ _ hc ⟨.int (g i j),H,I.tok _,⟨_,rfl⟩,q⟩
theorem wQ{f:Value->Value->Sem Value}{g:Int->Int->Int}
  (rule:∀(i j:Int) (t u:Tok) (s:Shared) (Q:Value->Shared->Prop) (E:Value->Shared->Prop),Q (.int (g i j) s.toks) { s with toks:=s.toks+1 }->wpAny (model X.prog X.w) X.A (f (.int i t) (.int j u)) Q E s) :
  OpR X f (rI0 fun i j=>.int (g i j)):=by
 intro pins s σ H x y v u Q I rx ry h;obtain⟨i,j,rfl,rfl,q⟩:=h;obtain⟨t,rfl⟩:=rx;obtain⟨t',rfl⟩:=ry;exact rule i j t t' s _ _ ⟨.int (g i j),H,I.tok _,⟨_,rfl⟩,q⟩
theorem mv{f:Value->Value->Sem Value}{g:Int->Int->Bool}
  (rule:∀(i j:Int) (t u:Tok) (s:Shared) (Q:Value->Shared->Prop) (E:Value->Shared->Prop),Q (.bool (g i j)) s->wpAny (model X.prog X.w) X.A (f (.int i t) (.int j u)) Q E s) :
  OpR X f (rI0 fun i j=>.bl (g i j)):=by
 intro pins s σ H x y v u Q I rx ry h;obtain⟨i,j,rfl,rfl,q⟩:=h;obtain⟨t,rfl⟩:=rx;obtain⟨t',rfl⟩:=ry;exact rule i j t t' s _ _ ⟨.bl (g i j),H,I,rfl,q⟩
def F1(i j:Int):Prop:=0<=j/\j<=1000000/\i.natAbs<2^64
def CMul(i j:Int):Prop:=(-(2^64)<i/\i<2^64)\/(-(2^64)<j/\j<2^64)
theorem CMul.ok{i j:Int}(h:CMul i j):IntMulOk i j:=by
 rcases h with⟨h1,h2⟩|⟨h1,h2⟩
 .exact .of_left (intBits_le_64 h1 h2)
 .exact .of_right (intBits_le_64 h1 h2)
theorem ye(k:Nat):(0:Int)<=2^k:=by
 rw[two_pow_cast];exact Int.natCast_nonneg _
theorem op_add:OpR X (binaryOp .Add) (rI0 fun i j=>.int (i+j)):=wQ fun _ _ _ _ _ _ _ q=>add_int q
theorem C1:OpR X (binaryOp .Sub) (rI0 fun i j=>.int (i-j)):=wQ fun _ _ _ _ _ _ _ q=>sub_int q
theorem op_mul:OpR X (binaryOp .Mult) (rI CMul fun i j=>.int (i*j)):=opI fun _ _ _ _ _ _ _ hc q=>mul_int q hc.ok
theorem C5:OpR X (binaryOp .Mod) (rI (fun _ j=>0<j) fun i j=>.int (i % j)):=opI fun i j _ _ _ _ _ hc q=>by
 have h1:(0:Int)<j:=hc;exact mod_int' (by omega) (by rw[Int.fmod_eq_emod_of_nonneg i (by omega)];exact q)
theorem C3:OpR X (binaryOp .Pow) (rI F1 fun i j=>.int (i^j.toNat)):=opI fun _ _ _ _ _ _ _ hc q=>pow_int_small hc.1 hc.2.1 hc.2.2 q
theorem C2:OpR X (binaryOp .RShift) (rI (fun _ j=>0<=j) fun i j=>.int (i / 2^j.toNat)):=opI fun i j _ _ _ _ _ hc q=>
 rshift_int hc (by rw[Int.fdiv_eq_ediv_of_nonneg i (ye _)];exact q)
theorem unI{f:Value->Sem Value}{g:Int->Int}
  (rule:∀(i:Int) (t:Tok) (s:Shared) (Q:Value->Shared->Prop) (E:Value->Shared->Prop),Q (.int (g i) s.toks) { s with toks:=s.toks+1 }->wpAny (model X.prog X.w) X.A (f (.int i t)) Q E s) :
  UnR X f (rU fun i=>.int (g i)):=by
 intro pins s σ H x v Q I rx h;obtain⟨i,rfl,q⟩:=h;obtain⟨t,rfl⟩:=rx;exact rule i t s _ _ ⟨.int (g i),H,I.tok _,⟨_,rfl⟩,q⟩
theorem Cn:UnR X (unaryOp .USub) (rU fun i=>.int (-i)):=unI fun _ _ _ _ _ q=>neg_int q
end
def pR:V->V->Bool
 |.non,.non=>true | .non,.int _=>true | .int _,.non=>true | .non,.bl _=>true | .bl _,.non=>true | .non,.str _=>true | .str _,.non=>true
 |.int _,.int _=>true | .bl _,.bl _=>true | .str _,.str _=>true | .byt _,.byt _=>true
 |.int _,.str _=>true | .str _,.int _=>true | .bl _,.str _=>true | .str _,.bl _=>true
 |_,_=>false
def rEq:R2:=fun x y H Q=>pR x y=true/\Q (.bl (decide (x=y))) H
def rNe:R2:=fun x y H Q=>pR x y=true/\Q (.bl (!decide (x=y))) H
theorem uf{i j:Int}:decide (V.int i=V.int j)=(i == j):=by
 rw[Bool.eq_iff_iff];simp
theorem vm{i j:Bool}:decide (V.bl i=V.bl j)=(i == j):=by
 rw[Bool.eq_iff_iff];simp
theorem ue{i j:Str}:decide (V.str i=V.str j)=(i == j):=by
 rw[Bool.eq_iff_iff];simp
theorem ug{i j:Array UInt8}:decide (V.byt i=V.byt j)=(i.toList == j.toList):=by
 rw[Bool.eq_iff_iff];cases i;cases j;simp
section
variable {X:Cx}{a b c:Expr}{ta tb tc:TE}{pos:Pos}
theorem bo{pins:List (Addr×Obj)}{σ:St}{H:Hp}{s:Shared}{Q:VK}{k k':Bool}(I:Inv X pins σ H s)(q:Q (.bl k) H)(e:k=k'):EP X pins σ Q (.bool k') s:=by
 subst e;exact⟨.bl k,H,I,rfl,q⟩
theorem Er:OpR X (compareOp .Eq) rEq:=by
 intro pins s σ H x y v u Q I rx ry h;obtain⟨hs,q⟩:=h
 cases x with
 |non=>
  cases rx
  cases y with
  |non=>cases ry;exact PySem.EqNone.eq_none_none (bo I q (by simp))
  |bl j=>cases ry;exact PySem.EqNone.eq_none_bool (bo I q (by simp))
  |int j=>obtain⟨t',rfl⟩:=ry;exact PySem.EqNone.eq_none_int (bo I q (by simp))
  |str j=>obtain⟨t',rfl⟩:=ry;exact PySem.EqNone.eq_none_str (bo I q (by simp))
  |_=>exact absurd (show false=true from hs) Bool.false_ne_true
 |bl i=>
  cases rx
  cases y with
  |non=>cases ry;exact PySem.EqNone.eq_bool_none (bo I q (by simp))
  |bl j=>cases ry;exact eq_bool (bo I q vm)
  |str j=>obtain⟨t',rfl⟩:=ry;exact PySem.EqMixed.eq_bool_str (bo I q (by simp))
  |_=>exact absurd (show false=true from hs) Bool.false_ne_true
 |int i=>
  obtain⟨t,rfl⟩:=rx
  cases y with
  |non=>cases ry;exact PySem.EqNone.eq_int_none (bo I q (by simp))
  |int j=>obtain⟨t',rfl⟩:=ry;exact eq_int (bo I q uf)
  |str j=>obtain⟨t',rfl⟩:=ry;exact PySem.EqMixed.eq_int_str (bo I q (by simp))
  |_=>exact absurd (show false=true from hs) Bool.false_ne_true
 |str i=>
  obtain⟨t,rfl⟩:=rx
  cases y with
  |non=>cases ry;exact PySem.EqNone.eq_str_none (bo I q (by simp))
  |bl j=>cases ry;exact PySem.EqMixed.eq_str_bool (bo I q (by simp))
  |int j=>obtain⟨t',rfl⟩:=ry;exact PySem.EqMixed.eq_str_int (bo I q (by simp))
  |str j=>obtain⟨t',rfl⟩:=ry;exact eq_str (bo I q ue)
  |_=>exact absurd (show false=true from hs) Bool.false_ne_true
 |byt i=>
  obtain⟨t,rfl⟩:=rx
  cases y with
  |byt j=>obtain⟨t',rfl⟩:=ry;exact PySem.W.eq_bytes (bo I q ug)
  |_=>exact absurd (show false=true from hs) Bool.false_ne_true
 |_=>cases y <;> exact absurd (show false=true from hs) Bool.false_ne_true
theorem El:OpR X (compareOp .NotEq) rNe:=by
 intro pins s σ H x y v u Q I rx ry h;obtain⟨hs,q⟩:=h
 cases x with
 |non=>
  cases rx
  cases y with
  |non=>cases ry;exact PySem.EqNone.ne_none_none (bo I q (by simp))
  |bl j=>cases ry;exact PySem.EqNone.ne_none_bool (bo I q (by simp))
  |int j=>obtain⟨t',rfl⟩:=ry;exact PySem.EqNone.ne_none_int (bo I q (by simp))
  |str j=>obtain⟨t',rfl⟩:=ry;exact PySem.EqNone.ne_none_str (bo I q (by simp))
  |_=>exact absurd (show false=true from hs) Bool.false_ne_true
 |bl i=>
  cases rx
  cases y with
  |non=>cases ry;exact PySem.EqNone.ne_bool_none (bo I q (by simp))
  |bl j=>cases ry;exact ne_bool (bo I q (congrArg not vm))
  |str j=>obtain⟨t',rfl⟩:=ry;exact PySem.EqMixed.ne_bool_str (bo I q (by simp))
  |_=>exact absurd (show false=true from hs) Bool.false_ne_true
 |int i=>
  obtain⟨t,rfl⟩:=rx
  cases y with
  |non=>cases ry;exact PySem.EqNone.ne_int_none (bo I q (by simp))
  |int j=>obtain⟨t',rfl⟩:=ry;exact ne_int (bo I q (congrArg not uf))
  |str j=>obtain⟨t',rfl⟩:=ry;exact PySem.EqMixed.ne_int_str (bo I q (by simp))
  |_=>exact absurd (show false=true from hs) Bool.false_ne_true
 |str i=>
  obtain⟨t,rfl⟩:=rx
  cases y with
  |non=>cases ry;exact PySem.EqNone.ne_str_none (bo I q (by simp))
  |bl j=>cases ry;exact PySem.EqMixed.ne_str_bool (bo I q (by simp))
  |int j=>obtain⟨t',rfl⟩:=ry;exact PySem.EqMixed.ne_str_int (bo I q (by simp))
  |str j=>obtain⟨t',rfl⟩:=ry;exact ne_str (bo I q (congrArg not ue))
  |_=>exact absurd (show false=true from hs) Bool.false_ne_true
 |byt i=>
  obtain⟨t,rfl⟩:=rx
  cases y with
  |byt j=>obtain⟨t',rfl⟩:=ry;exact PySem.W.ne_bytes (bo I q (congrArg not ug))
  |_=>exact absurd (show false=true from hs) Bool.false_ne_true
 |_=>cases y <;> exact absurd (show false=true from hs) Bool.false_ne_true
theorem Em:OpR X (compareOp .Lt) (rI0 fun i j=>.bl (decide (i<j))):=mv fun _ _ _ _ _ _ _ q=>lt_int q
theorem En:OpR X (compareOp .LtE) (rI0 fun i j=>.bl (decide (i<=j))):=mv fun _ _ _ _ _ _ _ q=>le_int q
theorem Eo:OpR X (compareOp .Gt) (rI0 fun i j=>.bl (decide (j<i))):=mv fun _ _ _ _ _ _ _ q=>gt_int q
theorem Ep:OpR X (compareOp .GtE) (rI0 fun i j=>.bl (decide (j<=i))):=mv fun _ _ _ _ _ _ _ q=>ge_int q
theorem op_in_str:OpR X (compareOp .In) (fun x y H Q=>∃i j,x=.str i/\y=.str j/\Q (.bl (!(Builtin.Str.occurrences j i 0 j.length 1).isEmpty)) H):=by
 intro pins s σ H x y v u Q I rx ry h;obtain⟨i,j,rfl,rfl,q⟩:=h;obtain⟨t,rfl⟩:=rx;obtain⟨t',rfl⟩:=ry;exact in_str (bo I q rfl)
theorem C6:OpR X (compareOp .Is) (fun x y H Q=>y=.non/\Q (.bl (decide (x=.non))) H):=by
 intro pins s σ H x y v u Q I rx ry h;obtain⟨rfl,q⟩:=h;cases ry;refine is_none_gen (bo I q ?_)
 cases x <;> first
  |(cases rx;rfl)
  |(obtain⟨t,rfl⟩:=rx;rfl)
theorem op_notN:OpR X (compareOp .IsNot) (fun x y H Q=>y=.non/\Q (.bl (!decide (x=.non))) H):=by
 intro pins s σ H x y v u Q I rx ry h;obtain⟨rfl,q⟩:=h;cases ry;refine isnot_none_gen (bo I q ?_)
 cases x <;> first
  |(cases rx;rfl)
  |(obtain⟨t,rfl⟩:=rx;rfl)
theorem op_notin_str:OpR X (compareOp .NotIn) (fun x y H Q=>∃i j,x=.str i/\y=.str j/\Q (.bl (!(!(Builtin.Str.occurrences j i 0 j.length 1).isEmpty))) H):=by
 intro pins s σ H x y v u Q I rx ry h;obtain⟨i,j,rfl,rfl,q⟩:=h;obtain⟨t,rfl⟩:=rx;obtain⟨t',rfl⟩:=ry;exact notIn_str (bo I q rfl)
theorem OpR.or{f:Value->Value->Sem Value}{r r':R2}(h:OpR X f r)(h':OpR X f r'):OpR X f (fun x y H Q=>r x y H Q\/r' x y H Q):=by
 intro pins s σ H x y v u Q I rx ry q
 rcases q with q|q
 .exact h pins s σ H x y v u Q I rx ry q
 .exact h' pins s σ H x y v u Q I rx ry q
theorem uN(b:Expr){op:CmpOp}(h:op≠.In:=by decide)(h2:op≠.NotIn:=by decide):behindInMarks op b=false:=by
 have e1:(op == CmpOp.In)=false:=by cases op <;> first|rfl|exact absurd rfl h
 have e2:(op == CmpOp.NotIn)=false:=by cases op <;> first|rfl|exact absurd rfl h2
 cases b <;> simp[behindInMarks,e1,e2]
theorem Bp{op:CmpOp}{r:R2}(ho:OpR X (compareOp op) r)(ha:PE X a ta)(hb:PE X b tb)(hm:behindInMarks op b=false):PE X (.Compare a [op] [b] pos) (tOp r ta tb):=by
 intro pins s σ H Q I h;exact wpAny_Compare1 (pX ha hb I h fun v u s2 x y H2 I2 rx ry q=>ho pins s2 σ H2 x y v u Q I2 rx ry q) hm
def vH(t:TE):TT:=fun σ H Q=>t σ H fun x H'=>∃k,x=.bl k/\Q k H'
theorem Be{op:CmpOp}{r:R2}(ho:OpR X (compareOp op) r)(ha:PE X a ta)(hb:PE X b tb)(hm:behindInMarks op b=false):PT X (.Compare a [op] [b] pos) (vH (tOp r ta tb)):=by
 intro pins s σ H Q I h
 refine wpAny_isTrue_Compare1 (thn (ha pins s σ H _ I h) fun v s1 ⟨x,H1,I1,r1,q1⟩=>thn (hb pins s1 σ H1 _ I1 q1) fun u s2 ⟨y,H2,I2,r2,q2⟩=>
  thn (ho pins s2 σ H2 x y v u _ I2 r1 r2 q2) fun c s3 ⟨z,H3,I3,r3,k,e,q3⟩=>?_) hm
 subst e;cases r3;exact wpAny_truthy_bool ⟨H3,I3,q3⟩
def oI(r r':R2)(ta tb tc:TE):TE:=fun σ H Q=>ta σ H fun x H1=>tb σ H1 fun y H2=>r x y H2 fun z H3=>∃k,z=.bl k /\
 (if k=true then tc σ H3 fun w' H4=>r' y w' H4 Q else Q (.bl false) H3)
theorem Ad{op op':CmpOp}{r r':R2}(ho:OpR X (compareOp op) r)(ho':OpR X (compareOp op') r')(ha:PE X a ta)(hb:PE X b tb)(hc:PE X c tc)
  (hm:lastMarks [op,op'] [b,c]=false:=by with_unfolding_all rfl):PE X (.Compare a [op,op'] [b,c] pos) (oI r r' ta tb tc):=by
 intro pins s σ H Q I h
 refine Compare_chain (thn (ha pins s σ H _ I h) fun v s1 ⟨x,H1,I1,r1,q1⟩=>chain_link (thn (hb pins s1 σ H1 _ I1 q1) fun u s2 ⟨y,H2,I2,r2,q2⟩=>
  thn (ho pins s2 σ H2 x y v u _ I2 r1 r2 q2) fun d s3 ⟨z,H3,I3,r3,k,e,q3⟩=>?_)) hm
 subst e;cases r3;refine wpAny_truthy_bool ?_
 cases k with
 |false=>exact ite_ff ⟨.bl false,H3,I3,rfl,q3⟩
 |true=>exact ite_tt (chain_last (thn (hc pins s3 σ H3 _ I3 q3) fun w' s4 ⟨z',H4,I4,r4,q4⟩=>ho' pins s4 σ H4 y z' u w' Q I4 r2 r4 q4))
theorem zY{op op':CmpOp}{r r':R2}(ho:OpR X (compareOp op) r)(ho':OpR X (compareOp op') r')(ha:PE X a ta)(hb:PE X b tb)(hc:PE X c tc)
  (hm:lastMarks [op,op'] [b,c]=false:=by with_unfolding_all rfl):PT X (.Compare a [op,op'] [b,c] pos) (vH (oI r r' ta tb tc)):=by
 intro pins s σ H Q I h
 refine isTrue_chain (thn (ha pins s σ H _ I h) fun v s1 ⟨x,H1,I1,r1,q1⟩=>test_link (thn (hb pins s1 σ H1 _ I1 q1) fun u s2 ⟨y,H2,I2,r2,q2⟩=>
  thn (ho pins s2 σ H2 x y v u _ I2 r1 r2 q2) fun d s3 ⟨z,H3,I3,r3,k,e,q3⟩=>?_)) hm
 subst e;cases r3;refine wpAny_truthy_bool ?_
 cases k with
 |false=>
  obtain⟨k',e',q'⟩:=q3;cases e';exact ite_ff ⟨H3,I3,q'⟩
 |true=>
  refine ite_tt (test_last (thn (hc pins s3 σ H3 _ I3 q3) fun w' s4 ⟨z',H4,I4,r4,q4⟩=>thn (ho' pins s4 σ H4 y z' u w' _ I4 r2 r4 q4) fun d' s5 ⟨z2,H5,I5,r5,k2,e2,q5⟩=>?_));subst e2;cases r5;exact wpAny_truthy_bool ⟨H5,I5,q5⟩
def pY(K:Frag)(x:V)(H:Hp)(k:Bool):Prop:=
 match x with
 |.non=>k=false
 |.bl b=>k=b
 |.int i=>k=(i != 0)
 |.str y=>y.length<=sizeLine/\k=((y.length:Int) != 0)
 |.byt y=>y.size<=sizeLine/\k=((y.size:Int) != 0)
 |.ref p=>(∃xs,SqL K H p xs/\k = !xs.isEmpty)\/(∃xs,SqT K H p xs/\k = !xs.isEmpty)\/∃kvs,H p=some (.dK kvs)/\k = !kvs.isEmpty
 |_=>False
theorem yz{κ:Type}{kvs:List (κ×V)}{vs:List (κ×Value)}(r:KV kvs vs):(!vs.isEmpty) = !kvs.isEmpty:=by cases r <;> rfl
theorem qD{xs:List V}{its:List Value}(r:Vals xs its):(!its.toArray.isEmpty) = !xs.isEmpty:=by cases r <;> simp
theorem iO:(sizeLine:Nat)<2^63:=by rw[sizeLine_eq];decide
theorem Cr:FY X (fun x H Q=>∃k,pY X.K x H k/\Q k H):=by
 intro pins s σ H x v Q I rx h;obtain⟨k,e,q⟩:=h;have hl:=iO;have hs:sizeLine=16777216:=sizeLine_eq
 cases x with
 |non=>
  cases rx;have e':k=false:=e;subst e';exact truthy_none ⟨H,I,q⟩
 |bl b=>
  cases rx;have e':k=b:=e;subst e';exact wpAny_truthy_bool ⟨H,I,q⟩
 |int i=>
  obtain⟨t,rfl⟩:=rx;have e':k=(i != 0):=e;subst e';exact PySem.P.truthy_int ⟨H,I,q⟩
 |str y=>
  obtain⟨t,rfl⟩:=rx;obtain⟨hy,e'⟩:y.length<=sizeLine/\k=((y.length:Int) != 0):=e;subst e';exact PySem.P.truthy_str (by omega) ⟨H,I.tok _,q⟩
 |byt y=>
  obtain⟨t,rfl⟩:=rx;obtain⟨hy,e'⟩:y.size<=sizeLine/\k=((y.size:Int) != 0):=e;subst e';exact PySem.W.truthy_bytes (by omega) ⟨H,I.tok _,q⟩
 |ref p=>
  cases rx;have e':(∃xs,SqL X.K H p xs/\k = !xs.isEmpty)\/(∃xs,SqT X.K H p xs/\k = !xs.isEmpty)\/∃kvs,H p=some (.dK kvs)/\k = !kvs.isEmpty:=e
  rcases e' with⟨xs,hx,e'⟩|⟨xs,hx,e'⟩|⟨kvs,hx,e'⟩
  .subst e'
   obtain⟨its,r,pl,hz⟩:=I.list hx;have hlen:=r.length;exact wpAny_truthy_list pl.isList (by simp only[List.size_toArray];omega) ⟨H,I.tok _,by rw[qD r];exact q⟩
  .subst e'
   obtain⟨its,r,pl,hz⟩:=I.tuple hx;have hlen:=r.length;exact truthy_tuple pl (by simp only[List.size_toArray];omega) ⟨H,I.tok _,by rw[qD r];exact q⟩
  .subst e'
   obtain⟨hz,hS,vs,r,m⟩:kvs.length<=sizeLine/\(p == sysModules)=false/\∃vs,KV kvs vs/\s.heap.DictOf (bq X.prog X.w) p vs:=I.hok p _ hx;have hlen:kvs.length=vs.length:=Paired.length r;exact wpAny_truthy_dict hS m (by omega) ⟨H,I.tok _,by rw[yz r];exact q⟩
 |_=>exact(show False from e).elim
theorem zX(ha:PE X a ta)(he:∀whole,isTrue a X.env whole=(do let v ←whole;standAt a.pos;holding [v] (truthy v))) :
  PT X a (fun σ H Q=>ta σ H fun x H'=>∃k,pY X.K x H' k/\Q k H'):=by
 intro pins s σ H Q I h;exact isTrue_plain (thn (ha pins s σ H _ I h) fun v s1 ⟨x,H1,I1,r1,q1⟩=>Cr pins s1 σ H1 x v Q I1 r1 q1) (he _)
theorem op_add_str:OpR X (binaryOp .Add) (fun x y H Q=>∃i j,x=.str i/\y=.str j/\i.length+j.length<=sizeLine/\Q (.str (i++j)) H):=by
 intro pins s σ H x y v u Q I rx ry h;obtain⟨i,j,rfl,rfl,hz,q⟩:=h;obtain⟨t,rfl⟩:=rx;obtain⟨t',rfl⟩:=ry;exact add_str (fun t' tk=>⟨.str (i++j),H,I.tok _,⟨_,rfl⟩,q⟩) hz
theorem vals1{x:V}{us:List Value}(r:Vals [x] us):∃u,us=[u]/\RelV x u:=by
 cases r with
 |cons r1 r2=>cases r2;exact⟨_,rfl,r1⟩
theorem vals2{x y:V}{us:List Value}(r:Vals [x,y] us):∃u w',us=[u,w']/\RelV x u/\RelV y w':=by
 cases r with
 |cons r1 r2=>
  cases r2 with
  |cons r3 r4=>cases r4;exact⟨_,_,rfl,r1,r3⟩
theorem AQ:CallR X (.builtin "abs") (fun xs H Q=>∃i,xs=[.int i]/\Q (.int (if i<0 then -i else i)) H):=by
 intro pins s σ H xs us Q I r h;obtain⟨i,rfl,q⟩:=h;obtain⟨u,rfl,t,rfl⟩:=vals1 r;exact call_abs_int fun u tk=>⟨.int (if i<0 then -i else i),H,I.tok _,⟨_,rfl⟩,q⟩
theorem zF(hc:X.calm=true):CallR X (.builtin "min") (fun xs H Q=>∃i j,xs=[.int i,.int j]/\Q (.int (if j<i then j else i)) H):=by
 intro pins s σ H xs us Q I r h;obtain⟨i,j,rfl,q⟩:=h;obtain⟨u,w',rfl,⟨t,rfl⟩,⟨t',rfl⟩⟩:=vals2 r;refine min_two_ints (I.ok.hd hc) fun h' tk k=>⟨_,H,I.kept k,?_,q⟩
 by_cases hj:j<i
 .rw[if_pos hj,if_pos hj];exact⟨_,rfl⟩
 .rw[if_neg hj,if_neg hj];exact⟨_,rfl⟩
theorem call_int1:CallR X (.type "int") (fun xs H Q=>(∃i,xs=[.int i]/\Q (.int i) H)\/∃k,xs=[.bl k]/\Q (.int (if k then 1 else 0)) H):=by
 intro pins s σ H xs us Q I r h
 rcases h with⟨i,rfl,q⟩|⟨k,rfl,q⟩
 .obtain⟨u,rfl,t,rfl⟩:=vals1 r
  exact call_int_int ⟨.int i,H,I,⟨_,rfl⟩,q⟩
 .obtain⟨u,rfl,r1⟩:=vals1 r
  cases r1;exact call_int_bool ⟨.int (if k then 1 else 0),H,I.tok _,⟨_,rfl⟩,q⟩
theorem call_str_int:CallR X (.type "str") (fun xs H Q=>∃i,xs=[.int i]/\i.natAbs.log2<1920/\Q (.str (toString i)) H):=by
 intro pins s σ H xs us Q I r h;obtain⟨i,rfl,hz,q⟩:=h;obtain⟨u,rfl,t,rfl⟩:=vals1 r;exact PySem.P.str_of_int hz ⟨.str _,H,I.tok _,⟨_,rfl⟩,q⟩
end
structure ObjM(h:Heap)(x dx C:Addr)(mA:Str->Option Value):Prop where
 obj:h.get? x=some (PySem.W.instObj C dx)
 ns:h.Ns1 dx mA
 ne:dx≠x
theorem y6{h:Heap}{dx:Addr}{mA:Str->Option Value}(n:h.Ns1 dx mA):∃od,h.get? dx=some od/\∀name,PySem.W.lookIn name od=some (mA name):=by
 obtain⟨o,es,ep,ho,hd,hk,_,hm⟩:=n;refine⟨o,ho,fun name=>?_⟩;have e:=hm name;unfold nsFind findBy at e;rw[←Array.find?_toList] at e;unfold PySem.W.lookIn;rw[hd];dsimp only;split
 .rename_i y q
  rw[q] at e;exact congrArg some e
 .rename_i q
  rw[q] at e
  have a:es.toList.any (·.refKey)=false:=by
   rw[List.any_eq_false];intro y hy;obtain⟨z,t,hkey⟩:=hk y (Array.mem_toList_iff.mp hy);simp[DictEntry.refKey,hkey]
  have a':¬es.toList.any (·.refKey)=true:=by rw[a];exact Bool.false_ne_true
  rw[if_neg a'];exact congrArg some e
theorem ObjM.look{h:Heap}{x dx C:Addr}{mA:Str->Option Value}(I:ObjM h x dx C mA):∃od,PySem.W.InstAt h x (PySem.W.instObj C dx) C (some od)/\∀name,PySem.W.lookIn name od=some (mA name):=
 let ⟨od,ho,hl⟩:=y6 I.ns
 ⟨od,⟨I.obj,rfl,rfl,ho⟩,hl⟩
section
variable {prog:Program}{w:World}{A:Around}{E:Value->Shared->Prop}{s:Shared}{K:Frag}{x dx C f:Addr}{mA:Str->Option Value}{name:Str}{v:Value}
end
theorem RelO.some_of{v:V}{o:Option Value}(r:RelO (some v) o):∃u,o=some u/\RelV v u:=by
 cases o with
 |none=>exact(show False from r).elim
 |some u=>exact⟨u,rfl,r⟩
theorem RelO.none_of{o:Option Value}(r:RelO none o):o=none:=by
 cases o with
 |none=>rfl
 |some u=>exact(show False from r).elim
section
variable {P:Program}{w:World}{H H':Hp}{h h':Heap}{a C dx:Addr}{fs fs':List (Str×V)}
theorem BH(hok:HOk P w H h)(e:H a=some (.ins C dx fs)):∃mA,ObjM h a dx C mA/\(∀f,RelO (fs.lookup f) (mA f))/\PySem.Within mA (fs.map (·.1))/\fs.length<=1000/\H dx=some (.own a):=by
 obtain⟨d,z,ne,ob,mA,n,r,q⟩:=(show ObjOk P w H h a (.ins C dx fs) from hok a _ e);exact⟨mA,⟨ob,n,ne⟩,r,q,z,d⟩
end
structure Cls(K:Frag)(C:Addr):Prop where
 pg:PySem.W.plainGet K C Str.empty=true
 hd:PySem.W.hasDictIn K C=true
 po:PySem.W.plainOver K C=true
 sa:PySem.W.findIn K (.ref C) "__setattr__"=some (some (.builtin "object.__setattr__"))
theorem Cls.get{K:Frag}{C:Addr}(c:Cls K C)(f:Str):PySem.W.plainGet K C f=true:=c.pg
structure Con(K:Frag)(C:Addr)(f:Str)(v:V)(u:Value):Prop where
 at_:PySem.W.findIn K (.ref C) f=some (some u)
 rel:RelV v u
 get:PySem.W.specialIn K u "__get__"=some none
 cp:PySem.W.copiedNames.contains f=false
structure Meth(K:Frag)(C:Addr)(m:Str)(f:Addr):Prop where
 at_:PySem.W.findIn K (.ref C) m=some (some (.ref f))
 fn:PySem.W.isFn K (.ref f)=true
 kp:PySem.W.keepIn K (.ref f)=true
section
variable {X:Cx}{pins:List (Addr×Obj)}{σ:St}{H:Hp}{s:Shared}{a C dx:Addr}{fs:List (Str×V)}{f:Str}{v:V}{A:Around}{E:Value->Shared->Prop}
end
section
variable {X:Cx}{o e value:Expr}{f:Str}{pos pos' tpos:Pos}{ta tv:TE}
end
section
variable {X:Cx}{pins:List (Addr×Obj)}{σ:St}{H:Hp}{s:Shared}{A:Around}{E:Value->Shared->Prop}{Q:Value->Shared->Prop}{c:Value}{b:Bool}
inductive TyOf(K:Frag)(H:Hp):V->Value->Prop where
 |non:TyOf K H .non (.type "NoneType")
 |bl (x:Bool):TyOf K H (.bl x) (.type "bool")
 |int (i:Int):TyOf K H (.int i) (.type "int")
 |str (x:Str):TyOf K H (.str x) (.type "str")
 |flt (x:UInt64):TyOf K H (.flt x) (.type "float")
 |lst {a:Addr}{xs:List V} (e:H a=some (.lst xs)):TyOf K H (.ref a) (.type "list")
 |frz {a:Addr}{o:Obj}{xs:List V} (e:H a=some (.frz o (.lst xs))):TyOf K H (.ref a) (.type "list")
 |tup {a:Addr}{xs:List V} (e:H a=some (.tup xs)):TyOf K H (.ref a) (.type "tuple")
 |dK {a:Addr}{kvs:List (Key×V)} (e:H a=some (.dK kvs)):TyOf K H (.ref a) (.type "dict")
 |dT {a:Addr}{kvs:List (List Key×V)} (e:H a=some (.dT kvs)):TyOf K H (.ref a) (.type "dict")
 |ins {a C dx:Addr}{fs:List (Str×V)} (e:H a=some (.ins C dx fs)) (cl:Cls K C) (ha:PySem.W.findIn K (.ref C) "__class__"=some (some (.builtin "object.__class__")))
   (hn:PySem.W.specialIn K (.builtin "object.__class__") "__get__"=some (some (.builtin "getset_descriptor.__get__"))) (htk:PySem.W.takesIn K (.builtin "object.__class__")=some true)
   (hm:PySem.W.mroIn K C (.type "object")=some true):TyOf K H (.ref a) (.ref C)
theorem kF{x:V}{u t:Value}(I:Inv X pins σ H s)(rx:RelV x u)(ty:TyOf X.K H x t)(e:PySem.W.kitOne X.K t c=some b)(h:∀tk,Q (.bool b) { s with toks:=tk }) :
  wpAny (model X.prog X.w) A (call (.builtin "isinstance") [u,c]) Q E s:=by
 cases ty with
 |non=>cases (show u=Value.none from rx);exact PySem.W.kia_one PySem.W.kitx_none I.kIn True.intro e (fun z=>nomatch z) h
 |bl y=>cases (show u=Value.bool y from rx);exact PySem.W.kia_one PySem.W.kitx_bool I.kIn True.intro e (fun z=>nomatch z) h
 |int i=>obtain⟨t,q⟩:=(show ∃t,u=Value.int i t from rx);cases q;exact PySem.W.kia_one PySem.W.kitx_int I.kIn True.intro e (fun z=>nomatch z) h
 |str y=>obtain⟨t,q⟩:=(show ∃t,u=Value.str y t from rx);cases q;exact PySem.W.kia_one PySem.W.kitx_str I.kIn True.intro e (fun z=>nomatch z) h
 |flt y=>obtain⟨t,q⟩:=(show ∃t,u=Value.float y t from rx);cases q;exact PySem.W.kia_one PySem.W.kitx_float I.kIn True.intro e (fun z=>nomatch z) h
 |@lst a xs ea=>
  cases (show u=Value.ref a from rx);obtain⟨_,_,n,_,h1⟩:=(show ObjOk X.prog X.w H s.heap a (.lst xs) from I.hok a _ ea);exact PySem.W.kia_one PySem.W.kitx_list I.kIn ⟨_,h1,rfl⟩ e (fun z=>nomatch z) h
 |@frz a ob xs ea=>
  cases (show u=Value.ref a from rx);obtain⟨_,_,_,n,_,h1⟩:=(show ObjOk X.prog X.w H s.heap a (.frz ob (.lst xs)) from I.hok a _ ea);exact PySem.W.kia_one PySem.W.kitx_list I.kIn ⟨_,h1,rfl⟩ e (fun z=>nomatch z) h
 |@tup a xs ea=>
  cases (show u=Value.ref a from rx);obtain⟨_,_,_,p⟩:=(show ObjOk X.prog X.w H s.heap a (.tup xs) from I.hok a _ ea);obtain⟨o,h1,h2,_⟩:=p;exact PySem.W.kia_one PySem.W.kitx_tuple I.kIn ⟨o,h1,h2⟩ e (fun z=>nomatch z) h
 |@dK a kvs ea=>
  cases (show u=Value.ref a from rx);obtain⟨_,_,vs,_,p⟩:=(show ObjOk X.prog X.w H s.heap a (.dK kvs) from I.hok a _ ea);obtain⟨o,es,ep,h1,h2,_⟩:=p;exact PySem.W.kia_one PySem.W.kitx_dict I.kIn ⟨o,h1,h2.1⟩ e (fun z=>nomatch z) h
 |@dT a kvs ea=>
  cases (show u=Value.ref a from rx);obtain⟨_,_,xs,_,o,es,ep,h1,h2,_⟩:=(show ObjOk X.prog X.w H s.heap a (.dT kvs) from I.hok a _ ea);exact PySem.W.kia_one PySem.W.kitx_dict I.kIn ⟨o,h1,h2.1⟩ e (fun z=>nomatch z) h
 |@ins a C dx fs ea cl ha hn htk hm=>
  cases (show u=Value.ref a from rx);obtain⟨mA,O,_⟩:=BH I.hok ea;obtain⟨od,J,_⟩:=O.look;exact PySem.W.kia_one (PySem.W.kitx_own (cl.get _) cl.hd ha hn htk hm) I.kIn J e (fun z=>nomatch z) h
end
structure Room(k:Nat)(A:Around):Prop where
 hd:A.handled=none
 dp:A.depth+3*k+5<recursionLimit
 un:A.units+16*k+200<cLine
 gd:A.guards=some []
theorem Room.mono{j k:Nat}{A:Around}(r:Room k A)(h:j<=k):Room j A:=⟨r.hd,by have:=r.dp;omega,by have:=r.un;omega,r.gd⟩
theorem Room.deeper{k:Nat}{A:Around}(r:Room (k+1) A)(env:Env):Room k (A.deeper env):=⟨r.hd,by have:=r.dp;show A.depth+1+3*k+5<_;omega,by have:=r.un;show A.units+3+16*k+200<_;omega,r.gd⟩
theorem Room.depth{k:Nat}{A:Around}(r:Room k A):A.depth<recursionLimit:=by have:=r.dp;omega
def wH:TA:=fun _ H Q=>Q [] H
def vI(ta:TE)(tr:TA):TA:=fun σ H Q=>ta σ H fun x H1=>tr σ H1 fun xs H2=>Q (x::xs) H2
section
variable {X:Cx}{e:Expr}{es:List Expr}{te:TE}{t:TA}{pos:Pos}
theorem dB:PA X [] wH:=fun _ _ _ _ H Q I h=>Calls.spliced_nil ⟨[],H,I,.nil,h⟩
theorem cT(ha:PE X e te)(hr:PA X es t)(hs:starEach (e::es) X.env=(false,eval e X.env)::starEach es X.env:=by rfl):PA X (e::es) (vI te t):=by
 intro pos pins s σ H Q I h;rw[hs];show wpAny _ _ (spliced ((false,eval e X.env)::backTo pos (starEach es X.env))) _ _ s;refine Calls.spliced_cons (thn (ha pins s σ H _ I h) fun u s1 ⟨x,H1,I1,r1,q1⟩=>?_);exact thn (hr pos pins s1 σ H1 _ I1 q1) fun us s2 ⟨xs,H2,I2,r2,q2⟩=>⟨x::xs,H2,I2,.cons r1 r2,q2⟩
def Fe(t:TA):TE:=fun σ H Q=>t σ H fun xs H1=>xs.length<=sizeLine/\∀p,H1 p=none->Q (.ref p) (upd H1 p (.tup xs))
def Fi(t:TA):TE:=fun σ H Q=>t σ H fun xs H1=>xs.length<=sizeLine/\∀p,H1 p=none->Q (.ref p) (upd H1 p (.lst xs))
theorem CU{x1}(h:PA X es t):PE X (.Tuple es x1 pos) (Fe t):=by
 intro pins s σ H Q I hq;refine wpAny_Tuple_spliced (thn (h pos pins s σ H _ I hq) fun us s1 ⟨xs,H1,I1,r,z,q⟩=>⟨by rw[←r.length];exact z,?_⟩);have hf:H1 s1.heap.objs.size=none:=I1.hok.fresh (Nat.le_refl _);refine⟨.ref s1.heap.objs.size,upd H1 s1.heap.objs.size (.tup xs),I1.laid (t':=s1.toks) (fun b u e=>Heap.get?_push_of_some _ e) (Nat.le_refl _) ?_,rfl,q _ hf⟩;exact⟨z,us,r,⟨_,Heap.get?_push_size _ rfl,rfl,_,rfl⟩⟩
theorem uL(h:PA X es t):PE X (.List es pos) (Fi t):=by
 intro pins s σ H Q I hq;refine wpAny_List_spliced (thn (h pos pins s σ H _ I hq) fun us s1 ⟨xs,H1,I1,r,z,q⟩=>⟨by rw[←r.length];exact z,?_⟩);have hf:H1 s1.heap.objs.size=none:=I1.hok.fresh (Nat.le_refl _);refine⟨.ref s1.heap.objs.size,upd H1 s1.heap.objs.size (.lst xs),I1.laid (t':=s1.toks) (fun b u e=>Heap.get?_push_of_some _ e) (Nat.le_refl _) ?_,rfl,q _ hf⟩;exact⟨z,us,0,r,Heap.get?_push_size _ rfl⟩
end
abbrev Sp:=List V->Hp->VK->XK->Prop
abbrev CXT:=List Env->Hp->Shared->XK->Value->Shared->Prop
structure Env0(P:Program)(w:World)(K:Frag)(mg:Str->Option Value)(base:Heap)(A:Around)(outer:List Env)(s:Shared)(H:Hp):Prop where
 frames:A.frames=some outer
 mod:Mod K mg base
 bs:∀b o,base.get? b=some o->s.heap.get? b=some o/\H b=none
 bsz:base.objs.size<=s.heap.objs.size
 funs:s.heap.FunFrames base outer
 frf:∀b∈frs outer,H b=none
 hok:HOk P w H s.heap
 bare:AllBare s.gens
def CE(outer:List Env)(P:Program)(w:World)(H:Hp)(s:Shared)(Q:VK)(u:Value)(s':Shared):Prop:=∃v H',s'.os=s.os/\AllBare s'.gens/\Un (frs outer) [] H H' s.heap s'.heap/\HOk P w H' s'.heap/\RelV v u/\Q v H'
def CR(CX:CXT)(outer:List Env)(P:Program)(w:World)(H:Hp)(s:Shared)(Q:VK)(E:XK)(r:Result)(s':Shared):Prop:=
 match r with
 |.ok (.ret u)=>CE outer P w H s Q u s'
 |.ok _=>False
 |.error e=>CX outer H s E e s'
structure FnOk(P:Program)(w:World)(K:Frag)(mg:Str->Option Value)(base:Heap)(CX:CXT)(k:Nat)(f:Addr)(fd:FuncData)(ps:List Str)(sp:Sp):Prop where
 len:∀vs H Q E,sp vs H Q E->vs.length=ps.length
 run:∀(A:Around) (outer:List Env) (s:Shared) (H:Hp) (args:Args) (us:List Value) (vs:List V) (Q:VK) (E:XK),Room k A->Env0 P w K mg base A outer s H->BindsTo s fd args (ps.zip us)->Vals vs us->sp vs H Q E ->
  codeAny (model P w) A (.call (.ref f) args) (CR CX outer P w H s Q E) s
section
variable {X:Cx}{pins:List (Addr×Obj)}{σ:St}{H:Hp}{s s':Shared}
theorem Inv.env0(I:Inv X pins σ H s):Env0 X.prog X.w X.K X.mg X.base X.A X.stack s H:=⟨I.ok.frames,I.ok.mod,I.bs,Nat.le_trans I.ok.bsz I.sz,I.stack,I.stkFree,I.hok,I.bare⟩
theorem Inv.after{Q:VK}{u:Value}(I:Inv X pins σ H s)(h:CE X.stack X.prog X.w H s Q u s'):EP X pins σ Q u s':=by
 obtain⟨v,H',os,bare,un,hok,r,q⟩:=h;obtain⟨hh,g,d,t,os'⟩:=s';obtain rfl:os'=s.os:=os;exact⟨v,H',I.call (h':=hh) (g':=g) (d':=d) (t':=t) (ch:=[]) un hok bare (fun b z=>absurd z (by simp)),r,q⟩
end
def vK(sp:Sp)(dvs:List V)(E:XK)(t:TA):TE:=fun σ H Q=>t σ H fun vs H1=>sp (vs++dvs) H1 Q E
def Binds(K:Frag)(fd:FuncData)(ps:List Str)(ds:List Value):Prop:=∀(s:Shared) (us:List Value),K.In s.heap->(us++ds).length=ps.length->BindsTo s fd ⟨us,[]⟩ (ps.zip (us++ds))
theorem Binds.all{K:Frag}{fd:FuncData}{ps:List Str}(h:∀us:List Value,us.length=ps.length->bindArgs fd ⟨us,[]⟩=pure (ps.zip us)):Binds K fd ps []:=fun s us _ hl=>by
 rw[List.append_nil] at hl ⊢;exact .of_eq (h us hl)
def oZ(CX:CXT)(X:Cx)(E:XK):Prop:=∀(pins:List (Addr×Obj)) (σ:St) (H:Hp) (s:Shared) (e:Value) (s':Shared),Inv X pins σ H s->CX X.stack H s E e s'->X.xe e s'
section
variable {X:Cx}{CX:CXT}{k:Nat}{f C:Addr}{fd:FuncData}{ps:List Str}{sp:Sp}{dvs:List V}{ds:List Value}{E:XK}{x m:Str}{p pos apos:Pos}{e o:Expr}{es:List Expr}{ta:TE}{t:TA}
theorem CF{pins:List (Addr×Obj)}{σ:St}{H:Hp}{s:Shared}{Q:VK}{us:List Value}{vs:List V}(F:FnOk X.prog X.w X.K X.mg X.base CX k f fd ps sp)(hr:Room k X.A)(hb:Binds X.K fd ps ds)(hd:Vals dvs ds)(hx:oZ CX X E)
  (I:Inv X pins σ H s) (r:Vals vs us) (h:sp (vs++dvs) H Q E):wpAny (model X.prog X.w) X.A (call (.ref f) us) (EP X pins σ Q) X.xe s:=by
 have r2:Vals (vs++dvs) (us++ds):=r.append hd
 have hl:(us++ds).length=ps.length:=by rw[←r2.length];exact F.len _ _ _ _ h
 refine wpAny_call (codeAny_mono (F.run X.A X.stack s H ⟨us,[]⟩ (us++ds) (vs++dvs) Q E hr I.env0 (hb s us I.kIn hl) r2 h) fun r s' hq=>?_)
 cases r with
 |error e=>exact hx pins σ H s e s' I hq
 |ok fl=>
  cases fl with
  |ret u=>exact I.after hq
  |next=>exact False.elim hq
  |brk=>exact False.elim hq
  |cont=>exact False.elim hq
theorem Bq(F:FnOk X.prog X.w X.K X.mg X.base CX k f fd ps sp)(hr:Room k X.A)(hg:Gl X x)(hm:X.mg x=some (.ref f))(hk:PySem.W.keepIn X.K (.ref f)=true)(hb:Binds X.K fd ps ds)(hd:Vals dvs ds)(hx:oZ CX X E)
  (ha:PA X (e::es) t) (hdb:(x == ("__debug__" : Str))=false:=by decide) (he:starEach (e::es) X.env=(false,eval e X.env)::starEach es X.env:=by rfl) (hpl:(backTo pos (starEach es X.env)).any (·.1)=false:=by rfl) :
  PE X (.Call (.Name x p) (e::es) [] pos) (vK sp dvs E t):=by
 intro pins s σ H Q I h;refine wpAny_Call_Name_kw (tQ I hg hm ?_ hdb);refine PySem.W.callWith_K (h₀:=X.base) I.ok.mod.kin hk (thn (ha pos pins s σ H _ I h) fun us s1 ⟨vs,H1,I1,r,q⟩=>⟨I1.kIn,?_⟩) he hpl;exact CF F hr hb hd hx I1 r q
structure Mk(K:Frag)(C f:Addr):Prop where
 makes:PySem.W.makesIn K C=true
 init:PySem.W.findIn K (.ref C) "__init__"=some (some (.ref f))
 fn:PySem.W.isFn K (.ref f)=true
 kp:PySem.W.keepIn K (.ref C)=true
end
def PK(X:Cx)(kws:List Keyword)(t:TA):Prop:=∀(pos:Pos) (pins:List (Addr×Obj)) (s:Shared) (σ:St) (H:Hp) (Q:List V->Hp->Prop),Inv X pins σ H s->t σ H Q->wpAny (model X.prog X.w) X.A (evalAll ((backToKw pos (keywordEach kws X.env)).map (·.2))) (AP X pins σ Q) X.xe s
section
variable {X:Cx}{CX:CXT}{k:Nat}{f C:Addr}{fd:FuncData}{ps ks:List Str}{sp:Sp}{E:XK}{x m:Str}{p pos apos kpos:Pos}{e o:Expr}{es:List Expr}{kws:List Keyword}{te ta:TE}{t tk:TA}{nm:Option Str}
structure KBinds(K:Frag)(fd:FuncData)(ps ks:List Str)(g:List Value->List Value->List Value)(gV:List V->List V->List V):Prop where
 to:∀(s:Shared) (us ws:List Value),K.In s.heap->(g us ws).length=ps.length->BindsTo s fd ⟨us,ks.zip ws⟩ (ps.zip (g us ws))
 rel:∀{vs:List V}{us:List Value}{zs:List V}{ws:List Value},Vals vs us->Vals zs ws->Vals (gV vs zs) (g us ws)
variable {g:List Value->List Value->List Value}{gV:List V->List V->List V}
end
structure FnScope(N P:List Str)(sc:Scope):Prop where
 kind:sc.kind=.function
 co:sc.isCoroutine=false
 gen:sc.isGenerator=false
 nd:N.Nodup
 pre:N.take P.length=P
 par:∀x∈P,sc.names.lookup x=some .local\/sc.names.lookup x=some .cell
 nofree:∀y∈sc.names,y.2≠.free
theorem rS{kindOf:Str->Option NameKind}{x:Str}:∀{binds:List (Str×Value)}{m:Str->Option Value},(∀v,(x,v)∉binds)->bindL kindOf binds m x=m x
 |[],_,_=>rfl
 |(n,v)::r,m,h=>by
  unfold bindL;rw[rS fun w hw=>h w (List.mem_cons_of_mem _ hw)];split
  .have:x≠n:=by rintro rfl;exact h v List.mem_cons_self
   simp[this]
  .rfl
theorem rV{kindOf:Str->Option NameKind}{x:Str}:∀{binds:List (Str×Value)}{m:Str->Option Value},(∀v,(x,v)∉binds)->bindC kindOf binds m x=m x
 |[],_,_=>rfl
 |(n,v)::r,m,h=>by
  unfold bindC;rw[rV fun w hw=>h w (List.mem_cons_of_mem _ hw)];split
  .rfl
  .have:x≠n:=by rintro rfl;exact h v List.mem_cons_self
   simp[this]
theorem rT{kindOf:Str->Option NameKind}{x:Str}{v:Value}:∀{P:List Str}{vs:List Value}{i:Nat}{m:Str->Option Value},P.Nodup->P[i]? = some x->vs[i]? = some v->kindOf x=some .local ->
  bindL kindOf (P.zip vs) m x=some v
 |[],_,_,_,_,h,_,_=>by simp at h
 |_::_,[],_,_,_,_,h,_=>by simp at h
 |p::P,w::vs,0,m,nd,h1,h2,hk=>by
  simp at h1 h2;subst h1;subst h2;show bindL kindOf ((p,w)::P.zip vs) m p=_;unfold bindL;rw[rS fun v hv=>(List.nodup_cons.mp nd).1 (List.of_mem_zip hv).1,if_pos hk];simp
 |p::P,w::vs,i+1,m,nd,h1,h2,hk=>by
  show bindL kindOf ((p,w)::P.zip vs) m x=_;unfold bindL;exact rT (i:=i) (List.nodup_cons.mp nd).2 (by simpa using h1) (by simpa using h2) hk
theorem rW{kindOf:Str->Option NameKind}{x:Str}{v:Value}:∀{P:List Str}{vs:List Value}{i:Nat}{m:Str->Option Value},P.Nodup->P[i]? = some x->vs[i]? = some v->kindOf x≠some .local ->
  bindC kindOf (P.zip vs) m x=some v
 |[],_,_,_,_,h,_,_=>by simp at h
 |_::_,[],_,_,_,_,h,_=>by simp at h
 |p::P,w::vs,0,m,nd,h1,h2,hk=>by
  simp at h1 h2;subst h1;subst h2;show bindC kindOf ((p,w)::P.zip vs) m p=_;unfold bindC;rw[rV fun v hv=>(List.nodup_cons.mp nd).1 (List.of_mem_zip hv).1,if_neg hk];simp
 |p::P,w::vs,i+1,m,nd,h1,h2,hk=>by
  show bindC kindOf ((p,w)::P.zip vs) m x=_;unfold bindC;exact rW (i:=i) (List.nodup_cons.mp nd).2 (by simpa using h1) (by simpa using h2) hk
def start(N:List Str)(vs:List V):St:=vs.map some++List.replicate (N.length-vs.length) none
def eF(CX:CXT)(P:Program)(w:World)(K:Frag)(mg:Str->Option Value)(base:Heap)(N:List Str)(qual:Str)(scope:Scope)(f:Addr)(cd:Value)(A:Around)(outer:List Env)(s:Shared)(H:Hp)(E:XK):Cx where
 prog:=P
 w:=w
 K:=K
 mg:=mg
 base:=base
 A:=A.deeper (envOfC qual scope s.heap.objs.size f cd)
 N:=N
 s₀:=s
 H₀:=H
 env:=envOfC qual scope s.heap.objs.size f cd
 outer:=outer
 stack:=envOfC qual scope s.heap.objs.size f cd::outer
 ex:=[]
 calm:=true
 fn:=fun _=>true
 pn:=[]
 xe:=fun e s'=>wpAny (model P w) (A.deeper (envOfC qual scope s.heap.objs.size f cd)) (leaving (envOfC qual scope s.heap.objs.size f cd) e) (fun _ s''=>CX outer H s E e s'') (fun e' s''=>CX outer H s E e' s'') s'
theorem sZ{sc:Scope}{n:Nat}{x:Str}(h:sc.names.lookup x=some .cell):∃c,(cellsFrom n sc.names []).lookup x=some c:=by
 have q:=PySem.W.cellsFrom_some sc.names n [] (.inl h);exact Option.isSome_iff_exists.mp q
theorem zj{CX:CXT}{P:Program}{w:World}{K:Frag}{mg:Str->Option Value}{base:Heap}{N ps:List Str}{qual:Str}{scope:Scope}{f:Addr}{cd:Value}{A:Around}{outer:List Env}{s s1:Shared}{H:Hp}{E:XK}{us:List Value}{vs:List V}
  (S:FnScope N ps scope) (hd:A.handled=none) (e0:Env0 P w K mg base A outer s H) (hl:vs.length=ps.length) (r:Vals vs us)
  (x:InCallC s s.heap.objs.size (bindL (envOfC qual scope s.heap.objs.size f cd).kindOf (ps.zip us) fun _=>none) (cellsFrom (s.heap.objs.size+1) scope.names []) (bindC (envOfC qual scope s.heap.objs.size f cd).kindOf (ps.zip us) fun _=>none) s1) :
  Inv (eF CX P w K mg base N qual scope f cd A outer s H E) [] (start N vs) H s1:=by
 have hpl:ps.length<=N.length:=by have:=congrArg List.length S.pre;rw[List.length_take] at this;omega
 obtain⟨h1,tk,rfl,hk⟩:=x.done;have noA:∀b:Addr,b∉(eF CX P w K mg base N qual scope f cd A outer s H E).ex:=fun b z=>absurd (show b∈([]:List Addr) from z) (by simp)
 refine⟨⟨e0.mod,S.kind,rfl,rfl,Nat.le_refl _,fun y z c h1 h2=>?_,fun y hy=>?_,fun y c _ h=>?_,fun _=>hd,Around.frames_deeper e0.frames,.inr ⟨rfl,rfl⟩,fun b z=>absurd z (noA b),e0.bs,e0.bsz,fun b _ _=>noA b,fun b z=>absurd z (noA b),e0.funs,e0.frf⟩,
  rfl,e0.bare,Un.kept hk,⟨_,x.toInCall.ns,fun i y v h1 h2 h3=>?_⟩,fun y c h=>⟨_,x.cell y c h⟩,e0.hok.fresh (Nat.le_refl _),fun y c h=>?_,fun p hp=>absurd (show p∈([]:List (Addr×Obj)) from hp) (by simp),e0.hok.kept hk,?_⟩
 .exact name_of_addr x.apart (PySem.mem_of_lookup h1) (PySem.mem_of_lookup h2)
 .have hy:scope.names.lookup y=some .cell\/scope.names.lookup y=some .free:=hy
  rcases hy with hy|hy
  .exact sZ hy
  .exact absurd rfl (S.nofree _ (PySem.mem_of_lookup hy))
 .exact Nat.le_of_lt (x.above y c (PySem.mem_of_lookup h))
 .have hi:i<vs.length:=by
   unfold start at h2
   by_cases hi:i<vs.length
   .exact hi
   .rw[List.getElem?_append_right (by simpa using hi)] at h2
    rw[List.getElem?_replicate] at h2
    split at h2 <;> cases h2
  have ha:vs[i]? = some v:=by
   unfold start at h2;rw[List.getElem?_append_left (by simpa using hi),List.getElem?_map] at h2
   cases e:vs[i]? with
   |none=>rw[e] at h2;cases h2
   |some a=>rw[e] at h2;cases h2;rfl
  obtain⟨u,hu,rv⟩:=r.get ha
  have hp:ps[i]? = some y:=by
   rw[←S.pre,List.getElem?_take_of_lt (by omega)];exact h1
  have ndP:ps.Nodup:=by rw[←S.pre];exact S.nd.sublist (List.take_sublist _ _)
  refine⟨u,rv,?_⟩
  rcases S.par y (List.mem_of_getElem? hp) with k|k
  .exact .inl ⟨k,rT ndP hp hu k⟩
  .obtain⟨c,e⟩:=sZ (n:=s.heap.objs.size+1) k
   refine .inr ⟨.inl k,c,e,?_⟩;have q:=x.cell y c e;rw[rW ndP hp hu (by show scope.names.lookup y≠_;rw[k];decide)] at q;exact q
 .exact e0.hok.fresh (Nat.le_of_lt (x.above y c (PySem.mem_of_lookup h)))
 .unfold start
  show _=N.length;rw[List.length_append,List.length_map,List.length_replicate];omega
theorem EL{CX:CXT}{P:Program}{w:World}{K:Frag}{mg:Str->Option Value}{base:Heap}{k:Nat}{f:Addr}{name qual:Str}{params:Arguments}{body:List Stmt}{scope:Scope}{dV kV doc pm cdv ct oc:Value}{an od:Option Addr}
  {osl:Array (Option Value)}{N ps:List Str}{sp:Sp} (lk:K.lookup f=some ⟨oc,od,.func (PySem.W.fnOf name qual params body scope dV kV doc pm an cdv ct),osl⟩) (hcd:PySem.W.codeIn K cdv qual=true) (S:FnScope N ps scope)
  (len:∀vs H Q E,sp vs H Q E->vs.length=ps.length)
  (hbody:∀(A:Around) (outer:List Env) (s:Shared) (H:Hp) (vs:List V) (Q:VK) (E:XK),Room k (A.deeper (envOfC qual scope s.heap.objs.size f cdv))->sp vs H Q E ->
   ∃t,PSs (eF CX P w K mg base N qual scope f cdv A outer s H E) body t/\t { nx:=fun _ H'=>Q .non H',rt:=Q } (start N vs) H) :
  FnOk P w K mg base CX (k+1) f (PySem.W.fnOf name qual params body scope dV kV doc pm an cdv ct) ps sp:=by
 refine⟨len,fun A outer s H args us vs Q E hr e0 hb r hsp=>?_⟩;have hl:=len _ _ _ _ hsp;have KX:K.In s.heap:=e0.mod.kin.keeps fun b o e=>(e0.bs b o e).1;have lim:s.heap.NoLimit:=e0.mod.nolimit.keeps fun b o e=>(e0.bs b o e).1
 have hkind:∀y∈ps.zip us,scope.names.lookup y.1=some .local\/(scope.names.lookup y.1=some .cell/\((cellsFrom (s.heap.objs.size+1) scope.names []).lookup y.1).isSome=true):=fun⟨n,v⟩ hy=>by
  rcases S.par n (List.of_mem_zip hy).1 with q|q
  .exact .inl q
  .exact .inr ⟨q,PySem.W.cellsFrom_some _ _ _ (.inl q)⟩
 refine codeAny_call_function hr.depth (KX _ _ lk) rfl S.co S.gen rfl (PySem.W.codeRec_of KX hcd) (hb _ _ _ _ ?_);refine wpAny_newFunctionEnv_cells S.kind hkind fun env he s1 x=>?_;subst he;refine⟨lim.keeps x.toInCall.keep,codeAny_func ?_⟩;obtain⟨t,ht,hq⟩:=hbody A outer s H vs Q E (hr.deeper _) hsp;have I:Inv (eF CX P w K mg base N qual scope f cdv A outer s H E) [] (start N vs) H s1:=zj S hr.hd e0 hl r x;refine wpAny_mono (ht [] s1 (start N vs) H _ I hq) (fun fl s' hs=>?_) fun e s' hs=>hs
 have fin:∀{σ':St}{H':Hp}{v:V}{u:Value},Inv (eF CX P w K mg base N qual scope f cdv A outer s H E) [] σ' H' s'->RelV v u->Q v H'->CE outer P w H s Q u s':=
  fun {σ' H' v u} J rv q=>⟨v,H',J.os,J.bare,J.base,J.hok,rv,q⟩
 cases fl with
 |ret u=>
  obtain⟨v,σ',H',J,rv,q⟩:=hs;exact fin J rv q
 |next=>
  obtain⟨σ',H',J,q⟩:=hs;exact fin (v:=V.non) (u:=Value.none) J rfl q
 |brk=>
  obtain⟨_,_,_,q⟩:=hs;exact False.elim q
 |cont=>
  obtain⟨_,_,_,q⟩:=hs;exact False.elim q
section
variable {X:Cx}{x:Str}{p pos:Pos}{e:Expr}{es:List Expr}{t:TA}{id T:String}{r:List V->Hp->VK->Prop}
def tCB(r:List V->Hp->VK->Prop)(t:TA):TE:=fun σ H Q=>t σ H fun vs H1=>r vs H1 Q
theorem js(hc:CallR X (.builtin id) r)(hg:Gl X x)(hm:X.mg x=none)(hv:bootBuiltins x=some (.builtin id))(ha:PA X (e::es) t)(hn:x≠"__name__":=by decide)(hdb:(x == ("__debug__" : Str))=false:=by decide)
  (he:starEach (e::es) X.env=(false,eval e X.env)::starEach es X.env:=by rfl) (hpl:(backTo pos (starEach es X.env)).any (·.1)=false:=by rfl):PE X (.Call (.Name x p) (e::es) [] pos) (tCB r t):=by
 intro pins s σ H Q I h;refine wpAny_Call_Name_kw (lE I hg hm hv ?_ hn hdb);exact PyProof.Rows.callWith_builtin1 (thn (ha pos pins s σ H _ I h) fun us s1 ⟨vs,H1,I1,r1,q1⟩=>hc pins s1 σ H1 vs us Q I1 r1 q1) he hpl
theorem mU(hc:CallR X (.type T) r)(hg:Gl X x)(hm:X.mg x=none)(hv:bootBuiltins x=some (.type T))(ha:PA X (e::es) t)(hn:x≠"__name__":=by decide)(hdb:(x == ("__debug__" : Str))=false:=by decide)
  (he:starEach (e::es) X.env=(false,eval e X.env)::starEach es X.env:=by rfl) (hpl:(backTo pos (starEach es X.env)).any (·.1)=false:=by rfl):PE X (.Call (.Name x p) (e::es) [] pos) (tCB r t):=by
 intro pins s σ H Q I h;refine wpAny_Call_Name_kw (lE I hg hm hv ?_ hn hdb);exact PyProof.Rows.callWith_type1 (thn (ha pos pins s σ H _ I h) fun us s1 ⟨vs,H1,I1,r1,q1⟩=>hc pins s1 σ H1 vs us Q I1 r1 q1) he hpl
end
end L2
namespace HT
open PySem PyProof.Rows
section
open PySem.SeqAt
open PySem.AutoSeq1 (wpAny_loadPart')
open PySem.MeetsSeq PySem.MeetsSeq2 PySem.MeetsSeq3
end
section
variable {prog:Program}{w:World}{A:Around}{E:Value->Shared->Prop}{s:Shared}
theorem B6{t b:Addr}{vs ws:List Value}{Q:Value->Shared->Prop}(ht:IsTup s.heap t vs.toArray)(hb:IsTup s.heap b ws.toArray)(hv:vs≠[])
  (h1:ws=[]->Q (.ref t) s) (h2:ws≠[]->Q (.ref s.heap.objs.size) { s with heap:=s.heap.push { cls:=.type "tuple",data:=.seq (vs++ws).toArray } })
  (hsz:vs.length+ws.length<=sizeLine):wpAny (model prog w) A (binaryOp .Add (.ref t) (.ref b)) Q E s:=by
 obtain⟨⟨cls,dd,data,sl⟩,ho,hc,n,hd⟩:=id ht;obtain⟨⟨cls2,dd2,data2,sl2⟩,ho2,hc2,n2,hd2⟩:=id hb;simp only at hc hd hc2 hd2;subst hc hd hc2 hd2
 have e:vs.toArray++ws.toArray=(vs++ws).toArray:=by simp
 by_cases hw:ws=[]
 .exact concat_meets ⟨_,ho,rfl⟩ ⟨_,ho2,rfl⟩ noFill_tuple_add seq_tuple_add PySem.F.slot_tuple_add PySem.F.entry_tuple_add (PySem.F.args_tuple_add_2 _ _)
   (tuple_addW1 t b vs.toArray ws.toArray n n2 dd dd2 sl sl2 (by simpa using hv) (by simp[hw])) ⟨ho,ho2,h1 hw⟩
 .refine concat_meets ⟨_,ho,rfl⟩ ⟨_,ho2,rfl⟩ noFill_tuple_add seq_tuple_add PySem.F.slot_tuple_add PySem.F.entry_tuple_add (PySem.F.args_tuple_add_2 _ _)
   (tuple_addW2 t b vs.toArray ws.toArray n n2 dd dd2 sl sl2 (by simpa using hv) (by simpa using hw) (by rw[List.size_toArray,List.size_toArray];exact hsz)) ⟨ho,ho2,?_⟩
  rw[e];exact h2 hw
def sIx(n d:Nat):Option Int->Nat
 |none=>d
 |some v=>if v<0 then (v+(n:Int)).toNat else min v.toNat n
theorem A7(n d k:Nat):sIx n d (some (k:Int))=min k n:=by
 show (if (k:Int)<0 then ((k:Int)+(n:Int)).toNat else min (k:Int).toNat n)=min k n;rw[if_neg (by omega),Int.toNat_natCast]
theorem CD(n d:Nat)(hd:d<=n)(o:Option Int):sIx n d o<=n:=by
 cases o with
 |none=>exact hd
 |some v=>
  show (if v<0 then (v+(n:Int)).toNat else min v.toNat n)<=n
  by_cases hv:v<0
  .rw[if_pos hv];omega
  .rw[if_neg hv];exact Nat.min_le_right _ _
theorem uk(v:Int)(n d:Nat):(if v<0 then max (v+(n:Int)) 0 else min v (n:Int))=((sIx n d (some v):Nat):Int):=by
 show (if v<0 then max (v+(n:Int)) 0 else min v (n:Int))=(((if v<0 then (v+(n:Int)).toNat else min v.toNat n):Nat):Int)
 by_cases hv:v<0
 .simp only[if_pos hv];omega
 .simp only[if_neg hv];omega
theorem yK(lo hi:Option Int)(n:Nat):Builtin.Slice.sliceAdjust lo hi 1 (n:Int)=(((sIx n 0 lo:Nat):Int),((sIx n n hi:Nat):Int)):=by
 have h1:¬((1:Int)<0):=by omega
 unfold Builtin.Slice.sliceAdjust;simp only[h1,if_false];refine Prod.ext ?_ ?_
 .cases lo with
  |none=>rfl
  |some v=>exact uk v n 0
 .cases hi with
  |none=>rfl
  |some v=>exact uk v n n
theorem yo(i j:Nat):Builtin.Slice.slicePlaces (i:Int) (j:Int) 1=j-i:=by
 unfold Builtin.Slice.slicePlaces
 have h1:(1:Int)>0:=by omega
 simp only[h1,if_true,Int.ediv_one]
 split <;> omega
theorem qx{v:Value}{o:Option Int}{Q:Option Int->Shared->Prop}(p:IsPart v o)(h:Q o s):wpAny (model prog w) A (Builtin.Slice.slicePartIndex v) Q E s:=by
 cases p with
 |none=>exact slicePart_none h
 |int i t=>exact slicePart_int h
theorem p9{sl:Addr}{vl vu:Value}{lo hi:Option Int}{n:Nat}{Q:Int×Int×Nat->Shared->Prop}(hs:s.heap.IsSliceOf sl vl vu .none)(pl:IsPart vl lo)(pu:IsPart vu hi)
  (h:Q (((sIx n 0 lo:Nat):Int),1,sIx n n hi-sIx n 0 lo) s):wpAny (model prog w) A (Builtin.Slice.sliceApplied (.ref sl) (pure (n:Int))) Q E s:=by
 obtain⟨os,hos,hcs,hds⟩:=id hs;unfold Builtin.Slice.sliceApplied Builtin.Slice.sliceFields;refine wpAny_bind (wpAny_bind (wpAny_field hos hds (x:=vl) rfl (wpAny_bind (wpAny_field hos hds (x:=vu) rfl (wpAny_bind (wpAny_field hos hds (x:=.none) rfl (wpAny_pure ?_)))))));refine wpAny_bind (slicePart_none ?_);show wpAny _ _ (if ((1:Int) == 0)=true then _ else _) _ _ s;rw[if_neg (by decide)];refine wpAny_bind (qx pl (wpAny_bind (qx pu (wpAny_bind (wpAny_pure ?_)))));show wpAny _ _ (match Builtin.Slice.sliceAdjust lo hi 1 (n:Int) with|(lo,hi)=>pure (lo,(1:Int),Builtin.Slice.slicePlaces lo hi 1)) _ _ s;rw[yK lo hi n];show wpAny _ _ (pure (((sIx n 0 lo:Nat):Int),(1:Int),Builtin.Slice.slicePlaces ((sIx n 0 lo:Nat):Int) ((sIx n n hi:Nat):Int) 1)) _ _ s;rw[yo];exact wpAny_pure h
theorem z7(xs:Array Value)(i k:Nat):((List.range k).filterMap fun(m:Nat)=>xs[((i:Int)+(m:Int)*1).toNat]?).toArray=((xs.toList.drop i).take k).toArray:=by
 have e:(fun(m:Nat)=>xs[((i:Int)+(m:Int)*1).toNat]?)=fun m=>xs[i+m]?:=by
  funext m
  have:((i:Int)+(m:Int)*1).toNat=i+m:=by omega
  rw[this]
 rw[e];have:=pick_run xs i k;rw[List.filterMap_map] at this;have e2:((fun x=>xs[x]?) ∘ fun x=>i+x)=fun m=>xs[i+m]?:=rfl;rw[e2] at this;rw[this]
theorem xh{t sl:Addr}{items:Array Value}{vl vu:Value}{lo hi:Option Int}{Q:Value->Shared->Prop}(ht:IsTup s.heap t items)(hs:s.heap.IsSliceOf sl vl vu .none)(pl:IsPart vl lo)(pu:IsPart vu hi)
  (hw:¬(sIx items.size 0 lo=0/\sIx items.size items.size hi=items.size))
  (h:Q (.ref s.heap.objs.size) { s with heap:=s.heap.push { cls:=.type "tuple",data:=.seq ((items.toList.drop (sIx items.size 0 lo)).take (sIx items.size items.size hi-sIx items.size 0 lo)).toArray } })
  (hsz:items.size<=sizeLine):wpAny (model prog w) A (getItem (.ref t) (.ref sl)) Q E s:=by
 have htake:sizeOk (.seq ((items.toList.drop (sIx items.size 0 lo)).take (sIx items.size items.size hi-sIx items.size 0 lo)).toArray):=by
  show ((items.toList.drop (sIx items.size 0 lo)).take (sIx items.size items.size hi-sIx items.size 0 lo)).toArray.size<=sizeLine;rw[List.size_toArray,List.length_take,List.length_drop,Array.length_toList];omega
 have hj:sIx items.size items.size hi<=items.size:=CD _ _ (Nat.le_refl _) hi;obtain⟨os,hos,hcs,hds⟩:=id hs;have hTs:s.TypeIs (.ref sl) "slice":=⟨os,hos,hcs⟩;unfold getItem
 try with_reducible refine wpAny_holding ?_
 first|refine wpAny_bind (wpAny_pure ?_)|skip
 refine wpAny_bind (wpAny_sequenceKey ht.typeIs (by decide) ?_)
 refine wpAny_bind (wpAny_callSpecial?_slot (name:=Str.ofString "__getitem__") ht.typeIs PyProof.Rows.slot_tuple_getitem
  (wpAny_call_entry PyProof.Rows.slot_tuple_getitem ht.typeIs entry_tuple_getitem ?_ (args_tuple_getitem _ _)))
 show wpAny _ _ (Builtin.Tuple.tupleItemsOf (.ref t) >>= _) _ _ s;refine wpAny_bind (tupleItemsOf_ ht ?_);refine wpAny_bind (wpAny_typeOf hTs ?_);rw[if_pos (by decide)];refine wpAny_bind (p9 hs pl pu ?_)
 have hno:¬((((sIx items.size 0 lo:Nat):Int) == 0&&(1:Int) == 1&&(sIx items.size items.size hi-sIx items.size 0 lo) == items.size)=true):=by
  intro q;rw[Bool.and_eq_true,Bool.and_eq_true] at q;have q1:((sIx items.size 0 lo:Nat):Int)=0:=eq_of_beq q.1.1;have q2:sIx items.size items.size hi-sIx items.size 0 lo=items.size:=eq_of_beq q.2;exact hw ⟨by omega,by omega⟩
 show wpAny _ _ (if (((sIx items.size 0 lo:Nat):Int) == 0&&(1:Int) == 1&&(sIx items.size items.size hi-sIx items.size 0 lo) == items.size)=true then _ else _) _ _ s;rw[if_neg hno,z7]
 first
  |exact wpAny_bind (m:=Builtin.Tuple.tupleExact _) (wpAny_newObj_type (wpAny_pure ⟨_,rfl,wpAny_pure h⟩) htake)
  |exact wpAny_bind (m:=Builtin.Tuple.tupleExact _) (wpAny_newObj_type (wpAny_bind (wpAny_pure (wpAny_pure ⟨_,rfl,wpAny_pure h⟩))) htake)
  |exact wpAny_bind (wpAny_bind (m:=Builtin.Tuple.tupleExact _) (wpAny_newObj_type (wpAny_pure (wpAny_pure ⟨_,rfl,wpAny_pure h⟩)) htake))
  |exact wpAny_bind (wpAny_bind (m:=Builtin.Tuple.tupleExact _) (wpAny_newObj_type (wpAny_pure ⟨_,rfl,wpAny_pure h⟩) htake))
end
end HT
namespace L2
open PySem PySem.Spec PyProof.Rows
abbrev TO:=St->Hp->(Option Int->Hp->Prop)->Prop
def PO(X:Cx)(e:Option Expr)(t:TO):Prop:=
 ∀(pins:List (Addr×Obj)) (s:Shared) (σ:St) (H:Hp) (Q:Option Int->Hp->Prop),Inv X pins σ H s->t σ H Q ->
  wpAny (model X.prog X.w) X.A (evalPart e X.env) (fun u s'=>∃o H',Inv X pins σ H' s'/\IsPart u o/\Q o H') X.xe s
def A1:TO:=fun _ H Q=>Q none H
def D3(t:TE):TO:=fun σ H Q=>t σ H fun x H1=>∃i,x=.int i/\Q (some i) H1
section
variable {X:Cx}{e:Expr}{te:TE}{lo hi:Option Expr}{tl th:TO}{pos p2:Pos}
theorem Bm:PO X none A1:=by
 intro pins s σ H Q I h;rw[evalPart_none];exact wpAny_pure ⟨none,H,I,.none,h⟩
theorem Bl(h:PE X e te):PO X (some e) (D3 te):=by
 intro pins s σ H Q I hw;rw[evalPart_some];refine thn (h pins s σ H _ I hw) fun u s1 ⟨x,H1,I1,r1,q1⟩=>?_;obtain⟨i,rfl,q⟩:=q1;obtain⟨t,rfl⟩:=r1;exact⟨some i,H1,I1,.int i t,q⟩
def SlR(X:Cx)(r:V->Option Int->Option Int->Hp->VK->Prop):Prop:=
 ∀(pins:List (Addr×Obj)) (s:Shared) (σ:St) (H:Hp) (x:V) (v vl vu:Value) (lo hi:Option Int) (sl:Addr) (Q:VK),Inv X pins σ H s->RelV x v->s.heap.IsSliceOf sl vl vu .none->IsPart vl lo->IsPart vu hi->r x lo hi H Q ->
  ∃T id,typeLookup (.type T) "__getitem__"=pure (some (.builtin id))/\s.TypeIs v T/\wpAny (model X.prog X.w) X.A (getItem v (.ref sl)) (EP X pins σ Q) X.xe s
theorem SlR.or{r r':V->Option Int->Option Int->Hp->VK->Prop}(h:SlR X r)(h':SlR X r'):SlR X (fun x lo hi H Q=>r x lo hi H Q\/r' x lo hi H Q):=by
 intro pins s σ H x v vl vu lo hi sl Q I rx hs pl pu q
 rcases q with q|q
 .exact h pins s σ H x v vl vu lo hi sl Q I rx hs pl pu q
 .exact h' pins s σ H x v vl vu lo hi sl Q I rx hs pl pu q
def tSl(r:V->Option Int->Option Int->Hp->VK->Prop)(te:TE)(tl th:TO):TE:=fun σ H Q=>te σ H fun x H1=>tl σ H1 fun l H2=>th σ H2 fun u H3=>r x l u H3 Q
theorem z9{r:V->Option Int->Option Int->Hp->VK->Prop}(hr:SlR X r)(he:PE X e te)(hl:PO X lo tl)(hu:PO X hi th):PE X (.Subscript e (.Slice lo hi none p2) pos) (tSl r te tl th):=by
 intro pins s σ H Q I h;refine Subscript_ (thn (he pins s σ H _ I h) fun v s1 ⟨x,H1,I1,r1,q1⟩=>?_);refine wpAny_Slice (thn (hl pins s1 σ H1 _ I1 q1) fun vl s2 ⟨l,H2,I2,pl,q2⟩=>thn (hu pins s2 σ H2 _ I2 q2) fun vu s3 ⟨u,H3,I3,pu,q3⟩=>?_);rw[evalPart_none];refine wpAny_pure ?_;have I4:Inv X pins σ H3 { s3 with heap:=s3.heap.push { cls:=.type "slice",data:=.fields #[vl,vu,.none] } }:=I3.kept (t':=s3.toks) fun b ob q=>Heap.get?_push_of_some _ q;obtain⟨T,id,hT,ht,hg⟩:=hr pins { s3 with heap:=s3.heap.push { cls:=.type "slice",data:=.fields #[vl,vu,.none] } } σ H3 x v vl vu l u s3.heap.objs.size Q I4 r1 (Heap.IsSliceOf.new ..) pl pu q3;show wpAny (model X.prog X.w) X.A (subscriptTail e (.Slice lo hi none p2) v (.ref s3.heap.objs.size)) (EP X pins σ Q) X.xe { s3 with heap:=s3.heap.push { cls:=.type "slice",data:=.fields #[vl,vu,.none] } };exact tail_any (ops:=[.ref s3.heap.objs.size,v]) ht hT hg (by with_unfolding_all rfl)
def fM(xs:List V)(lo hi:Option Int):List V:=(xs.drop (HT.sIx xs.length 0 lo)).take (HT.sIx xs.length xs.length hi-HT.sIx xs.length 0 lo)
theorem qp(xs:List V)(lo hi:Option Int):(fM xs lo hi).length<=xs.length:=by
 unfold fM;rw[List.length_take,List.length_drop];omega
def Fq(K:Frag):V->Option Int->Option Int->Hp->VK->Prop:=fun x lo hi H Q=>∃a xs,x=.ref a/\SqT K H a xs /\
 ¬(HT.sIx xs.length 0 lo=0/\HT.sIx xs.length xs.length hi=xs.length)/\∀p,H p=none->Q (.ref p) (upd H p (.tup (fM xs lo hi)))
theorem CB:SlR X (Fq X.K):=by
 intro pins s σ H x v vl vu lo hi sl Q I rx hs pl pu h;obtain⟨a,xs,rfl,hx,hw,q⟩:=h;cases rx;obtain⟨its,r,ht,hz⟩:=I.tuple hx
 have hlen:its.toArray.size=xs.length:=by rw[List.size_toArray];exact r.length.symm
 refine⟨"tuple",_,PyProof.Rows.slot_tuple_getitem.lookup,ht.typeIs,?_⟩;refine HT.xh ht hs pl pu (by rw[hlen];exact hw) ?_ (by rw[hlen];exact hz);rw[hlen];refine⟨.ref s.heap.objs.size,_,I.laid (t':=s.toks) (o:=.tup (fM xs lo hi)) (fun b ob q=>Heap.get?_push_of_some _ q) (Nat.le_refl _) ?_,rfl,q _ (I.hok.fresh (Nat.le_refl _))⟩;exact⟨Nat.le_trans (qp xs lo hi) hz,_,(r.drop (HT.sIx xs.length 0 lo)).take (HT.sIx xs.length xs.length hi-HT.sIx xs.length 0 lo),IsTup.new _ _⟩
def Eb(K:Frag):R2:=fun x y H Q=>∃a b xs ys,x=.ref a/\y=.ref b/\SqT K H a xs/\SqT K H b ys/\xs≠[]/\xs.length+ys.length<=sizeLine /\
 (ys=[]->Q (.ref a) H)/\(ys≠[]->∀p,H p=none->Q (.ref p) (upd H p (.tup (xs++ys))))
theorem Vals.nil_iff{xs:List V}{us:List Value}(r:Vals xs us):us=[]↔xs=[]:=by
 cases r with
 |nil=>simp
 |cons _ _=>simp
theorem Bt:OpR X (binaryOp .Add) (Eb X.K):=by
 intro pins s σ H x y v u Q I rx ry h;obtain⟨a,b,xs,ys,rfl,rfl,ha,hb,hx,hz,q1,q2⟩:=h;cases rx;cases ry;obtain⟨its,r1,p1,_⟩:=I.tuple ha;obtain⟨its2,r2,p2,_⟩:=I.tuple hb;refine HT.B6 p1 p2 (fun z=>hx (r1.nil_iff.mp z)) (fun z=>⟨.ref a,H,I,rfl,q1 (r2.nil_iff.mp z)⟩) (fun z=>?_) (by rw[←r1.length,←r2.length];exact hz);refine⟨.ref s.heap.objs.size,_,I.laid (t':=s.toks) (o:=.tup (xs++ys)) (fun b ob q=>Heap.get?_push_of_some _ q) (Nat.le_refl _) ?_,rfl,q2 (fun w=>z (r2.nil_iff.mpr w)) _ (I.hok.fresh (Nat.le_refl _))⟩;exact⟨by rw[List.length_append];exact hz,_,r1.append r2,IsTup.new _ _⟩
end
def ixN(n:Nat)(i:Int):Option Nat:=if 0<=i then (if i<n then some i.toNat else none) else if -(n:Int)<=i then some (i+n).toNat else none
def atI{α:Type}(xs:List α)(i:Int):Option α:=(ixN xs.length i).bind fun j=>xs[j]?
theorem BE{n:Nat}{i:Int}{j:Nat}(h:ixN n i=some j):seqIndex? i n=some j/\j<n/\-(n:Int)<=i/\i<n:=by
 unfold ixN at h
 by_cases h0:0<=i
 .rw[if_pos h0] at h
  by_cases h1:i<n
  .rw[if_pos h1] at h
   have e:i.toNat=j:=Option.some.inj h;exact⟨by rw[seqIndex_of h0 h1,e],by omega,by omega,h1⟩
  .rw[if_neg h1] at h;cases h
 .rw[if_neg h0] at h
  by_cases h1 : -(n:Int)<=i
  .rw[if_pos h1] at h
   have e:(i+n).toNat=j:=Option.some.inj h;exact⟨by rw[seqIndex_neg (by omega) h1,e],by omega,h1,by omega⟩
  .rw[if_neg h1] at h;cases h
theorem oB{α:Type}{xs:List α}{i:Int}{v:α}(h:atI xs i=some v):∃j,seqIndex? i xs.length=some j/\xs[j]? = some v/\j<xs.length/\-(xs.length:Int)<=i/\i<xs.length:=by
 unfold atI at h
 cases e:ixN xs.length i with
 |none=>rw[e] at h;cases h
 |some j=>
  rw[e] at h;obtain⟨h1,h2,h3,h4⟩:=BE e;exact⟨j,h1,h,h2,h3,h4⟩
theorem B8{α:Type}{xs:List α}{j:Nat}{v:α}(h:xs[j]? = some v):atI xs (j:Int)=some v:=by
 have hj:j<xs.length:=(List.getElem?_eq_some_iff.mp h).1
 have e:ixN xs.length (j:Int)=some j:=by
  unfold ixN;rw[if_pos (by omega),if_pos (by omega)];simp
 unfold atI;rw[e];exact h
def uq(b:Expr):Prop:=∀o i,subscripted b false o i=operate [o,i] (getItem o i)
def IxR(X:Cx)(r:R2):Prop:=
 ∀(value slice:Expr) (pins:List (Addr×Obj)) (s:Shared) (σ:St) (H:Hp) (x y:V) (v u:Value) (Q:VK),Inv X pins σ H s->RelV x v->RelV y u->r x y H Q ->
  subscripted slice false v u=operate [v,u] (getItem v u)->wpAny (model X.prog X.w) X.A (subscriptTail value slice v u) (EP X pins σ Q) X.xe s
def MtR(X:Cx)(id:String)(r:V->List V->Hp->VK->Prop):Prop:=
 ∀(pins:List (Addr×Obj)) (s:Shared) (σ:St) (H:Hp) (x:V) (xs:List V) (v:Value) (us:List Value) (Q:VK),Inv X pins σ H s->RelV x v->Vals xs us->r x xs H Q ->
  wpAny (model X.prog X.w) X.A (call (.builtin id) (v::us)) (EP X pins σ Q) X.xe s
section
variable {X:Cx}{a b:Expr}{ta tb:TE}{pos:Pos}
theorem IxR.or{r r':R2}(h:IxR X r)(h':IxR X r'):IxR X (fun x y H Q=>r x y H Q\/r' x y H Q):=by
 intro value slice pins s σ H x y v u Q I rx ry q hs
 rcases q with q|q
 .exact h value slice pins s σ H x y v u Q I rx ry q hs
 .exact h' value slice pins s σ H x y v u Q I rx ry q hs
theorem MtR.or{id:String}{r r':V->List V->Hp->VK->Prop}(h:MtR X id r)(h':MtR X id r'):MtR X id (fun x xs H Q=>r x xs H Q\/r' x xs H Q):=by
 intro pins s σ H x xs v us Q I rx rs q
 rcases q with q|q
 .exact h pins s σ H x xs v us Q I rx rs q
 .exact h' pins s σ H x xs v us Q I rx rs q
theorem Ei{r:R2}(hr:IxR X r)(ha:PE X a ta)(hb:PE X b tb)(hs:uq b):PE X (.Subscript a b pos) (tOp r ta tb):=by
 intro pins s σ H Q I h;exact Subscript_ (pX ha hb I h fun v u s2 x y H2 I2 rx ry q=>hr a b pins s2 σ H2 x y v u Q I2 rx ry q (hs _ _))
def wN(K:Frag):R2:=fun x y H Q=>∃p xs i v,x=.ref p/\y=.int i/\SqL K H p xs/\atI xs i=some v/\Q v H
def wL(K:Frag):R2:=fun x y H Q=>∃p xs i v,x=.ref p/\y=.int i/\SqT K H p xs/\atI xs i=some v/\Q v H
def wM:R2:=fun x y H Q=>∃z i c,x=.str z/\y=.int i/\z.length<=sizeLine/\atI z.cps.toList i=some c/\Q (.str ⟨#[c]⟩) H
theorem ix_list:IxR X (wN X.K):=by
 intro value slice pins s σ H x y v u Q I rx ry h hs;obtain⟨p,xs,i,z,rfl,rfl,hq,he,q⟩:=h;cases rx;obtain⟨t,rfl⟩:=ry;obtain⟨its,r,pl,hz⟩:=I.list hq;obtain⟨j,h1,h2,h3,h4,h5⟩:=oB he;obtain⟨w,ew,rw'⟩:=r.get h2;have hl:=r.length;have hn:=iO;have fin:EP X pins σ Q w s:=⟨z,H,I,rw',q⟩
 by_cases h0:0<=i
 .have hj:i.toNat=j:=by
   rw[seqIndex_of h0 h5] at h1;exact Option.some.inj h1
  exact item_listR pl.isList h0 (by omega) (by rw[hj];simpa using ew) fin hs
 .have hj:(i+(its.toArray.size:Int)).toNat=j:=by
   rw[seqIndex_neg (by omega) h4] at h1;rw[List.size_toArray,←hl];exact Option.some.inj h1
  exact subscriptTail_builtinR (x:=w) pl.isList.typeIs slot_list_getitem.lookup
   (wpAny_getItem_list_neg (Q:=fun r s'=>r=w/\EP X pins σ Q r s') pl.isList (by omega) (by rw[List.size_toArray] <;> omega) (by omega) (by rw[hj];simpa using ew) ⟨rfl,fin⟩) hs
theorem ix_tup:IxR X (wL X.K):=by
 intro value slice pins s σ H x y v u Q I rx ry h hs;obtain⟨p,xs,i,z,rfl,rfl,hq,he,q⟩:=h;cases rx;obtain⟨t,rfl⟩:=ry;obtain⟨its,r,pl,hz⟩:=I.tuple hq;obtain⟨j,h1,h2,h3,h4,h5⟩:=oB he;obtain⟨w,ew,rw'⟩:=r.get h2;have hl:=r.length;have hn:=iO;have fin:EP X pins σ Q w s:=⟨z,H,I,rw',q⟩
 exact subscriptTail_builtinR (x:=w) pl.typeIs slot_tuple_getitem.lookup
  (getItem_tuple (j:=j) (Q:=fun r s'=>r=w/\EP X pins σ Q r s') pl (by omega) (by omega) (by rw[List.size_toArray,←hl];exact h1) (by simpa using ew) ⟨rfl,fin⟩) hs
theorem Dp:IxR X wM:=by
 intro value slice pins s σ H x y v u Q I rx ry h hs;obtain⟨z,i,c,rfl,rfl,hz,he,q⟩:=h;obtain⟨t,rfl⟩:=rx;obtain⟨t',rfl⟩:=ry;obtain⟨j,h1,h2,h3,h4,h5⟩:=oB he
 have hl:z.cps.toList.length=z.length:=by simp[Str.length]
 rw[hl] at h1 h4 h5;have hn:=iO
 exact tail_any (typeIs_str s z t) slot_str_getitem.lookup (getItem_str (c:=c) (by
  have e1:decide (i < -(2^63:Int))=false:=decide_eq_false (by omega);have e2:decide (i>=2^63)=false:=decide_eq_false (by omega)
  rw[e1,e2,Bool.or_false]) (by rw[h1];simpa using h2) ⟨.str ⟨#[c]⟩,H,I.tok _,⟨_,rfl⟩,q⟩) hs
def rIx(K:Frag):R2:=fun x y H Q=>wN K x y H Q\/wL K x y H Q\/wM x y H Q
theorem Dq:IxR X (rIx X.K):=ix_list.or (ix_tup.or Dp)
theorem xD(lo hi:Option Int)(n:Nat):(sliceBounds lo hi none n).1=((HT.sIx n 0 lo:Nat):Int)/\(sliceBounds lo hi none n).2.1=((HT.sIx n n hi:Nat):Int)/\(sliceBounds lo hi none n).2.2=1:=by
 refine⟨?_,?_,rfl⟩
 .cases lo with
  |none=>simp[sliceBounds,HT.sIx]
  |some i=>
   simp only[sliceBounds,HT.sIx,Option.getD_none,show (1:Int)>0 by decide,if_true]
   by_cases h:i<0
   .simp only[h,if_true] <;> omega
   .simp only[h,if_false] <;> omega
 .cases hi with
  |none=>simp[sliceBounds,HT.sIx]
  |some i=>
   simp only[sliceBounds,HT.sIx,Option.getD_none,show (1:Int)>0 by decide,if_true]
   by_cases h:i<0
   .simp only[h,if_true] <;> omega
   .simp only[h,if_false] <;> omega
theorem xt(its:List Value)(lo hi:Option Int):slicePick its.toArray lo hi none=((its.drop (HT.sIx its.length 0 lo)).take (HT.sIx its.length its.length hi-HT.sIx its.length 0 lo)).toArray:=by
 obtain⟨h1,h2,h3⟩:=xD lo hi its.toArray.size;unfold slicePick;rw[h1,h2,h3]
 simp only[sliceRange_one,pick_run,List.size_toArray] <;> rfl
def Fs(K:Frag):V->Option Int->Option Int->Hp->VK->Prop:=fun x lo hi H Q=>∃a xs,x=.ref a/\SqL K H a xs/\∀p,H p=none->Q (.ref p) (upd H p (.lst (fM xs lo hi)))
theorem sl_list:SlR X (Fs X.K):=by
 intro pins s σ H x v vl vu lo hi sl Q I rx hs pl pu h;obtain⟨a,xs,rfl,hx,q⟩:=h;cases rx;obtain⟨its,r,ht,hz⟩:=I.list hx;have hlen:=r.length;refine⟨"list",_,slot_list_getitem.lookup,ht.isList.typeIs,?_⟩;refine wpAny_getItem_list_slice ht.isList hs pl pu .none (by simp) ?_ (by rw[List.size_toArray] <;> omega);rw[xt,←hlen];refine⟨.ref s.heap.objs.size,_,I.laid (t':=s.toks) (o:=.lst (fM xs lo hi)) (fun b ob q=>Heap.get?_push_of_some _ q) (Nat.le_refl _) ?_,rfl,q _ (I.hok.fresh (Nat.le_refl _))⟩;exact⟨Nat.le_trans (qp xs lo hi) hz,_,0,(r.drop (HT.sIx xs.length 0 lo)).take (HT.sIx xs.length xs.length hi-HT.sIx xs.length 0 lo),Heap.get?_push_size _ rfl⟩
def eM:V->Bool
 |.non=>true
 |.bl _=>true
 |.int _=>true
 |.str _=>true
 |_=>false
def eqV:V->V->Bool
 |.non,.non=>true
 |.bl a,.bl b=>a == b
 |.bl a,.int b=>(if a then 1 else 0) == b
 |.int a,.bl b=>a == (if b then 1 else 0)
 |.int a,.int b=>a == b
 |.str a,.str b=>a == b
 |_,_=>false
theorem DH{A:Around}{s:Shared}{y x:V}{u v:Value}(ry:RelV y u)(rx:RelV x v)(fy:eM y=true)(fx:eM x=true):SeqAt.EqAt A s u v (eqV y x):=by
 cases y with
 |non=>
  cases ry
  cases x with
  |non=>cases rx;exact SeqAt.EqAt.same _
  |bl b=>cases rx;exact SeqAt.EqAt.none_bool b
  |int b=>obtain⟨t,rfl⟩:=rx;exact SeqAt.EqAt.none_int b t
  |str b=>obtain⟨t,rfl⟩:=rx;exact SeqAt.EqAt.none_str b t
  |_=>exact absurd (show false=true from fx) Bool.false_ne_true
 |bl a=>
  cases ry
  cases x with
  |non=>cases rx;exact SeqAt.EqAt.bool_none a
  |bl b=>cases rx;exact SeqAt.EqAt.bool_bool a b
  |int b=>obtain⟨t,rfl⟩:=rx;exact SeqAt.EqAt.bool_int a b t
  |str b=>obtain⟨t,rfl⟩:=rx;exact SeqAt.EqAt.bool_str a b t
  |_=>exact absurd (show false=true from fx) Bool.false_ne_true
 |int a=>
  obtain⟨t',rfl⟩:=ry
  cases x with
  |non=>cases rx;exact SeqAt.EqAt.int_none a t'
  |bl b=>cases rx;exact SeqAt.EqAt.int_bool a t' b
  |int b=>obtain⟨t,rfl⟩:=rx;exact SeqAt.EqAt.int_int a t' b t
  |str b=>obtain⟨t,rfl⟩:=rx;exact SeqAt.EqAt.int_str a t' b t
  |_=>exact absurd (show false=true from fx) Bool.false_ne_true
 |str a=>
  obtain⟨t',rfl⟩:=ry
  cases x with
  |non=>cases rx;exact SeqAt.EqAt.str_none a t'
  |bl b=>cases rx;exact SeqAt.EqAt.str_bool a t' b
  |int b=>obtain⟨t,rfl⟩:=rx;exact SeqAt.EqAt.str_int a t' b t
  |str b=>obtain⟨t,rfl⟩:=rx;exact SeqAt.EqAt.str_str a t' b t
  |_=>exact absurd (show false=true from fx) Bool.false_ne_true
 |_=>exact absurd (show false=true from fy) Bool.false_ne_true
def eqU(x:V)(u:Value):Bool:=match u with
 |.none=>eqV .non x
 |.bool b=>eqV (.bl b) x
 |.int i _=>eqV (.int i) x
 |.str z _=>eqV (.str z) x
 |_=>false
theorem vg{x y:V}{u:Value}(r:RelV y u)(f:eM y=true):eqU x u=eqV y x:=by
 cases y with
 |non=>cases r;rfl
 |bl b=>cases r;rfl
 |int i=>obtain⟨t,rfl⟩:=r;rfl
 |str z=>obtain⟨t,rfl⟩:=r;rfl
 |_=>exact absurd (show false=true from f) Bool.false_ne_true
theorem jE{x:V}:∀{xs:List V}{us:List Value},Vals xs us->xs.all eM=true->us.any (eqU x)=xs.any fun y=>eqV y x
 |_,_,.nil,_=>rfl
 |y::xs,u::us,.cons r t,f=>by
  rw[List.all_cons,Bool.and_eq_true] at f;rw[List.any_cons,List.any_cons,vg r f.1,jE t f.2]
theorem ju{A:Around}{s:Shared}{x:V}{v:Value}(rx:RelV x v)(fx:eM x=true):∀{xs:List V}{us:List Value},Vals xs us->xs.all eM=true->∀u∈us,SeqAt.EqAt A s u v (eqU x u)
 |_,_,.nil,_=>fun u hu=>by cases hu
 |y::xs,u::us,.cons r t,f=>fun u' hu=>by
  rw[List.all_cons,Bool.and_eq_true] at f
  rcases List.mem_cons.mp hu with rfl|hu
  .rw[vg r f.1];exact DH r rx f.1 fx
  .exact ju rx fx t f.2 u' hu
def inV(x:V)(xs:List V):Bool:=xs.any fun y=>eqV y x
def rIn(K:Frag)(neg:Bool):R2:=fun x y H Q=>∃p xs,y=.ref p/\(SqL K H p xs\/SqT K H p xs)/\eM x=true/\xs.all eM=true/\Q (.bl (if neg then !inV x xs else inV x xs)) H
theorem rA:OpR X (compareOp .In) (rIn X.K false):=by
 intro pins s σ H x y v u Q I rx ry h;obtain⟨p,xs,rfl,hq,fx,fs,q⟩:=h;cases ry
 rcases hq with hq|hq
 .obtain⟨its,r,pl,hz⟩:=I.list hq
  refine SeqAt.in_listAt (eqU x) pl.isList (fun w hw=>ju rx fx r fs w (by simpa using hw)) ⟨.bl _,H,I,rfl,?_⟩;rw[show its.toArray.any (eqU x)=its.any (eqU x) by simp,jE r fs];exact q
 .obtain⟨its,r,pl,hz⟩:=I.tuple hq
  refine SeqAt.in_tupleAt (eqU x) pl (fun w hw=>ju rx fx r fs w (by simpa using hw)) ⟨.bl _,H,I,rfl,?_⟩;rw[show its.toArray.any (eqU x)=its.any (eqU x) by simp,jE r fs];exact q
theorem qd:OpR X (compareOp .NotIn) (rIn X.K true):=by
 intro pins s σ H x y v u Q I rx ry h;obtain⟨p,xs,rfl,hq,fx,fs,q⟩:=h;cases ry
 rcases hq with hq|hq
 .obtain⟨its,r,pl,hz⟩:=I.list hq
  refine SeqAt.notIn_listAt (eqU x) pl.isList (fun w hw=>ju rx fx r fs w (by simpa using hw)) ⟨.bl _,H,I,rfl,?_⟩;rw[show its.toArray.any (eqU x)=its.any (eqU x) by simp,jE r fs];exact q
 .obtain⟨its,r,pl,hz⟩:=I.tuple hq
  refine SeqAt.notIn_tupleAt (eqU x) pl (fun w hw=>ju rx fx r fs w (by simpa using hw)) ⟨.bl _,H,I,rfl,?_⟩;rw[show its.toArray.any (eqU x)=its.any (eqU x) by simp,jE r fs];exact q
theorem call_len_seq:CallR X (.builtin "len") (fun xs H Q=>∃p ys,xs=[.ref p]/\(SqL X.K H p ys\/SqT X.K H p ys)/\Q (.int ys.length) H):=by
 intro pins s σ H xs us Q I r h;obtain⟨p,ys,rfl,hq,q⟩:=h;obtain⟨u,rfl,rx⟩:=vals1 r;cases rx;have hn:=iO
 rcases hq with hq|hq
 .obtain⟨its,r',pl,hz⟩:=I.list hq
  have hlen:=r'.length;exact Calls.call_len_list pl.isList (by simp only[List.size_toArray] <;> omega) ⟨.int ys.length,H,I.tok _,⟨s.toks+1,by rw[List.size_toArray,hlen]⟩,q⟩
 .obtain⟨its,r',pl,hz⟩:=I.tuple hq
  have hlen:=r'.length;exact len_tuple pl (by simp only[List.size_toArray] <;> omega) ⟨.int ys.length,H,I.tok _,⟨s.toks+1,by rw[List.size_toArray,hlen]⟩,q⟩
theorem call_len_str:CallR X (.builtin "len") (fun xs H Q=>∃z,xs=[.str z]/\z.length<=sizeLine/\Q (.int z.length) H):=by
 intro pins s σ H xs us Q I r h;obtain⟨z,rfl,hz,q⟩:=h;obtain⟨u,rfl,t,rfl⟩:=vals1 r;have hn:=iO;exact len_str (by omega) ⟨.int z.length,H,I.tok _,⟨_,rfl⟩,q⟩
theorem CallR.or{f:Value}{r r':List V->Hp->VK->Prop}(h:CallR X f r)(h':CallR X f r'):CallR X f (fun xs H Q=>r xs H Q\/r' xs H Q):=by
 intro pins s σ H xs us Q I rs q
 rcases q with q|q
 .exact h pins s σ H xs us Q I rs q
 .exact h' pins s σ H xs us Q I rs q
theorem xO:CallR X (.type "list") (fun xs H Q=>∃p ys,xs=[.ref p]/\(SqL X.K H p ys\/SqT X.K H p ys)/\∀l,H l=none->Q (.ref l) (upd H l (.lst ys))):=by
 intro pins s σ H xs us Q I r h;obtain⟨p,ys,rfl,hq,q⟩:=h;obtain⟨u,rfl,rx⟩:=vals1 r;cases rx
 have fin:∀(its:List Value),Vals ys its->ys.length<=sizeLine->∀(h':Heap) (c':Nat),(∀b o',s.heap.get? b=some o'->h'.get? b=some o') ->
   h'.get? s.heap.objs.size=some { cls:=.type "list",dict:=none,data:=.seq its.toArray c',slots:=#[] }->EP X pins σ Q (.ref s.heap.objs.size) { s with heap:=h' }:=fun its r' hz h' c' kp e=>
  ⟨.ref s.heap.objs.size,_,I.laid (t':=s.toks) kp (Nat.le_refl _) (show ObjOk X.prog X.w _ h' _ (.lst ys) from⟨hz,its,c',r',e⟩),rfl,q _ (I.hok.fresh (Nat.le_refl _))⟩
 rcases hq with hq|hq
 .obtain⟨its,r',pl,hz⟩:=I.list hq
  have hlen:=r'.length;obtain⟨o,ho,hc,n,hd⟩:=pl.isList;exact call_list_seq p (.inl rfl) ho hc hd (fun h' c' kp e=>fin its r' hz h' c' kp e) (by simp only[List.size_toArray] <;> omega)
 .obtain⟨its,r',pl,hz⟩:=I.tuple hq
  have hlen:=r'.length;obtain⟨o,ho,hc,n,hd⟩:=pl;exact call_list_seq p (.inr rfl) ho hc hd (fun h' c' kp e=>fin its r' hz h' c' kp e) (by simp only[List.size_toArray] <;> omega)
theorem xB:CallR X (.type "tuple") (fun xs H Q=>∃p ys,xs=[.ref p]/\((SqL X.K H p ys/\∀l,H l=none->Q (.ref l) (upd H l (.tup ys)))\/(SqT X.K H p ys/\Q (.ref p) H))):=by
 intro pins s σ H xs us Q I r h;obtain⟨p,ys,rfl,h⟩:=h;obtain⟨u,rfl,rx⟩:=vals1 r;cases rx
 rcases h with⟨hq,q⟩|⟨hq,q⟩
 .obtain⟨its,r',pl,hz⟩:=I.list hq
  have hlen:=r'.length;refine call_tuple_list pl.isList (fun h' kp=>?_) (by simp only[List.size_toArray] <;> omega);have I1:Inv X pins σ H { s with heap:=h' }:=I.kept (t':=s.toks) kp
  have I2:Inv X pins σ (upd H h'.objs.size (.tup ys)) { s with heap:=h'.push { cls:=.type "tuple",data:=.seq its.toArray } }:=
   I1.laid (t':=s.toks) (fun b o e=>Heap.get?_push_of_some _ e) (Nat.le_refl _) (show ObjOk X.prog X.w _ _ _ (.tup ys) from⟨hz,its,r',IsTup.new _ _⟩)
  exact⟨.ref h'.objs.size,_,I2,rfl,q _ (I1.hok.fresh (Nat.le_refl _))⟩
 .obtain⟨its,r',pl,hz⟩:=I.tuple hq
  exact call_tuple_same pl ⟨.ref p,H,I,rfl,q⟩
def tyV(K:Frag)(T:String)(x:V)(H:Hp):Prop:=match x with
 |.str _=>T="str"
 |.int _=>T="int"
 |.ref p=>(T="list"/\∃xs,SqL K H p xs)\/(T="tuple"/\∃o,K.lookup p=some o/\o.cls=.type "tuple"/\o.dict=none) \/
   (T="dict"/\((∃kvs,H p=some (.dK kvs))\/∃kvs,H p=some (.dT kvs)))\/(T="set"/\∃S n,H p=some (.set S n))
 |_=>False
theorem Co{pins:List (Addr×Obj)}{σ:St}{H:Hp}{s:Shared}{T:String}{x:V}{v:Value}(I:Inv X pins σ H s)(r:RelV x v)(ty:tyV X.K T x H) :
  s.TypeIs v T/\∀a,v=.ref a->∃ob,s.heap.get? a=some ob/\ob.dict=none:=by
 cases x with
 |str z=>
  obtain⟨t,rfl⟩:=r;cases (show T="str" from ty);exact⟨typeIs_str s z t,fun _ e=>nomatch e⟩
 |int i=>
  obtain⟨t,rfl⟩:=r;cases (show T="int" from ty);exact⟨typeIs_int s i t,fun _ e=>nomatch e⟩
 |ref p=>
  cases r
  rcases ty with⟨rfl,xs,hq⟩|⟨rfl,o,hk,hc,hd⟩|⟨rfl,hk⟩|⟨rfl,S,n,hk⟩
  .obtain⟨its,_,pl,_⟩:=I.list hq
   refine⟨pl.isList.typeIs,fun a e=>?_⟩;cases e;obtain⟨o,n,e,c,hd,_⟩:=pl;exact⟨o,e,hd⟩
  .refine⟨⟨o,I.kIn p o hk,hc⟩,fun a e=>?_⟩
   cases e;exact⟨o,I.kIn _ o hk,hd⟩
  .have z:∃o,s.heap.get? p=some o/\o.ExactDict:=by
    rcases hk with⟨kvs,hk⟩|⟨kvs,hk⟩
    .obtain⟨_,_,_,_,o,_,_,e,ex,_⟩:=I.hok p _ hk
     exact⟨o,e,ex⟩
    .obtain⟨_,_,_,_,o,_,_,e,ex,_⟩:=I.hok p _ hk
     exact⟨o,e,ex⟩
   obtain⟨o,e,ex⟩:=z;refine⟨⟨o,e,ex.1⟩,fun a e2=>?_⟩;cases e2;exact⟨o,e,ex.2.1⟩
  .obtain⟨o,_,_,_,e,ex,_⟩:=I.hok p _ hk
   refine⟨⟨o,e,ex.1⟩,fun a e2=>?_⟩;cases e2;exact⟨o,e,ex.2.1⟩
 |_=>exact False.elim ty
def tBM(K:Frag)(T:String)(r:V->List V->Hp->VK->Prop)(to:TE)(t:TA):TE:=fun σ H Q=>to σ H fun x H1=>tyV K T x H1/\t σ H1 fun xs H2=>r x xs H2 Q
variable {o e:Expr}{es:List Expr}{to:TE}{t:TA}{name:Str}{apos cpos:Pos}{T id:String}{r:V->List V->Hp->VK->Prop}
theorem jT(pa:PlainAttrs T)(slot:Slot T name id)(hty:typeOf (.builtin id)=pure (.type "method_descriptor"))(hm:MtR X id r)(ho:PE X o to)(ha:PA X (e::es) t)
  (hbase:attributeBase o name X.env (eval o X.env)=eval o X.env:=by rfl)
  (hfew:((backTo cpos (starEach (e::es) X.env)).all (fun x=>!x.1)&&(backToKw cpos (keywordEach [] X.env)).all (fun x=>x.1.isSome)
   && decide ((e::es).length+([]:List Keyword).length+(if ([]:List Keyword).isEmpty then 0 else 1)<30))=true:=by rfl)
  (hline:(apos.endLine == cpos.line)=true:=by rfl) (hs:starEach (e::es) X.env=(false,eval e X.env)::starEach es X.env:=by rfl) (hplain:(backTo cpos (starEach es X.env)).any (·.1)=false:=by rfl) :
  PE X (.Call (.Attribute o name apos) (e::es) [] cpos) (tBM X.K T r to t):=by
 intro pins s σ H Q I h;refine wpAny_Call_method_late hbase hfew hline rfl (thn (ho pins s σ H _ I h) fun v s1 ⟨x,H1,I1,r1,ty,q1⟩=>?_);obtain⟨h1,h2⟩:=Co I1 r1 ty;refine⟨T,id,pa,slot,hty,h1,h2,?_⟩;have hA:=ha cpos pins s1 σ H1 _ I1 q1;rw[hs] at hA ⊢;refine Calls.callWith_builtin (by show (false||(backTo cpos (starEach es X.env)).any (·.1))=false;rw[hplain] <;> rfl) (Calls.evalArgs_plain ?_);exact thn hA fun us s2 ⟨vs,H2,I2,r2,q2⟩=>hm pins s2 σ H2 x vs v us Q I2 r1 r2 q2
end
def MtM(X:Cx)(id:String)(r:V->List V->Hp->VK->Prop):Prop:=
 ∀(pins:List (Addr×Obj)) (s:Shared) (σ:St) (H:Hp) (x:V) (xs:List V) (v:Value) (us:List Value) (Q:VK),Inv X pins σ H s->RelV x v->Vals xs us->r x xs H Q ->
  wpAny (model X.prog X.w) X.A (call (.builtin id) (v::us)) (EP X pins σ Q) X.xe s
theorem Vals.one:∀{x:V}{us:List Value},Vals [x] us->∃u,us=[u]/\RelV x u
 |_,_,.cons r .nil=>⟨_,rfl,r⟩
theorem Vals.rep{xs:List V}{us:List Value}(h:Vals xs us):∀k:Nat,Vals (List.replicate k xs).flatten (List.replicate k us).flatten
 |0=>.nil
 |k+1=>by
  rw[List.replicate_succ,List.replicate_succ,List.flatten_cons,List.flatten_cons];exact Vals.append h (Vals.rep h k)
theorem foldl_rep(its:List Value):∀(k:Nat) (acc:List Value),
  List.foldl (fun x1 x2=>x1++x2) acc.toArray (List.replicate k its.toArray)=(acc++(List.replicate k its).flatten).toArray
 |0,acc=>by simp
 |k+1,acc=>by
  have e:acc.toArray++its.toArray=(acc++its).toArray:=by simp
  have e2:(acc++its)++(List.replicate k its).flatten=acc++(List.replicate (k+1) its).flatten:=by
   rw[List.replicate_succ,List.flatten_cons,List.append_assoc]
  rw[←e2,←foldl_rep its k (acc++its),←e,List.replicate_succ,List.foldl_cons]
section
variable {X:Cx}{pins:List (Addr×Obj)}{σ:St}{H:Hp}{s:Shared}{l b:Addr}{xs ys zs:List V}
theorem Inv.lset{its its':List Value}{n:Nat}{f:Array Value->Array Value}{t':Nat}(I:Inv X pins σ H s)(hH:H l=some (.lst xs))
  (e:s.heap.get? l=some { cls:=.type "list",data:=.seq its.toArray n }) (hf:f its.toArray=its'.toArray) (hv:Vals ys its') (hz:ys.length<=sizeLine) :
  Inv X pins σ (upd H l (.lst ys)) { s with heap:=s.heap.update l (Obj.mapSeq f),toks:=t' }:=by
 have q:=PySem.IsL.update e f;rw[hf] at q;refine I.write (x:=l) (e:=l) (by rw[hH];exact trivial) (.inl rfl) (fun b' u hb hu=>(Heap.get?_update_other s.heap (Obj.mapSeq f) (Ne.symm hb)).trans hu) ⟨_,q⟩ ?_;exact⟨hz,its',_,hv,q⟩
theorem Inv.lnew{its:List Value}{t':Nat}(I:Inv X pins σ H s)(hv:Vals ys its)(hz:ys.length<=sizeLine) :
  Inv X pins σ (upd H s.heap.objs.size (.lst ys)) { s with heap:=s.heap.push { cls:=.type "list",data:=.seq its.toArray },toks:=t' }:=I.laid (fun _ _ q=>Heap.get?_push_of_some _ q) (Nat.le_refl _) ⟨hz,its,0,hv,Heap.get?_push_size _ rfl⟩
theorem Inv.fresh(I:Inv X pins σ H s):H s.heap.objs.size=none:=I.hok.fresh (Nat.le_refl _)
theorem Inv.lstM(I:Inv X pins σ H s)(hH:H l=some (.lst xs)):xs.length<=sizeLine/\∃(its:List Value) (n:Nat),Vals xs its/\xs.length=its.length/\s.heap.get? l=some { cls:=.type "list",data:=.seq its.toArray n }:=by
 obtain⟨z,its,n,r,e⟩:=I.hok l _ hH;exact⟨z,its,n,r,r.length,e⟩
theorem Ah{n:Nat}(h:n<=sizeLine):Builtin.List.listTooLong n=false:=by
 unfold Builtin.List.listTooLong;exact decide_eq_false (by omega)
end
section
variable {X:Cx}
def A9:V->List V->Hp->VK->Prop:=fun x vs H Q=>∃l xs y,x=.ref l/\vs=[y]/\H l=some (.lst xs)/\xs.length<sizeLine/\Q .non (upd H l (.lst (xs++[y])))
theorem y4:MtM X "list.append" A9:=by
 intro pins s σ H x vs v us Q I rx rv h;obtain⟨l,xs,y,rfl,rfl,hH,hz,q⟩:=h;cases rx;obtain⟨u,rfl,ru⟩:=rv.one;obtain⟨z,its,n,r,hl,e⟩:=I.lstM hH;refine call_meets F.slot_list_append ⟨_,e,rfl⟩ F.entry_list_append (F.args_list_append_2 _ _) (PySem.list_append l its.toArray n u (by rw[List.size_toArray];omega)) ⟨e,?_⟩;refine⟨.non,_,I.lset (its':=its++[u]) hH e (by simp) (r.append (.cons ru .nil)) ?_,rfl,q⟩;rw[List.length_append,List.length_singleton];omega
theorem len_rep{α:Type}(xs:List α)(k:Nat):(List.replicate k xs).flatten.length=k*xs.length:=by
 induction k with
 |zero=>simp
 |succ k ih=>rw[List.replicate_succ,List.flatten_cons,List.length_append,ih,Nat.succ_mul,Nat.add_comm]
end
section
variable {prog:Program}{w:World}{A:Around}{E:Value->Shared->Prop}{s:Shared}
end
section
variable {X:Cx}
end
section
variable {κ:Type}[DecidableEq κ]
def bt(kvs:List (κ×V))(k:κ):Option V:=(kvs.find? fun kv=>decide (kv.1=k)).map (·.2)
def putK(kvs:List (κ×V))(k:κ)(v:V):List (κ×V):=if (kvs.any fun kv=>decide (kv.1=k))=true then kvs.map (fun kv=>if kv.1=k then (kv.1,v) else kv) else kvs++[(k,v)]
def cL(kvs:List (κ×V))(k:κ):List (κ×V):=kvs.filter fun kv=>decide (kv.1≠k)
theorem nj{p:κ×V}{r:List (κ×V)}{k:κ}(e:p.1=k):bt (p::r) k=some p.2:=by simp[bt,List.find?_cons,e]
theorem nq{p:κ×V}{r:List (κ×V)}{k:κ}(e:¬p.1=k):bt (p::r) k=bt r k:=by simp[bt,List.find?_cons,e]
theorem nr(k:κ):∀kvs:List (κ×V),(kvs.any fun kv=>decide (kv.1=k))=(bt kvs k).isSome
 |[]=>rfl
 |p::r=>by
  rw[List.any_cons]
  by_cases e:p.1=k
  .simp only[nj e,decide_eq_true e,Bool.true_or,Option.isSome_some]
  .rw[nq e,decide_eq_false e,Bool.false_or];exact nr k r
theorem qj(kvs:List (κ×V))(k:κ)(v:V):(putK kvs k v).length<=kvs.length+1:=by
 unfold putK;split
 .rw[List.length_map];omega
 .rw[List.length_append,List.length_cons,List.length_nil];omega
theorem zW{kvs:List (κ×V)}{k:κ}(v:V)(h:bt kvs k=none):putK kvs k v=kvs++[(k,v)]:=by
 unfold putK;rw[nr,h];exact if_neg (by decide)
theorem RelO.isSome_eq{o:Option V}{u:Option Value}(r:RelO o u):o.isSome=u.isSome:=by
 cases o with
 |none=>cases u with
  |none=>rfl
  |some _=>exact(show False from r).elim
 |some _=>cases u with
  |none=>exact(show False from r).elim
  |some _=>rfl
theorem KV.val{kvs:List (κ×V)}{vs:List (κ×Value)}(r:KV kvs vs)(k:κ):RelO (bt kvs k) (valueAt vs k):=by
 unfold KV at r
 induction r with
 |nil=>exact True.intro
 |@cons p q ps qs h t ih=>
  obtain⟨h1,h2⟩:=h
  by_cases e:p.1=k
  .have e':q.1=k:=h1.symm.trans e
   have b:valueAt (q::qs) k=some q.2:=by simp[valueAt,List.find?_cons,e']
   rw[nj e,b];exact h2
  .have e':¬q.1=k:=fun z=>e (h1.trans z)
   have b:valueAt (q::qs) k=valueAt qs k:=by simp[valueAt,List.find?_cons,e']
   rw[nq e,b];exact ih
theorem KV.any{kvs:List (κ×V)}{vs:List (κ×Value)}(r:KV kvs vs)(k:κ):(kvs.any fun kv=>decide (kv.1=k))=vs.any fun kv=>decide (kv.1=k):=by
 unfold KV at r
 induction r with
 |nil=>rfl
 |cons h t ih=>rw[List.any_cons,List.any_cons,ih,h.1]
theorem KV.repl{kvs:List (κ×V)}{vs:List (κ×Value)}(r:KV kvs vs)(k:κ){y:V}{u:Value}(ry:RelV y u) :
  KV (kvs.map fun kv=>if kv.1=k then (kv.1,y) else kv) (vs.map fun kv=>if kv.1=k then (kv.1,u) else kv):=by
 unfold KV at r ⊢
 induction r with
 |nil=>exact .nil
 |@cons p q ps qs h t ih=>
  rw[List.map_cons,List.map_cons];refine .cons ?_ ih;obtain⟨h1,h2⟩:=h
  by_cases e:p.1=k
  .rw[if_pos e,if_pos (h1.symm.trans e)];exact⟨h1,ry⟩
  .rw[if_neg e,if_neg (fun z=>e (h1.trans z))];exact⟨h1,h2⟩
theorem KV.put{kvs:List (κ×V)}{vs:List (κ×Value)}(r:KV kvs vs)(k:κ){y:V}{u:Value}(ry:RelV y u):KV (putK kvs k y) (stored vs k u):=by
 unfold putK stored;rw[r.any k]
 by_cases e:(vs.any fun kv=>decide (kv.1=k))=true
 .rw[if_pos e,if_pos e];exact r.repl k ry
 .rw[if_neg e,if_neg e];exact Paired.snoc r ⟨rfl,ry⟩
theorem KV.drop{kvs:List (κ×V)}{vs:List (κ×Value)}(r:KV kvs vs)(k:κ):KV (cL kvs k) (without vs k):=by
 unfold KV at r ⊢;unfold cL without
 induction r with
 |nil=>exact .nil
 |@cons p q ps qs h t ih=>
  obtain⟨h1,h2⟩:=h;rw[List.filter_cons,List.filter_cons]
  by_cases e:p.1=k
  .have a:¬decide (p.1≠k)=true:=by simp[e]
   have b:¬decide (q.1≠k)=true:=by simp[h1.symm.trans e]
   rw[if_neg a,if_neg b];exact ih
  .have e':¬q.1=k:=fun z=>e (h1.trans z)
   have a:decide (p.1≠k)=true:=by simp[e]
   have b:decide (q.1≠k)=true:=by simp[e']
   rw[if_pos a,if_pos b];exact .cons ⟨h1,h2⟩ ih
theorem KV.keys{kvs:List (κ×V)}{vs:List (κ×Value)}(r:KV kvs vs):kvs.map (·.1)=vs.map (·.1):=by
 unfold KV at r
 induction r with
 |nil=>rfl
 |cons h t ih=>rw[List.map_cons,List.map_cons,ih,h.1]
theorem KV.length{kvs:List (κ×V)}{vs:List (κ×Value)}(r:KV kvs vs):kvs.length=vs.length:=Paired.length r
theorem AD(kvs:List (κ×V))(k:κ):(cL kvs k).length<=kvs.length:=List.length_filter_le _ _
end
theorem h9{P:Program}{w:World}{k:Key}{u:Value}(r:RelV (kV k) u):(bq P w).is k u=true:=by
 cases k with
 |inl i=>obtain⟨t,e⟩:=(show ∃t,u=Value.int i t from r);subst e;exact xU P w i t
 |inr x=>obtain⟨t,e⟩:=(show ∃t,u=Value.str x t from r);subst e;exact xT P w x t
theorem rF{P:Program}{w:World}:∀{ks:List Key}{us:List Value},Vals (ks.map kV) us->ItemsAre (bq P w) ks us
 |[],_,r=>by rw[List.map_nil] at r;cases r;exact .nil
 |k::ks,_,r=>by
  rw[List.map_cons] at r
  cases r with
  |cons h t=>exact .cons (h9 h) (rF t)
abbrev KT(H:Hp):List (List Key×V)->List (List Key×Addr×Value)->Prop:=Paired fun p q=>p.1=q.1/\H q.2.1=some (.tup (p.1.map kV))/\RelV p.2 q.2.2
theorem KT.val{H:Hp}{kvs:List (List Key×V)}{xs:List (List Key×Addr×Value)}(r:KT H kvs xs)(k:List Key):RelO (bt kvs k) ((atKey xs k).map (·.2)):=by
 induction r with
 |nil=>exact True.intro
 |@cons p q ps qs h t ih=>
  obtain⟨h1,_,h2⟩:=h
  by_cases e:p.1=k
  .have e':q.1=k:=h1.symm.trans e
   have b:atKey (q::qs) k=some q.2:=by simp[atKey,List.find?_cons,e']
   rw[nj e,b];exact h2
  .have e':¬q.1=k:=fun z=>e (h1.trans z)
   have b:atKey (q::qs) k=atKey qs k:=by simp[atKey,List.find?_cons,e']
   rw[nq e,b];exact ih
theorem KT.repl{H:Hp}{kvs:List (List Key×V)}{xs:List (List Key×Addr×Value)}(r:KT H kvs xs)(k:List Key){y:V}{u:Value}(ry:RelV y u) :
  KT H (kvs.map fun kv=>if kv.1=k then (kv.1,y) else kv) (xs.map (putAt k u)):=by
 induction r with
 |nil=>exact .nil
 |@cons p q ps qs h t ih=>
  rw[List.map_cons,List.map_cons];refine .cons ?_ ih;obtain⟨h1,h2,h3⟩:=h;unfold putAt
  by_cases e:p.1=k
  .rw[if_pos e,if_pos (h1.symm.trans e)];exact⟨h1,h2,ry⟩
  .rw[if_neg e,if_neg (fun z=>e (h1.trans z))];exact⟨h1,h2,h3⟩
theorem KT.put{H:Hp}{kvs:List (List Key×V)}{xs:List (List Key×Addr×Value)}(r:KT H kvs xs)(k:List Key){b:Addr}{y:V}{u:Value}(hb:H b=some (.tup (k.map kV)))(ry:RelV y u) :
  KT H (putK kvs k y) (storedH xs k b u):=by
 have e:(kvs.any fun kv=>decide (kv.1=k))=(atKey xs k).isSome:=by
  rw[nr,(r.val k).isSome_eq,Option.isSome_map]
 unfold putK storedH;rw[e]
 by_cases q:(atKey xs k).isSome=true
 .rw[if_pos q,if_pos q];exact r.repl k ry
 .rw[if_neg q,if_neg q];exact Paired.snoc r ⟨rfl,hb,ry⟩
theorem KT.keeps{H H':Hp}{kvs:List (List Key×V)}{xs:List (List Key×Addr×Value)}(r:KT H kvs xs)(ht:∀b ys,H b=some (.tup ys)->H' b=some (.tup ys)):KT H' kvs xs:=Paired.mapP r fun _ _ z=>⟨z.1,ht _ _ z.2.1,z.2.2⟩
section
variable {P:Program}{w:World}{H:Hp}{h:Heap}{a:Addr}
theorem vM{u:HO}(ok:HOk P w H h)(e:Rd H a u):ObjOk P w H h a u:=e.ok ok
theorem dU{kvs:List (Key×V)}(ok:HOk P w H h)(e:Rd H a (.dK kvs)):kvs.length<=sizeLine/\(a == sysModules)=false/\∃vs,KV kvs vs/\h.DictOf (bq P w) a vs:=show ObjOk P w H h a (.dK kvs) from vM ok e
theorem pL{kvs:List (Key×V)}(ok:HOk P w H h)(e:H a=some (.dK kvs)):kvs.length<=sizeLine/\(a == sysModules)=false/\∃vs,KV kvs vs/\h.DictOf (bq P w) a vs:=dU ok (.inl e)
theorem jL{ks:List Key}(ok:HOk P w H h)(e:H a=some (.tup (ks.map kV))):(tupleKind (bq P w)).is h ks a:=by
 obtain⟨_,its,r,o,h1,h2,n,h3⟩:=(show ObjOk P w H h a (.tup (ks.map kV)) from ok a _ e);exact⟨o,its.toArray,n,h1,h2,h3,by simpa using rF r⟩
theorem j5{kvs:List (List Key×V)}(ok:HOk P w H h)(e:Rd H a (.dT kvs)):kvs.length<=sizeLine/\(a == sysModules)=false /\
  ∃xs,KT H kvs xs/\h.DictOfH (tupleKind (bq P w)) a xs:=by
 obtain⟨z,y,xs,r,o,es,ep,h1,h2,h3,h4,h5⟩:=(show ObjOk P w H h a (.dT kvs) from vM ok e);refine⟨z,y,xs,r,o,es,ep,h1,h2,h3,h4,fun x hx=>?_,h5⟩
 have all:∀{l:List (List Key×V)}{m:List (List Key×Addr×Value)},KT H l m->∀x∈m,(tupleKind (bq P w)).is h x.1 x.2.1:=by
  intro l m q
  induction q with
  |nil=>intro x hx;exact nomatch hx
  |@cons p q ps qs hq t ih=>
   intro x hx
   rcases List.mem_cons.mp hx with e|hx
   .subst e
    exact jL ok (by rw[←hq.1];exact hq.2.1)
   .exact ih x hx
 exact all r x hx
theorem EO{kvs:List (List Key×V)}(ok:HOk P w H h)(e:H a=some (.dT kvs)):kvs.length<=sizeLine/\(a == sysModules)=false /\
  ∃xs,KT H kvs xs/\h.DictOfH (tupleKind (bq P w)) a xs:=j5 ok (.inl e)
end
def DGet(H:Hp)(a:Addr)(y:V)(r:Option V):Prop:=(∃kvs k,Rd H a (.dK kvs)/\y=kV k/\r=bt kvs k)\/∃kvs k b,Rd H a (.dT kvs)/\y=.ref b/\H b=some (.tup (k.map kV))/\r=bt kvs k
def DPut(H:Hp)(a:Addr)(y v:V)(H':Hp):Prop:=
 (∃kvs k,H a=some (.dK kvs)/\y=kV k/\kvs.length<sizeLine/\H'=upd H a (.dK (putK kvs k v))) \/
 ∃kvs k b,H a=some (.dT kvs)/\y=.ref b/\H b=some (.tup (k.map kV))/\kvs.length<sizeLine/\H'=upd H a (.dT (putK kvs k v))
theorem DPut.k{H:Hp}{a:Addr}{kvs:List (Key×V)}{k:Key}{v:V}(e:H a=some (.dK kvs))(hl:kvs.length<sizeLine):DPut H a (kV k) v (upd H a (.dK (putK kvs k v))):=.inl ⟨kvs,k,e,rfl,hl,rfl⟩
section
variable {X:Cx}{pins:List (Addr×Obj)}{σ:St}{H:Hp}{s:Shared}{a:Addr}{y v:V}{u r:Value}{o:Option V}{A:Around}{E:Value->Shared->Prop}
theorem Inv.big(I:Inv X pins σ H s):sysModules<s.heap.objs.size:=by
 have h:mainGlobals<s.heap.objs.size:=(I.mod.glob.keeps I.bk).lt;exact Nat.lt_trans (by decide) h
theorem zB{Q:Value->Shared->Prop}(hu:A.units+1<cLine)(I:Inv X pins σ H s)(g:DGet H a y (some v))(ry:RelV y u)(h:∀w' s',Inv X pins σ H s'->RelV v w'->Q w' s') :
  wpAny (model X.prog X.w) A (getItem (.ref a) u) Q E s:=by
 rcases g with⟨kvs,k,e,ey,l⟩|⟨kvs,k,b,e,ey,eb,l⟩
 .subst ey
  obtain⟨z,hd,vs,rel,dd⟩:=dU I.hok e;obtain⟨w',hw,rw'⟩:=RelO.some_of (v:=v) (o:=valueAt vs k) (by rw[l];exact rel.val k);exact wpAny_getItem_of (h9 ry) dd.mapOf hw (h w' _ (I.tok _) rw')
 .subst ey
  cases (show u=Value.ref b from ry);obtain⟨z,hd,xs,rel,dd⟩:=j5 I.hok e;obtain⟨w',hw,rw'⟩:=RelO.some_of (v:=v) (o:=(atKey xs k).map (·.2)) (by rw[l];exact rel.val k);obtain⟨p,hp,hp2⟩:=Option.map_eq_some_iff.mp hw;refine wpAny_getItem_heap (tupleKind_room_in1 hu) (jL I.hok eb) dd hp ?_;rw[hp2];exact h w' _ (I.tok _) rw'
theorem FR{Q:Value->Shared->Prop}(hu:A.units+1<cLine)(I:Inv X pins σ H s)(g:DGet H a y o)(ry:RelV y u)(h:∀s',Inv X pins σ H s'->Q (.bool o.isSome) s') :
  wpAny (model X.prog X.w) A (compareOp .In u (.ref a)) Q E s:=by
 rcases g with⟨kvs,k,e,ey,l⟩|⟨kvs,k,b,e,ey,eb,l⟩
 .subst ey
  obtain⟨z,hd,vs,rel,dd⟩:=dU I.hok e;refine wpAny_in_of (h9 ry) hd dd.mapOf ?_;rw[←(rel.val k).isSome_eq,←l];exact h _ (I.tok _)
 .subst ey
  cases (show u=Value.ref b from ry);obtain⟨z,hd,xs,rel,dd⟩:=j5 I.hok e;refine wpAny_in_heap (tupleKind_room_in1 hu) (jL I.hok eb) hd dd ?_;have q:=(rel.val k).isSome_eq;rw[Option.isSome_map] at q;rw[←q,←l];exact h _ (I.tok _)
theorem B2{Q:Value->Shared->Prop}(hu:A.units+1<cLine)(I:Inv X pins σ H s)(g:DGet H a y o)(ry:RelV y u)(h:∀s',Inv X pins σ H s'->Q (.bool (!o.isSome)) s') :
  wpAny (model X.prog X.w) A (compareOp .NotIn u (.ref a)) Q E s:=by
 rcases g with⟨kvs,k,e,ey,l⟩|⟨kvs,k,b,e,ey,eb,l⟩
 .subst ey
  obtain⟨z,hd,vs,rel,dd⟩:=dU I.hok e;refine wpAny_notIn_of (h9 ry) hd dd.mapOf ?_;rw[←(rel.val k).isSome_eq,←l];exact h _ (I.tok _)
 .subst ey
  cases (show u=Value.ref b from ry);obtain⟨z,hd,xs,rel,dd⟩:=j5 I.hok e;refine wpAny_notIn_heap (tupleKind_room_in1 hu) (jL I.hok eb) hd dd ?_;have q:=(rel.val k).isSome_eq;rw[Option.isSome_map] at q;rw[←q,←l];exact h _ (I.tok _)
theorem oy{h':Heap}{t':Nat}{ob:HO}(I:Inv X pins σ H s)(mu:Mut (H a))(hs:Heap.SameBut a s.heap h')(he:∃q,h'.get? a=some q)(new:ObjOk X.prog X.w (upd H a ob) h' a ob) :
  Inv X pins σ (upd H a ob) { s with heap:=h',toks:=t' }:=I.write (x:=a) (e:=a) mu (.inl rfl) (fun b q hb z=>(hs.2 b hb).trans z) he new
theorem oV{P:Program}{w:World}{H':Hp}{h':Heap}{kvs:List (Key×V)}{vs:List (Key×Value)}(z:kvs.length<=sizeLine)(hd:(a == sysModules)=false)(rel:KV kvs vs)(dd:h'.DictOf (bq P w) a vs) :
  ObjOk P w H' h' a (.dK kvs):=⟨z,hd,vs,rel,dd⟩
theorem zA{H':Hp}{Q:Unit->Shared->Prop}(hu:A.units+1<cLine)(I:Inv X pins σ H s)(g:DPut H a y v H')(ry:RelV y u)(rv:RelV v r)(h:∀s',Inv X pins σ H' s'->Q () s') :
  wpAny (model X.prog X.w) A (setItem (.ref a) u r) Q E s:=by
 rcases g with⟨kvs,k,e,ey,l,eH⟩|⟨kvs,k,b,e,ey,eb,l,eH⟩
 .subst ey eH
  obtain⟨z,hd,vs,rel,dd⟩:=pL I.hok e
  have hz:vs.length<=sizeLine:=by rw[←rel.length];exact z
  have hl:(putK kvs k v).length<=sizeLine:=by have:=qj kvs k v;omega
  refine wpAny_setItem_pairs (hsz:=hz) (h9 ry) dd fun h' dd' hs=>h _ ?_
  have he:∃q,h'.get? a=some q:=let ⟨q,_,_,hq,_⟩:=dd';⟨q,hq⟩
  exact oy I (by rw[e];exact True.intro) hs he (oV hl hd (rel.put k rv) dd')
 .subst ey eH
  cases (show u=Value.ref b from ry);obtain⟨z,hd,xs,rel,dd⟩:=EO I.hok e
  have hz:xs.length<=sizeLine:=by rw[←Paired.length rel];exact z
  have hl:(putK kvs k v).length<=sizeLine:=by have:=qj kvs k v;omega
  refine wpAny_setItem_heap (hsz:=hz) (tupleKind_room_in1 hu) (jL I.hok eb) dd fun h' dd' hs=>h _ ?_;obtain⟨q,es,ep,hq,h2,h3,h4,_,h5⟩:=dd';refine oy I (by rw[e];exact True.intro) hs ⟨q,hq⟩ ⟨hl,hd,_,(rel.put k eb rv).keeps fun c ys ec=>?_,q,es,ep,hq,h2,h3,h4,h5⟩;rw[aP (Ew ec e (fun z=>nomatch z))];exact ec
end
section
variable {X:Cx}{pins:List (Addr×Obj)}{σ:St}{H:Hp}{s:Shared}{a:Addr}{kvs:List (Key×V)}{k:Key}{u:Value}{A:Around}{E:Value->Shared->Prop}
theorem EU{v:V}{more:List Value}{Q:Value->Shared->Prop}(I:Inv X pins σ H s)(e:H a=some (.dK kvs))(ry:RelV (kV k) u)(l:bt kvs k=some v)(hm:more=[]\/∃x,more=[x])
  (h:∀w' s',Inv X pins σ (upd H a (.dK (cL kvs k))) s'->RelV v w'->Q w' s'):wpAny (model X.prog X.w) A (call (.builtin "dict.pop") (.ref a::u::more)) Q E s:=by
 obtain⟨z,hd,vs,rel,dd⟩:=pL I.hok e;obtain⟨w',hw,rw'⟩:=RelO.some_of (v:=v) (o:=valueAt vs k) (by rw[←l];exact rel.val k)
 have hp:(keyPart u).isSome=true:=by
  cases k with
  |inl i=>obtain⟨t,q⟩:=(show ∃t,u=Value.int i t from ry);subst q;rfl
  |inr x=>obtain⟨t,q⟩:=(show ∃t,u=Value.str x t from ry);subst q;rfl
 have ha:argsOk "dict.pop" ⟨.ref a::u::more,[]⟩:=by
  rcases hm with q|⟨x,q⟩
  .subst q;exact PySem.F.args_dict_pop_2 _ _
  .subst q;exact PySem.F.args_dict_pop_3 _ _ _
 refine call_meetsIn PySem.F.slot_dict_pop dd.typeIs PySem.F.entry_dict_pop ha (meets_dict_pop_there (bq X.prog X.w) a (h9 ry) more hm hp)
  ⟨vs,w',dd,by rw[←rel.length];exact z,hw,fun h' dd' hs=>h w' _ ?_ rw'⟩
 have he:∃q,h'.get? a=some q:=let ⟨q,_,_,hq,_⟩:=dd';⟨q,hq⟩
 exact oy I (by rw[e];exact True.intro) hs he (oV (Nat.le_trans (AD kvs k) z) hd (rel.drop k) dd')
theorem DL{r:Value}{Q:Value->Shared->Prop}(I:Inv X pins σ H s)(e:H a=some (.dK kvs))(ry:RelV (kV k) u)(l:bt kvs k=none)(h:∀s',Inv X pins σ H s'->Q r s') :
  wpAny (model X.prog X.w) A (call (.builtin "dict.pop") [.ref a,u,r]) Q E s:=by
 obtain⟨z,hd,vs,rel,dd⟩:=pL I.hok e;have hn:valueAt vs k=none:=RelO.none_of (by rw[←l];exact rel.val k)
 have hp:(keyPart u).isSome=true:=by
  cases k with
  |inl i=>obtain⟨t,q⟩:=(show ∃t,u=Value.int i t from ry);subst q;rfl
  |inr x=>obtain⟨t,q⟩:=(show ∃t,u=Value.str x t from ry);subst q;rfl
 exact call_meetsIn PySem.F.slot_dict_pop dd.typeIs PySem.F.entry_dict_pop (PySem.F.args_dict_pop_3 _ _ _) (meets_dict_pop_default (bq X.prog X.w) a (h9 ry) hd hp r) ⟨vs,dd,hn,h _ (I.tok _)⟩
theorem EW{Q:Value->Shared->Prop}(I:Inv X pins σ H s)(e:Rd H a (.dK kvs))(h:∀t s',Inv X pins σ H s'->Q (.int kvs.length t) s'):wpAny (model X.prog X.w) A (call (.builtin "len") [.ref a]) Q E s:=by
 obtain⟨z,hd,vs,rel,dd⟩:=dU I.hok e;refine call_len_dict hd dd (by rw[←rel.length];rw[sizeLine_eq] at z;omega) ?_;rw[←rel.length];exact h _ _ (I.tok _)
end
theorem qo{X:Cx}{pins:List (Addr×Obj)}{σ:St}{H:Hp}{s:Shared}{a:Addr}{y:V}{o:Option V}(I:Inv X pins σ H s)(g:DGet H a y o):s.TypeIs (.ref a) "dict":=by
 rcases g with⟨kvs,k,e,_,_⟩|⟨kvs,k,b,e,_,_,_⟩
 .obtain⟨_,_,vs,_,dd⟩:=dU I.hok e
  exact dd.typeIs
 .obtain⟨_,_,xs,_,dd⟩:=j5 I.hok e
  exact dd.typeIs
def D9(td ty tv:TE):TS:=fun D σ H=>tv σ H fun v H1=>td σ H1 fun x H2=>ty σ H2 fun y H3=>∃a H4,x=.ref a/\DPut H3 a y v H4/\D.nx σ H4
section
variable {X:Cx}{o i e value:Expr}{pos pos' tpos:Pos}{td ty tv:TE}
theorem Bj(hu:X.A.units+1<cLine)(ho:PE X o td)(hi:PE X i ty)(hv:PE X value tv)(hs:swapsWith value (some (.Subscript o i pos')) pos.line X.env=pure false) :
  PS X (.Assign [.Subscript o i pos'] value pos) (D9 td ty tv):=by
 intro pins s σ H D I h;refine wpAny_Assign_Subscript (thn (hv pins s σ H _ I h) fun r s1 ⟨v,H1,I1,rv,q1⟩=>thn (ho pins s1 σ H1 _ I1 q1) fun u s2 ⟨x,H2,I2,rx,q2⟩=>thn (hi pins s2 σ H2 _ I2 q2) fun iv s3 ⟨y,H3,I3,ry,a,H4,ex,g,q3⟩=>?_) hs;subst ex;obtain rfl:u=Value.ref a:=rx;exact zA hu I3 g ry rv fun s4 I4=>⟨σ,H4,I4,q3⟩
end
theorem AE{P:Program}{w:World}{H:Hp}(h:Heap)(hb:sysModules<h.objs.size):ObjOk P w H (h.push { cls:=.type "dict",data:=.dict #[] }) h.objs.size (.dK []):=⟨Nat.zero_le _,beq_eq_false_iff_ne.mpr (Ne.symm (Nat.ne_of_lt hb)),[],.nil,Heap.DictOf.new h⟩
def Cv:TE:=fun _ H Q=>∀p,H p=none->Q (.ref p) (upd H p (.dK []))
section
variable {X:Cx}{pos:Pos}
theorem Ac:PE X (.Dict [] [] pos) Cv:=fun pins s σ H Q I h=>
 wpAny_Dict_empty ⟨.ref s.heap.objs.size,_,I.laid (a:=s.heap.objs.size) (o:=.dK []) (t':=s.toks) (fun _ _ q=>Heap.get?_push_of_some _ q) (Nat.le_refl _) (AE s.heap I.big),rfl,h _ (I.hok.fresh (Nat.le_refl _))⟩
end
def oH:List (TE×TE)->St->Hp->(List (V×V)->Hp->Prop)->Prop
 |[],_,H,Q=>Q [] H
 |(tk,tv)::r,σ,H,Q=>tk σ H fun x H1=>tv σ H1 fun y H2=>oH r σ H2 fun ps H3=>Q ((x,y)::ps) H3
abbrev VV:List (V×V)->List (Value×Value)->Prop:=Paired fun p q=>RelV p.1 q.1/\RelV p.2 q.2
def PPs(X:Cx)(pos:Pos)(keys:List (Option Expr))(values:List Expr)(trs:List (TE×TE)):Prop:=
 ∀(pins:List (Addr×Obj)) (s:Shared) (σ:St) (H:Hp) (Q:List (V×V)->Hp->Prop),Inv X pins σ H s->oH trs σ H Q ->
  wpAny (model X.prog X.w) X.A (evalPairs (pairTrees keys values X.env pos)) (fun vs s'=>∃ps H',Inv X pins σ H' s'/\VV ps vs/\Q ps H') X.xe s
structure M1(X:Cx)(o:Expr)(m:Str)(apos:Pos)(e:Expr)(cpos:Pos):Prop where
 base:attributeBase o m X.env (eval o X.env)=eval o X.env
 few:((backTo cpos (starEach [e] X.env)).all (fun x=>!x.1)&&(backToKw cpos (keywordEach [] X.env)).all (fun x=>x.1.isSome)
  && decide (([e]:List Expr).length+([]:List Keyword).length+(if ([]:List Keyword).isEmpty then 0 else 1)<30))=true
 line:(apos.endLine == cpos.line)=true
 trees:backTo cpos (starEach [e] X.env)=[(false,eval e X.env)]
structure M2(X:Cx)(o:Expr)(m:Str)(apos:Pos)(e f:Expr)(cpos:Pos):Prop where
 base:attributeBase o m X.env (eval o X.env)=eval o X.env
 few:((backTo cpos (starEach [e,f] X.env)).all (fun x=>!x.1)&&(backToKw cpos (keywordEach [] X.env)).all (fun x=>x.1.isSome)
  && decide (([e,f]:List Expr).length+([]:List Keyword).length+(if ([]:List Keyword).isEmpty then 0 else 1)<30))=true
 line:(apos.endLine == cpos.line)=true
 trees:backTo cpos (starEach [e,f] X.env)=[(false,eval e X.env),(false,eval f X.env)]
section
variable {X:Cx}{pins:List (Addr×Obj)}{σ:St}{H:Hp}{s:Shared}{a:Addr}{y d:V}{u r:Value}{o:Option V}{A:Around}{E:Value->Shared->Prop}
end
section
variable {X:Cx}{o e f:Expr}{apos cpos:Pos}{td ty tx:TE}
end
section
variable {X:Cx}{pins:List (Addr×Obj)}{σ:St}{H:Hp}{s:Shared}{a:Addr}{kvs:List (Key×V)}{A:Around}{E:Value->Shared->Prop}
theorem AK{Q:Value->Shared->Prop}(I:Inv X pins σ H s)(e:Rd H a (.dK kvs))(h:∀p s',H p=none->Inv X pins σ (upd H p (.dK kvs)) s'->Q (.ref p) s'):wpAny (model X.prog X.w) A (call (.type "dict") [.ref a]) Q E s:=by
 obtain⟨z,hd,vs,rel,dd⟩:=dU I.hok e;refine kt_call_dict hd dd (by rw[←rel.length];exact z) fun h' dd' hs=>?_;refine h _ _ (I.hok.fresh (Nat.le_refl _)) (I.laid (a:=s.heap.objs.size) (o:=.dK kvs) (t':=s.toks) (fun b q hq=>?_) (Nat.le_refl _) (oV z (beq_eq_false_iff_ne.mpr (Ne.symm (Nat.ne_of_lt I.big))) rel dd'));exact(hs.2 b (Nat.ne_of_lt (Heap.lt_size hq))).trans (Heap.get?_push_of_some _ hq)
end
section
variable {X:Cx}{pins:List (Addr×Obj)}{σ:St}{H:Hp}{s:Shared}{a:Addr}{y:V}{u:Value}{A:Around}{E:Value->Shared->Prop}
end
end L2
namespace Att
open PySem PySem.W PySem.Calls PyProof.Rows
theorem xk{P:Params}{h:Heap}:∀(ns:List Int) (vs:List Value),WellAll P h vs (ns.map WData.int)->IntsAre vs ns:=by
 intro ns
 induction ns with
 |nil=>
  intro vs w;rw[List.map_nil] at w;cases w;exact .nil
 |cons n ns ih=>
  intro vs w;rw[List.map_cons] at w
  cases w with
  |cons a b=>
   cases a;exact .cons _ _ (ih _ b)
theorem yV{l:OpenLaw}{n:Nat}(hn:l.most=some n){P:Params}{h:Heap}{args:List WData}{vals:List Value}
  (hpre:l.row.toRowW.claim.pre args=true) (hwl:WellAll P h vals args) :
  ∃a vs ns,vals=[Value.ref a]/\args=[WData.list (ns.map WData.int)]/\h.get? a=some { cls:=.type "list",data:=.seq vs.toArray }/\IntsAre vs ns/\ns.length<=n:=by
 have hsh:WShape.hasAll [] args [.list .int]=true:=(pre_splitW hpre).1;have hc:l.pre.holds [] { args:=args } = true:=(pre_splitW hpre).2;obtain⟨d,r,rfl,h1,h2⟩:=hasAllW_cons hsh;obtain rfl:=hasAllW_nil h2;obtain⟨xs,rfl,h3⟩:=hasW_list h1;obtain⟨ns,rfl⟩:=items_int h3
 have hlen:ns.length<=n:=by
  unfold OpenLaw.pre at hc
  have h4:(WTm.not (.lt (.lit (.int (n:Int))) (.len (.arg 0)))).holds [] { args:=[.list (ns.map .int)] } = true:=by
   have h4:=(holds_andW hc).1;rw[hn] at h4;exact h4
  have h5:=condW_of h4 (w_not (w_lt w_lit (w_len_list (w_arg rfl))));rw[List.length_map] at h5;refine Nat.le_of_not_lt fun q=>?_
  have q':(n:Int)<((ns.length:Nat):Int):=by omega
  first
   |(rw[decide_eq_true q'] at h5;exact absurd h5 (by decide))
   |(simp at h5;omega)
 cases hwl with
 |cons w1 w2=>
  cases w2
  cases w1 with
  |list ho hall=>exact⟨_,_,ns,rfl,rfl,ho,xk ns _ hall,hlen⟩
theorem yX(l:OpenLaw)(args:List WData):l.row.toRowW.claim.post args (.bool true) args=true:=
 postW_of (r:=l.row.toRowW) (X:=(true == true))
  (show WShape.has [] (.bool true) .bool=true by first|rfl|decide|simp[WShape.has,WShape.arms,WShape.armsAll])
  (show (WTm.eq .res (.lit (.bool true))).value [] { args:=args,res:=some (.bool true),after:=args } = some (.bool (true == true)) from w_eq_bool (w_res rfl) w_lit) rfl
theorem yd{l:OpenLaw}{n:Nat}{q:Program}{loose:List Str}{XP:(Str->Option Value)->Heap->Prop}{YP:World->Heap->Prop}{d:DefRec}
  (hn:l.most=some n) (hdf:d.params.defaults=[])
  (call:∀(w:World) (s₀ s₁:Shared) (mg mb:Str->Option Value) (fa:Addr) (o:Obj) (pm cd doc:Value) (a:Addr) (vs:List Value) (ns:List Int),
   Ground q loose [] XP w s₀ mg mb s₁.heap->YP w s₁.heap ->
   s₁.heap.get? fa=some o->o.data=.func (docDef d.name d.params d.body d.scope pm cd doc)->s₁.heap.CodeRec cd d.name->mg d.name=some (.ref fa) ->
   s₁.heap.get? a=some { cls:=.type "list",data:=.seq vs.toArray }->IntsAre vs ns->ns.length<=n->s₁.gens = #[] ->
   codeAny (model l.prog w) callerA (.call (.ref fa) ⟨[.ref a],[]⟩) (fun r s'=>r=.ok (.ret (.bool true))/\OldK s₁.heap s'.heap/\s'.os=s₁.os/\AllBare s'.gens) s₁) :
  WalkO q loose XP YP l.row.toRowW d [] (fun f vs=>PySem.call f vs):=by
 intro w s₀ s₁ mg mb G Y fa o pm cd doc dV kV ho hd hcd hD hmg hg args vals as hpre hlay hrd hwl hlo;obtain rfl:dV=.none:=Dflts.none hD hdf;obtain rfl:kV=.none:=Dflts.noKw hD;obtain⟨a,vs,ns,rfl,rfl,hobj,hints,hlen⟩:=yV hn hpre hwl;refine enter_call (codeAny_mono (call w s₀ s₁ mg mb fa o pm cd doc a vs ns G Y ho (fd_plain hd) hcd hmg hobj hints hlen hg) fun r s' hq=>?_);obtain⟨rfl,h2,h3,h4⟩:=hq;exact⟨.inl ⟨.bool true,.bool true,[],rfl,fun _=>rfl,.bool true,yX l _,fun _=>⟨List.Pairwise.nil,fun _ hm=>(nomatch hm)⟩⟩,h2,h3,h4⟩
section
variable {prog:Program}{w:World}{A:Around}{E:Value->Shared->Prop}{s:Shared}{K:Frag}
end
end Att
namespace L2
open PySem PySem.Spec PyProof.Rows
theorem qU:∀{vs:List Value}{ns:List Int},IntsAre vs ns->Vals (ns.map V.int) vs
 |_,_,.nil=>.nil
 |_,_,.cons n t h=>.cons ⟨t,rfl⟩ (qU h)
def p7(H:Hp):Prop:=∀b,H b=none\/∃o xs,H b=some (.frz o (.lst xs))
theorem Aq{P:Program}{w:World}{K:Frag}{mg mb:Str->Option Value}{CX:CXT}{k:Nat}{fa a:Addr}{fd:FuncData}{x:Str}{sp:Sp}{s₁:Shared}{vs:List Value}{ns:List Int}
  (KX:K.In s₁.heap) (hns:s₁.heap.Ns mainGlobals mg) (hb:s₁.heap.Ns builtinsNs mb) (hbb:∀x:Str,x≠"__name__"->mb x=bootBuiltins x) (hlim:s₁.heap.NoLimit) (hg:s₁.gens = #[])
  (ha:s₁.heap.get? a=some { cls:=.type "list",data:=.seq vs.toArray }) (hi:IntsAre vs ns) (hl:ns.length<=sizeLine) (hr:Room k callerA)
  (F:∀base:Heap,K.In base->base.Ns mainGlobals mg->FnOk P w K mg base CX k fa fd [x] sp) (hbind:∀(s:Shared) (u:Value),BindsTo s fd ⟨[u],[]⟩ [(x,u)])
  (hsp:∀H:Hp,p7 H->SqL K H a (ns.map V.int)->sp [.ref a] H (fun v _=>v=.bl true) fun _ _ _=>False)
  (hCX:∀H e s',CX [] H s₁ (fun _ _ _=>False) e s'->False) :
  codeAny (model P w) callerA (.call (.ref fa) ⟨[.ref a],[]⟩) (fun r s'=>r=.ok (.ret (.bool true))/\OldK s₁.heap s'.heap/\s'.os=s₁.os/\AllBare s'.gens) s₁:=by
 have rv:=qU hi;have lenV:=hi.length
 have core:∀H:Hp,p7 H->SqL K H a (ns.map V.int)->HOk P w H s₁.heap->(∀b,H b≠none->b=a)->(H a≠none->K.lookup a=none) ->
   codeAny (model P w) callerA (.call (.ref fa) ⟨[.ref a],[]⟩) (fun r s'=>r=.ok (.ret (.bool true))/\OldK s₁.heap s'.heap/\s'.os=s₁.os/\AllBare s'.gens) s₁:=by
  intro H hO hS hok hA hK;have base_of:∀{b:Addr}{o:Obj},s₁.heap.get? b=some o->H b=none->(fK s₁.heap H).get? b=some o:=fun e n=>Au e n
  have noA:∀{b:Addr}{o:Obj}{es:Array DictEntry}{ep:Nat},s₁.heap.get? b=some o->o.data=.dict es ep->H b=none:=fun {b o es ep} e d=>by
   cases q:H b with
   |none=>rfl
   |some u=>
    have e':b=a:=hA b (by rw[q];simp);subst e';rw[ha] at e;cases e;have d':Data.seq vs.toArray _=Data.dict es ep:=d;cases d'
  have nsK:∀{b:Addr}{m:Str->Option Value},s₁.heap.Ns b m->(fK s₁.heap H).Ns b m:=fun {b m} ⟨o,es,ep,e,d,r⟩=>⟨o,es,ep,base_of e (noA e d),d,r⟩
  have hKb:K.In (fK s₁.heap H):=fun b o e=>base_of (KX b o e) (by
   cases q:H b with
   |none=>rfl
   |some u=>
    have e':b=a:=hA b (by rw[q];simp);subst e'
    rw[hK (by rw[q];simp)] at e;cases e)
  have hM:Mod K mg (fK s₁.heap H):=⟨hKb,nsK hns,⟨mb,nsK hb,hbb⟩,let ⟨mc,h1,h2⟩:=hlim;⟨mc,nsK h1,h2⟩⟩;have e0:Env0 P w K mg (fK s₁.heap H) callerA [] s₁ H:=⟨rfl,hM,fun b o e=>Bw e,Nat.le_of_eq (zo _ _),trivial,fun b hb=>absurd (show b∈([]:List Addr) from hb) (by simp),hok,.of_eq hg⟩;refine codeAny_mono ((F _ hKb (nsK hns)).run callerA [] s₁ H ⟨[.ref a],[]⟩ [.ref a] [.ref a] _ _ hr e0 (hbind s₁ (.ref a)) (.cons rfl .nil) (hsp H hO hS)) fun r s' h=>?_
  cases r with
  |error e=>exact(hCX H e s' h).elim
  |ok fl=>
   cases fl with
   |next=>exact False.elim h
   |brk=>exact False.elim h
   |cont=>exact False.elim h
   |ret u=>
    obtain⟨v,H',os,bare,un,hok',r',q⟩:=h;have q':v=.bl true:=q;subst q';obtain rfl:u=Value.bool true:=r';refine⟨rfl,OldK.of_keep fun b o e=>?_,os,bare⟩
    cases q:H b with
    |none=>exact un.keep b o e q (by intro z;exact absurd (show b∈([]:List Addr) from z) (by simp)) (by simp)
    |some u=>
     rcases hO b with z|⟨ob,xs,z⟩
     .rw[q] at z;cases z
     .have z2:=un.frzs b ob _ z
      obtain⟨e1,_⟩:=hok b _ z;obtain⟨e2,_⟩:=hok' b _ z2;rw[e] at e1;cases e1;exact e2
 cases hk:K.lookup a with
 |some o=>
  have e:=KX a o hk;rw[ha] at e;cases e;refine core (fun _=>none) (fun _=>.inl rfl) (.inr ⟨_,vs.toArray,_,hk,rfl,rfl,rfl,by rw[List.size_toArray,lenV];exact hl,by simpa using rv⟩) (fun b u z=>by have z':(none:Option HO)=some u:=z;cases z') (fun b z=>absurd rfl z) fun z=>absurd rfl z
 |none=>
  refine core (fun b=>if b=a then some (.frz { cls:=.type "list",data:=.seq vs.toArray } (.lst (ns.map V.int))) else none) (fun b=>?_) (.inl (.inr ⟨{ cls:=.type "list",data:=.seq vs.toArray },if_pos rfl⟩)) (fun b u z=>?_) (fun b z=>?_) fun _=>hk
  .by_cases hb:b=a
   .exact .inr ⟨_,_,if_pos hb⟩
   .exact .inl (if_neg hb)
  .by_cases hb:b=a
   .have z':=(if_pos hb).symm.trans z
    cases z';subst hb;exact⟨ha,by rw[List.length_map];exact hl,vs,_,rv,ha⟩
   .have z':=(if_neg hb).symm.trans z
    cases z'
  .by_cases hb:b=a
   .exact hb
   .exact absurd (if_neg hb) z
theorem AY{l:PySem.W.OpenLaw}{n k:Nat}{q:Program}{loose:List Str}{XP:(Str->Option Value)->Heap->Prop}{YP:World->Heap->Prop}{d:DefRec}{K:Params->Frag}{CX:World->CXT}{sp:World->Sp}{x:Str}
  (hn:l.most=some n) (hn2:n<=sizeLine) (hdf:d.params.defaults=[]) (hr:Room k callerA)
  (hY:∀(w:World) (h:Heap),YP w h->(K w.params).In h)
  (F:∀(w:World) (mg:Str->Option Value) (fa:Addr) (h:Heap),(K w.params).In h->h.Ns mainGlobals mg->mg d.name=some (.ref fa) ->
   ∃fd:FuncData,(∀(s:Shared) (u:Value),BindsTo s fd ⟨[u],[]⟩ [(x,u)]) /\
    ∀base:Heap,(K w.params).In base->base.Ns mainGlobals mg->FnOk l.prog w (K w.params) mg base (CX w) k fa fd [x] (sp w))
  (hsp:∀(w:World) (H:Hp) (a:Addr) (ns:List Int),ns.length<=n->p7 H->SqL (K w.params) H a (ns.map V.int)->sp w [.ref a] H (fun v _=>v=.bl true) fun _ _ _=>False)
  (hCX:∀(w:World) (H:Hp) (s:Shared) (e:Value) (s':Shared),CX w [] H s (fun _ _ _=>False) e s'->False) :
  PySem.W.WalkO q loose XP YP l.row.toRowW d [] (fun f vs=>PySem.call f vs):=by
 refine Att.yd hn hdf fun w s₀ s₁ mg mb fa o pm cd doc a vs ns G Y ho hd hcd hmg hobj hints hlen hg=>?_;have KX:=hY w _ Y;obtain⟨fd,hb,hF⟩:=F w mg fa _ KX G.T.g hmg;exact Aq KX G.T.g G.T.b G.T.builtins G.T.nolimit hg hobj hints (Nat.le_trans hlen hn2) hr hF hb (fun H hO hS=>hsp w H a ns hlen hO hS) fun H e s'=>hCX w H s₁ e s'
def dA(s:Stmt):Arguments:=match s with
 |.FunctionDef _ a _ _ _ _ _ _ _ _=>a
 |_=>{ posonlyargs:=[],args:=[],vararg:=none,kwonlyargs:=[],kw_defaults:=[],kwarg:=none,defaults:=[] }
def cb(s:Stmt):List Stmt:=match s with
 |.FunctionDef _ _ b _ _ _ _ _ _ _=>b
 |_=>[]
def a9(s:Stmt):Scope:=match s with
 |.FunctionDef _ _ _ _ _ _ sc _ _ _=>sc
 |_=>{ kind:=.function,names:=[],isGenerator:=false,isCoroutine:=false }
abbrev CX0:CXT:=fun _ _ _ _ _ _=>False
abbrev E0:XK:=fun _ _ _=>False
theorem Ek{X:Cx}:oZ CX0 X E0:=fun _ _ _ _ _ _ _ h=>h.elim
structure Fun(K:Frag)(x qual:Str)(st:Stmt)(f:Addr)(fd:FuncData):Prop where
 ex:∃(oc:Value) (od:Option Addr) (kV doc pm:Value) (an:Option Addr) (cdv ct:Value) (osl:Array (Option Value)),
  fd=PySem.W.fnOf x qual (dA st) (cb st) (a9 st) .none kV doc pm an cdv ct/\K.lookup f=some ⟨oc,od,.func fd,osl⟩/\PySem.W.codeIn K cdv qual=true
 kp:PySem.W.keepIn K (.ref f)=true
section
variable {P:Program}{w:World}{K:Frag}{mg:Str->Option Value}{base:Heap}
theorem Fun.ok{x qual:Str}{st:Stmt}{f:Addr}{fd:FuncData}{N ps:List Str}{k:Nat}{sp:Sp}(F:Fun K x qual st f fd)(S:FnScope N ps (a9 st))(len:∀vs H Q E,sp vs H Q E->vs.length=ps.length)
  (hbody:∀(cdv:Value) (A:Around) (outer:List Env) (s:Shared) (H:Hp) (vs:List V) (Q:VK) (E:XK),Room k (A.deeper (envOfC qual (a9 st) s.heap.objs.size f cdv))->sp vs H Q E ->
   ∃t,PSs (eF CX0 P w K mg base N qual (a9 st) f cdv A outer s H E).nox (cb st) t/\t { nx:=fun _ H'=>Q .non H',rt:=Q } (start N vs) H):FnOk P w K mg base CX0 (k+1) f fd ps sp:=by
 obtain⟨oc,od,kV,doc,pm,an,cdv,ct,osl,rfl,lk,hcd⟩:=F.ex;refine EL lk hcd S len fun A outer s H vs Q E hr hsp=>?_;obtain⟨t,h,q⟩:=hbody cdv A outer s H vs Q E hr hsp;exact⟨t,h.nox,q⟩
theorem Fun.binds{x qual:Str}{st:Stmt}{f:Addr}{fd:FuncData}{ps:List Str}(F:Fun K x qual st f fd)
  (h:∀(kV doc pm:Value) (an:Option Addr) (cdv ct:Value) (us:List Value),us.length=ps.length->bindArgs (PySem.W.fnOf x qual (dA st) (cb st) (a9 st) .none kV doc pm an cdv ct) ⟨us,[]⟩=pure (ps.zip us)):Binds K fd ps []:=by
 obtain⟨oc,od,kV,doc,pm,an,cdv,ct,osl,rfl,lk,hcd⟩:=F.ex;exact .all (h kV doc pm an cdv ct)
theorem vb{x qual:Str}{st:Stmt}{f:Addr}{oc:Value}{od an:Option Addr}{osl:Array (Option Value)}{kV doc pm cdv ct:Value}(l:K.lookup f=some ⟨oc,od,.func (PySem.W.fnOf x qual (dA st) (cb st) (a9 st) .none kV doc pm an cdv ct),osl⟩)
  (c:PySem.W.codeIn K cdv qual=true) (k:PySem.W.keepIn K (.ref f)=true):Fun K x qual st f (PySem.W.fnOf x qual (dA st) (cb st) (a9 st) .none kV doc pm an cdv ct):=⟨⟨oc,od,kV,doc,pm,an,cdv,ct,osl,rfl,l,c⟩,k⟩
end
section
variable {X:Cx}
theorem pv(i:Nat){x:Str}{pos:Pos}(hN:X.N[i]? = some x:=by rfl)(hv:Vis X.env.scope x:=by first|exact Or.inl rfl|exact Or.inr (Or.inl rfl)|exact Or.inr (Or.inr rfl))(hd:(x == ("__debug__" : Str))=false:=by decide)
  (hcd:(x == ("__classdict__" : Str))=false:=by decide):PE X (.Name x pos) (wG i):=CT hN hv hd hcd
end
theorem gB{A B:Prop}(h:B):if false=true then A else B:=by
 rw[if_neg Bool.false_ne_true];exact h
theorem gA{A B:Prop}(h:A):if true=true then A else B:=by
 rw[if_pos rfl];exact h
end L2
set_option maxHeartbeats 4000000
namespace K1
open PySem
def has(signs x:Str):Bool:=x.cps.toList.all fun c=>decide (c∈signs.cps.toList)
def LET:Str:="abcdefghijklmnopqrstuvwxyz"
def TXT:Str:="abcdefghijklmnopqrstuvwxyz0123456789-"
def single:PyData->Bool
 |.int i=>decide ((if i<0 then -i else i)<=10^18)
 |.str x=>decide (x.length<=20)&&has TXT x
 |_=>false
def aH:Nat->PyData->Bool
 |0,.tuple _=>false
 |n+1,.tuple ds=>decide (ds.length<=8)&&ds.all (aH n)
 |_,d=>single d
def aI:Nat->PyData->Int
 |n+1,.tuple ds=>1+(ds.map (aI n)).sum
 |_,_=>1
def lsz:Nat->PyData->Int
 |n+1,.tuple ds=>if ds.length>8 then 100 else 1+(ds.map (lsz n)).sum
 |_,d=>if single d=true then 1 else 100
def isName:PyData->Bool
 |.str x=>decide (1<=x.length)&&decide (x.length<=8)&&has LET x
 |_=>false
def aR(d:PyData):Bool:=aH 4 d&&decide (aI 4 d<=40)
theorem uB{α:Type}(f:α->Int)(h:∀a,1<=f a):∀l:List α,(l.length:Int)<=(l.map f).sum
 |[]=>by simp
 |a::r=>by
  have:=uB f h r;have:=h a;simp only[List.map_cons,List.sum_cons,List.length_cons];omega
def tdp:Nat->PyData->Bool
 |0,.tuple _=>false
 |n+1,.tuple ds=>ds.all (tdp n)
 |_,_=>true
theorem rR:∀(n:Nat) (d:PyData),aH n d=true->tdp n d=true
 |0,d,h=>by cases d <;> first|rfl|cases h
 |n+1,d,h=>by
  cases d with
  |tuple ds=>
   have e:aH (n+1) (.tuple ds)=(decide (ds.length<=8)&&ds.all (aH n)):=rfl;rw[e,Bool.and_eq_true] at h;show ds.all (tdp n)=true;exact List.all_eq_true.mpr fun x hx=>rR n x (List.all_eq_true.mp h.2 x hx)
  |_=>rfl
def jz(best:Int):List Int->Int
 |[]=>best
 |n::r=>jz (if n>best then n else best) r
def ij(d:Int):List Int->Int
 |[]=>d
 |n::r=>jz n r
def bf:Nat->PyData->Int
 |n+1,.tuple ds=>1+ij 0 (ds.map (bf n))
 |_,_=>0
def vW(acc:Int):List Int->Int
 |[]=>acc
 |n::r=>vW (if 1+n>acc then 1+n else acc) r
def ldp:Nat->PyData->Int
 |n+1,.tuple ds=>vW 1 (ds.map (ldp n))
 |_,_=>0
end K1
namespace L2
open PySem
def b8(env:Env):List (Str×NameKind)->List (Str×Addr)->List (Str×Addr)
 |[],acc=>acc
 |(n,k)::r,acc=>b8 env r (if (k == .free)=true then (n,(env.cells.lookup n).getD 0)::acc else acc)
theorem m7{env:Env}:∀(l:List (Str×NameKind)) (acc:List (Str×Addr)),(∀x∈l,x.2=.free->∃c,env.cells.lookup x.1=some c) ->
  (forIn l acc (fun x r=>match x with
   | (name,kind)=>if (kind == NameKind.free)=true then (do
     let c ←cellOf env name
     pure (ForInStep.yield ((name,c)::r))) else pure (ForInStep.yield r)):Sem (List (Str×Addr)))=pure (b8 env l acc)
 |[],acc,_=>rfl
 |(n,k)::r,acc,h=>by
  rw[List.forIn_cons];have hr:∀x∈r,x.2=.free->∃c,env.cells.lookup x.1=some c:=fun x hx=>h x (List.mem_cons_of_mem _ hx)
  cases hk:(k == NameKind.free) with
  |false=>
   have ih:=m7 r acc hr
   have e:b8 env ((n,k)::r) acc=b8 env r acc:=by simp[b8,hk]
   rw[e];dsimp only;rw[if_neg (by rw[hk];exact Bool.false_ne_true)];exact ih
  |true=>
   obtain⟨c,hc⟩:=h (n,k) List.mem_cons_self (by simpa using hk);have ih:=m7 r ((n,c)::acc) hr;have hc':env.cells.lookup n=some c:=hc
   have e:b8 env ((n,k)::r) acc=b8 env r ((n,c)::acc):=by simp[b8,hk,hc']
   have e2:cellOf env n=pure c:=by unfold cellOf;rw[hc']
   rw[e];dsimp only;rw[if_pos hk,e2];exact ih
theorem qK{scope:Scope}{env:Env}(h:∀x∈scope.names,x.2=.free->∃c,env.cells.lookup x.1=some c):closureFor scope env=pure (b8 env scope.names []):=by
 have q:=m7 (env:=env) scope.names [] h;unfold closureFor;exact congrArg (fun t=>t >>= fun z=>pure z) q
theorem qq{env:Env}:∀(l:List (Str×NameKind)) (acc:List (Str×Addr)) (x:Str) (c:Addr),(∀y d,acc.lookup y=some d->env.cells.lookup y=some d) ->
  (∀y∈l,y.2=.free->∃c,env.cells.lookup y.1=some c)->(b8 env l acc).lookup x=some c->env.cells.lookup x=some c
 |[],acc,x,c,ha,_,e=>ha x c e
 |(n,k)::r,acc,x,c,ha,h,e=>by
  have hr:∀x∈r,x.2=.free->∃c,env.cells.lookup x.1=some c:=fun x hx=>h x (List.mem_cons_of_mem _ hx);refine qq r _ x c ?_ hr e;intro y d q
  cases hk:(k == NameKind.free) with
  |false=>rw[hk,if_neg Bool.false_ne_true] at q;exact ha y d q
  |true=>
   rw[hk,if_pos rfl] at q;obtain⟨c',hc⟩:=h (n,k) List.mem_cons_self (by simpa using hk);have hc':env.cells.lookup n=some c':=hc;rw[List.lookup_cons] at q
   by_cases z:y=n
   .subst z
    simp[hc'] at q;rw[hc',q]
   .have z':(y == n)=false:=beq_eq_false_iff_ne.mpr z
    rw[z'] at q;exact ha y d q
theorem qM{env:Env}:∀(l:List (Str×NameKind)) (acc:List (Str×Addr)) (x:Str),(acc.lookup x).isSome=true->((b8 env l acc).lookup x).isSome=true
 |[],_,_,h=>h
 |(n,k)::r,acc,x,h=>by
  refine qM r _ x ?_
  cases hk:(k == NameKind.free) with
  |false=>rw[if_neg Bool.false_ne_true];exact h
  |true=>
   rw[if_pos rfl,List.lookup_cons]
   cases z:(x == n) with
   |true=>rfl
   |false=>exact h
theorem qL{env:Env}:∀(l:List (Str×NameKind)) (acc:List (Str×Addr)) (x:Str),(x,NameKind.free)∈l->((b8 env l acc).lookup x).isSome=true
 |[],_,_,h=>absurd h (by simp)
 |(n,k)::r,acc,x,h=>by
  rcases List.mem_cons.mp h with e|e
  .cases e
   refine qM r _ _ ?_;rw[if_pos (by decide),List.lookup_cons];simp
  .exact qL r _ x e
open PySem PySem.Spec PyProof.Rows
structure CS(osc:Scope)(N:List Str)(x:Str)(scope:Scope)(N':List Str):Prop where
 kind:scope.kind=.function
 nocell:∀y∈scope.names,y.2≠.cell
 names:∀y∈scope.names,y.2=.local->scope.names.lookup y.1=some .local
 hx:scope.names.lookup x=some .local
 only:∀y∈scope.names,y.2=.local->y.1=x\/y.1=".0"
 free:∀y∈scope.names,y.2=.free->osc.names.lookup y.1=some .cell\/osc.names.lookup y.1=some .free
 nd:(x::N').Nodup
 n0:(".0" : Str)∉N'
 len:N'.length=N.length
 rel:∀p∈N'.zip N,p.1=p.2\/∀q∈scope.names,q.1≠p.1
theorem CS.at{osc:Scope}{N N':List Str}{x:Str}{scope:Scope}(S:CS osc N x scope N'){j:Nat}{y:Str}(h:N'[j]? = some y):N[j]? = some y\/∀q∈scope.names,q.1≠y:=by
 have hl:j<N'.length:=(List.getElem?_eq_some_iff.mp h).1
 have hl2:j<N.length:=by rw[←S.len];exact hl
 have m:(N'.zip N)[j]? = some (y,N[j]):=by
  rw[List.getElem?_zip_eq_some];exact⟨h,List.getElem?_eq_getElem hl2⟩
 rcases S.rel _ (List.mem_of_getElem? m) with z|z
 .left
  rw[List.getElem?_eq_getElem hl2];exact congrArg some z.symm
 .exact .inr z
theorem sF{c:Str×NameKind->Bool}:∀{names:List (Str×NameKind)}{y:Str}{k':NameKind},
  (names.map fun p=>if (p.2 == NameKind.free&&c p)=true then (p.1,NameKind.cell) else (p.1,p.2)).lookup y=some k'->∃k,(y,k)∈names/\(k'=k\/(k=.free/\k'=.cell))
 |[],_,_,h=>by simp at h
 |(n,k)::r,y,k',h=>by
  rw[List.map_cons] at h
  by_cases hy:y=n
  .subst hy
   cases hc:(k == NameKind.free&&c (y,k)) with
   |false=>
    simp only[hc,Bool.false_eq_true,if_false,List.lookup_cons,beq_self_eq_true] at h;cases h;exact⟨k,List.mem_cons_self,.inl rfl⟩
   |true=>
    simp only[hc,if_true,List.lookup_cons,beq_self_eq_true] at h;cases h
    have e:k=.free:=by
     have:=(Bool.and_eq_true _ _).mp hc;simpa using this.1
    exact⟨k,List.mem_cons_self,.inr ⟨e,rfl⟩⟩
  .have hb:(y == n)=false:=beq_eq_false_iff_ne.mpr hy
   have h':(r.map fun p=>if (p.2 == NameKind.free&&c p)=true then (p.1,NameKind.cell) else (p.1,p.2)).lookup y=some k':=by
    cases hc:(k == NameKind.free&&c (n,k)) with
    |false=>simp only[hc,Bool.false_eq_true,if_false,List.lookup_cons,hb] at h;exact h
    |true=>simp only[hc,if_true,List.lookup_cons,hb] at h;exact h
   obtain⟨k2,m,e⟩:=sF h';exact⟨k2,List.mem_cons_of_mem _ m,e⟩
theorem mC{scope:Scope}{env:Env}{y:Str}{k':NameKind}(h:(relabel scope env).names.lookup y=some k'):∃k,(y,k)∈scope.names/\(k'=k\/(k=.free/\k'=.cell)):=by
 refine sF (c:=fun p=>env.scope.kind == .function&&env.kindOf p.1 == some .cell) ?_;rw[←h];unfold relabel
 congr 1
 refine List.map_congr_left fun p _=>?_;obtain⟨n,k⟩:=p;simp only[Bool.and_assoc]
abbrev bS(X:Cx)(x:Str)(scope:Scope)(C:Addr)(s0:Shared)(H0:Hp)(ex:List Addr)(N':List Str):Cx where
 prog:=X.prog
 w:=X.w
 K:=X.K
 mg:=X.mg
 base:=X.base
 A:=X.A
 N:=x::N'
 s₀:=s0
 H₀:=H0
 env:=compEnvC scope (b8 X.env scope.names []) C X.env
 outer:=X.stack
 stack:=X.stack
 ex:=ex
 fn:=fun _=>false
 calm:=X.calm
 pn:=[]
 xe:=fun _ _=>False
section
variable {X:Cx}{pins:List (Addr×Obj)}{σ:St}{H:Hp}{s:Shared}{x:Str}{scope:Scope}{N':List Str}
theorem nE(I:Inv X pins σ H s)(S:CS X.env.scope X.N x scope N'):∀y∈scope.names,y.2=.free->∃c,X.env.cells.lookup y.1=some c:=fun y hy e=>
 I.ok.has y.1 (S.free y hy e)
theorem rP(I:Inv X pins σ H s)(S:CS X.env.scope X.N x scope N'){y:Str}{c:Addr}(e:(b8 X.env scope.names []).lookup y=some c):X.env.cells.lookup y=some c:=qq scope.names [] y c (fun _ _ z=>by simp at z) (nE I S) e
theorem sY(I:Inv X pins σ H s)(S:CS X.env.scope X.N x scope N'){y:Str}(e:(y,NameKind.free)∈scope.names):∃c,(b8 X.env scope.names []).lookup y=some c/\X.env.cells.lookup y=some c:=by
 obtain⟨c,hc⟩:=Option.isSome_iff_exists.mp (qL (env:=X.env) scope.names [] y e);exact⟨c,hc,rP I S hc⟩
theorem qJ{fp:List Addr}{h':Heap}{m:Str->Option Value}{tk:Nat}{oD oC:Obj}(I:Inv X pins σ H s)(S:CS X.env.scope X.N x scope N')(hf:∀b∈fp,dG X pins H b)(ho:∀b∈fp,∃o,s.heap.get? b=some o)
  (hns:h'.Ns (s.heap.push oD).objs.size m) (hsb:Heap.SameBut (s.heap.push oD).objs.size ((s.heap.push oD).push oC) h') :
  Inv (bS X x scope (s.heap.push oD).objs.size { s with heap:=s.heap.push oD } H (s.heap.objs.size::fp) N') [] (none::σ) H { s with heap:=h',toks:=tk }:=by
 have I3:Inv X pins σ H { s with heap:=s.heap.push oD,toks:=s.toks }:=I.kept fun b o e=>Heap.get?_push_of_some _ e;have hC:(s.heap.push oD).objs.size=s.heap.objs.size+1:=Heap.size_push ..
 have up3:∀b o,(s.heap.push oD).get? b=some o->h'.get? b=some o:=fun b o e=>
  (hsb.2 b (Nat.ne_of_lt (Heap.lt_size e))).trans (Heap.get?_push_of_some _ e)
 have up:∀b o,s.heap.get? b=some o->h'.get? b=some o:=fun b o e=>up3 b o (Heap.get?_push_of_some _ e);have cl:=fun {y c} e=>rP (y:=y) (c:=c) I S e
 have clt:∀y c,X.env.cells.lookup y=some c->c<s.heap.objs.size:=fun y c e=>let ⟨v,q⟩:=I.cell y c e;q.lt
 have inner:∀{y:Str}{k':NameKind},(relabel scope X.env).names.lookup y=some k'->(k'=.cell\/k'=.free)->(y,NameKind.free)∈scope.names:=fun {y k'} e hk=>by
  obtain⟨k,mem,r⟩:=mC e
  rcases r with r|⟨r,_⟩
  .rcases hk with z|z
   .exact absurd (r.symm.trans z) (S.nocell _ mem)
   .rw[←r.symm.trans z];exact mem
  .rw[←r];exact mem
 have ok:(bS X x scope (s.heap.push oD).objs.size { s with heap:=s.heap.push oD } H (s.heap.objs.size::fp) N').Ok:=by
  refine⟨I.ok.mod,S.kind,I.ok.glob,I.ok.blt,Nat.le_refl _,fun y z c e1 e2=>I.ok.inj y z c (cl e1) (cl e2),fun y hk=>?_,fun y c e=>(nomatch e),I.ok.hd,I.ok.frames,.inl rfl,fun b hb=>?_,fun b o e=>?_,
   Nat.le_trans (Nat.le_trans I.ok.bsz I.sz) (by show s.heap.objs.size<=(s.heap.push oD).objs.size;omega),fun b o e hb=>?_,fun b hb z=>?_,I3.stack,I.stkFree⟩
  .have mem:(y,NameKind.free)∈scope.names:=by
    rcases hk with z|z
    .exact inner z (.inl rfl)
    .exact inner z (.inr rfl)
   obtain⟨c,hc,_⟩:=sY I S mem;exact⟨c,hc⟩
  .rcases List.mem_cons.mp hb with e|e
   .subst e
    exact⟨by show s.heap.objs.size≠(s.heap.push oD).objs.size;omega,fun y c e=>Nat.ne_of_lt (clt y c (cl e))⟩
   .obtain⟨o,q⟩:=ho b e
    have q2:=Heap.lt_size q;exact⟨by show b≠(s.heap.push oD).objs.size;rw[hC];exact Nat.ne_of_lt (Nat.lt_succ_of_lt q2),fun y c e'=>(hf b e).2.2.2.2.1 y c (cl e')⟩
  .exact⟨Heap.get?_push_of_some _ (I.bs b o e).1,(I.bs b o e).2⟩
  .rcases List.mem_cons.mp hb with z|z
   .have q2:=Heap.lt_size (I.bs b o e).1
    rw[z] at q2;exact Nat.lt_irrefl _ q2
   .rcases(hf b z).2.2.2.1 with q|q
    .exact I.ok.noex b o e q
    .have q2:=Heap.lt_size (I.ok.bs b o e).1
     exact Nat.lt_irrefl _ (Nat.lt_of_lt_of_le q2 q)
  .have z':=I.stkSub b z
   rcases List.mem_cons.mp hb with e|e
   .subst e
    rcases List.mem_cons.mp z' with q|q
    .have q2:=I.lt
     rw[←q] at q2;exact Nat.lt_irrefl _ q2
    .exact I.nofs (Nat.le_refl _) q
   .rcases List.mem_cons.mp z' with q|q
    .exact(hf b e).2.1 q
    .exact(hf b e).2.2.1 q
 obtain⟨mo,hno,hlo⟩:=I.loc;refine⟨ok,rfl,I.bare,Un.kept up3,⟨m,hns,fun i y v e1 e2 e3=>?_⟩,fun y c e=>?_,I.hok.fresh (by show s.heap.objs.size<=(s.heap.push oD).objs.size;omega),fun y c e=>I.freeC y c (cl e),fun p hp=>absurd hp (by simp),I.hok.kept up,?_⟩
 .cases i with
  |zero=>simp at e2
  |succ j=>
   have e1n:N'[j]? = some y:=by simpa using e1
   have vis:∃k,(y,k)∈scope.names:=by
    rcases(show Vis (relabel scope X.env) y from e3) with z|z|z <;> exact let ⟨k,mem,_⟩:=mC z;⟨k,mem⟩
   have e1':X.N[j]? = some y:=by
    rcases S.at e1n with z|z
    .exact z
    .obtain⟨k,mem⟩:=vis
     exact absurd rfl (z _ mem)
   have e2':σ[j]? = some (some v):=by simpa using e2
   have yx:y≠x:=fun z=>by
    have nd:=S.nd;rw[List.nodup_cons] at nd;refine nd.1 ?_;rw[←z];exact List.mem_of_getElem? e1n
   have kin:((relabel scope X.env).names.lookup y=some .cell\/(relabel scope X.env).names.lookup y=some .free):=by
    rcases(show Vis (relabel scope X.env) y from e3) with z|z|z
    .obtain⟨k,mem,r⟩:=mC z
     rcases r with r|⟨_,r⟩
     .rcases S.only _ mem r.symm with z2|z2
      .exact absurd z2 yx
      .exact absurd (List.mem_of_getElem? e1n) (by rw[show y=(".0" : Str) from z2];exact S.n0)
     .cases r
    .exact .inl z
    .exact .inr z
   have mem:(y,NameKind.free)∈scope.names:=by
    rcases kin with z|z
    .exact inner z (.inl rfl)
    .exact inner z (.inr rfl)
   have vo:Vis X.env.scope y:=by
    rcases S.free _ mem rfl with z|z
    .exact .inr (.inl z)
    .exact .inr (.inr z)
   obtain⟨u,ru,lk⟩:=hlo j y v e1' e2' vo;refine⟨u,ru,.inr ⟨kin,?_⟩⟩;obtain⟨c,hc,hc'⟩:=sY I S mem;refine⟨c,hc,?_⟩
   rcases lk with⟨z,_⟩|⟨_,c2,z2,q⟩
   .exfalso
    have z':X.env.scope.names.lookup y=some .local:=z
    rcases S.free _ mem rfl with r|r <;> (rw[z'] at r;cases r)
   .rw[hc'] at z2
    cases z2;obtain⟨o,q1,q2⟩:=q;exact⟨o,up _ _ q1,q2⟩
 .obtain⟨v,o,q1,q2⟩:=I.cell y c (cl e)
  exact⟨v,o,up _ _ q1,q2⟩
 .have:=I.len
  simp[this,S.len]
theorem qI{fp:List Addr}{σ':St}{pins':List (Addr×Obj)}{H1:Hp}{s1:Shared}{h':Heap}{C:Addr}{oD:Obj}{ys:List V}(I:Inv X pins σ H s)(hf:∀b∈fp,dG X pins H b)
  (hCd:C=(s.heap.push oD).objs.size) (J:Inv (bS X x scope C { s with heap:=s.heap.push oD } H (s.heap.objs.size::fp) N') pins' σ' H1 s1) (hsb:Heap.SameBut C s1.heap h') (hD0:H1 s.heap.objs.size=none)
  (new:∃its n,Vals ys its/\s1.heap.get? s.heap.objs.size=some { cls:=.type "list",data:=.seq its.toArray n }) (hz:ys.length<=sizeLine) :
  Inv X pins σ (upd H1 s.heap.objs.size (.lst ys)) { s1 with heap:=h' }:=by
 have hC:C=s.heap.objs.size+1:=by rw[hCd];exact Heap.size_push ..
 have nD:∀b o,s.heap.get? b=some o->b≠s.heap.objs.size:=fun b o e=>Nat.ne_of_lt (Heap.lt_size e)
 have nC:∀b o,s.heap.get? b=some o->b≠C:=fun b o e=>by rw[hC];exact Nat.ne_of_lt (Nat.lt_succ_of_lt (Heap.lt_size e))
 have up:∀b o,s.heap.get? b=some o->(s.heap.push oD).get? b=some o:=fun b o e=>Heap.get?_push_of_some _ e;have nx:∀b,b∉fp->b≠s.heap.objs.size->b∉s.heap.objs.size::fp:=fun b h1 h2 z=>(List.mem_cons.mp z).elim h2 h1
 have hDC:s.heap.objs.size≠C:=by rw[hC];exact Nat.ne_of_lt (Nat.lt_succ_self _)
 have tr:∀b u,H1 b=some u->b≠s.heap.objs.size:=fun b u e z=>by rw[z,hD0] at e;cases e
 have trC:∀b u,H1 b=some u->b≠C:=fun b u e z=>by
  have:=J.free;rw[z] at e;have q:H1 C=none:=J.free;rw[q] at e;cases e
 obtain⟨its,n,rv,eD⟩:=new;have B:Un (frs X.stack) (s.heap.objs.size::fp) H H1 (s.heap.push oD) s1.heap:=J.base;refine I.call' (s':={ s1 with heap:=h' }) (ch:=fp) J.os ⟨fun b o e q h1 h2=>?_,fun b o e q h1 h2=>?_,fun b o e q h2=>?_,fun b o e h2=>?_,fun b xs e=>?_,fun b o u e=>?_,fun b ps e=>?_⟩ (fun b u e=>?_) J.bare fun b hb=>?_
 .exact(hsb.2 b (nC b o e)).trans (B.keep b o (up b o e) q h1 (nx b h2 (nD b o e)))
 .obtain⟨sl,z⟩:=B.slot b o (up b o e) q h1 (nx b h2 (nD b o e))
  exact⟨sl,(hsb.2 b (nC b o e)).trans z⟩
 .rw[aP (nD b o e)]
  exact B.free b o (up b o e) q (nx b h2 (nD b o e))
 .obtain⟨o',z⟩:=B.there b o (up b o e) (nx b h2 (nD b o e))
  exact⟨o',(hsb.2 b (nC b o e)).trans z⟩
 .have z:=B.tups b xs e
  rw[aP (tr b _ z)];exact z
 .have z:=B.frzs b o u e
  rw[aP (tr b _ z)];exact z
 .obtain⟨more,z⟩:=B.tbls b ps e
  exact⟨more,by rw[aP (tr b _ z)];exact z⟩
 .by_cases hb:b=s.heap.objs.size
  .subst hb
   rw[bC] at e;cases e;exact⟨hz,its,n,rv,(hsb.2 _ hDC).trans eD⟩
  .rw[aP hb] at e
   refine(J.hok b u e).stay (fun c v hc q=>(hsb.2 c ?_).trans q) (fun c q=>by rw[aP (tr c _ q)];exact q) fun c xs q=>by rw[aP (tr c _ q)];exact q
   rcases hc with z|z
   .rw[z];exact trC b u e
   .exact trC c _ z
 .obtain⟨_,f1,_,f3,f4,f5⟩:=hf b hb
  exact⟨f3,f1,f4,f5⟩
end
def PTs(X:Cx)(ifs:List Expr)(t:TT):Prop:=
 ∀(pins:List (Addr×Obj)) (s:Shared) (σ:St) (H:Hp) (Q:Bool->Hp->Prop) (E:Value->Shared->Prop),Inv X pins σ H s->t σ H Q ->
  wpAny (model X.prog X.w) X.A (forIn ifs true fun c r=>if r=true then do
   let ok ←isTrue c X.env (eval c X.env)
   pure (ForInStep.yield ok) else pure (ForInStep.yield r)) (TP X pins σ Q) E s
theorem Bd{X:Cx}:PTs X [] (fun _ H Q=>Q true H):=fun _ _ _ H _ _ I h=>wpAny_tests_nil ⟨H,I,h⟩
theorem Bc{X:Cx}{c:Expr}{t:TT}(hx:X.xe=fun _ _=>False)(h:PT X c t):PTs X [c] t:=fun pins s σ H Q _ I q=>
 wpAny_tests_one (wpAny_mono (h pins s σ H Q I q) (fun _ _ z=>z) fun e s' z=>by rw[hx] at z;exact z.elim)
def mn(σ:St)(J:It)(tt:TT)(te:TE)(W:Nat->Nat->List V->Hp->Prop)(D:List V->Hp->Prop):Prop:=∀i m ys H,W i m ys H ->
 (J.stop i H/\ys.length<=sizeLine/\D ys H)\/(J.go i H/\ys.length<sizeLine/\∃N:List V->Hp->Prop,(∀ys' H',N ys' H'->∃m',m' < m/\W (i+1) m' ys' H')/\∀v H',J.yld i H v H'->tt (some v::σ) H' fun b H2=>
  if b=true then te (some v::σ) H2 fun y H3=>N (ys++[y]) H3 else N ys H2)
section
variable {X:Cx}{pins:List (Addr×Obj)}{σ:St}{H:Hp}{s:Shared}{x:Str}{scope:Scope}{N':List Str}
theorem rN{fp:List Addr}{it C:Addr}{tn:Nat->Heap->Prop}{J:It}{oD:Obj}{elt iter:Expr}{ifs:List Expr}{px pos:Pos}{te:TE}{tt:TT}{W:Nat->Nat->List V->Hp->Prop}{Dn:List V->Hp->Prop}
  {R:Result->Shared->Prop}{σ':St}{s4:Shared}{m0:Nat} (hcalm:X.calm=true) (S:CS X.env.scope X.N x scope N') (hf:∀b∈fp,dG X pins H b) (ho:∀b∈fp,∃o,s.heap.get? b=some o) (hCd:C=(s.heap.push oD).objs.size)
  (T:Turn X.prog X.w X.K (.Name x px) J fp it tn) (I4:Inv (bS X x scope C { s with heap:=s.heap.push oD } H (s.heap.objs.size::fp) N') [] (none::σ) H s4) (st4:tn 0 s4.heap) (hD4:s4.heap.get? s.heap.objs.size=some { cls:=.type "list",data:=.seq #[] 0 })
  (hDn:H s.heap.objs.size=none) (hte:PE (bS X x scope C { s with heap:=s.heap.push oD } H (s.heap.objs.size::fp) N') elt te) (htt:PTs (bS X x scope C { s with heap:=s.heap.push oD } H (s.heap.objs.size::fp) N') ifs tt)
  (w0:W 0 m0 [] H) (turn:mn σ J tt te W Dn)
  (hR:∀s1 H1 σ1 ys its n,Inv (bS X x scope C { s with heap:=s.heap.push oD } H (s.heap.objs.size::fp) N') [] σ1 H1 s1->H1 s.heap.objs.size=none->Vals ys its->s1.heap.get? s.heap.objs.size=some { cls:=.type "list",data:=.seq its.toArray n }->ys.length<=sizeLine->Dn ys H1->R (.ok .next) s1) :
  codeAny (model X.prog X.w) X.A (.compLoop (.ListComp elt [⟨.Name x px,iter,ifs,0⟩] scope pos) 0 (.ref it) (.ref s.heap.objs.size) (compEnvC scope (b8 X.env scope.names []) C X.env)) R s4:=by
 have hC:C=s.heap.objs.size+1:=by rw[hCd];exact Heap.size_push ..
 generalize hX:bS X x scope C { s with heap:=s.heap.push oD } H (s.heap.objs.size::fp) N'=X' at *
 have xP:X'.prog=X.prog:=by rw[←hX]
 have xW:X'.w=X.w:=by rw[←hX]
 have xK:X'.K=X.K:=by rw[←hX]
 have xA:X'.A=X.A:=by rw[←hX]
 have xE:X'.env=compEnvC scope (b8 X.env scope.names []) C X.env:=by rw[←hX]
 have xC:X'.calm=true:=by rw[←hX];exact hcalm
 have xex:X'.ex=s.heap.objs.size::fp:=by rw[←hX]
 have xpn:X'.pn=[]:=by rw[←hX]
 have xxe:X'.xe=fun _ _=>False:=by rw[←hX]
 have xN:X'.N=x::N':=by rw[←hX]
 have xL:X'.env.locals=C:=by rw[xE];rfl
 have xloc:X'.env.scope.names.lookup x=some .local:=by rw[xE];exact lookup_relabel_local S.hx
 have lt:∀b∈fp,b<s.heap.objs.size:=fun b hb=>let ⟨_,e⟩:=ho b hb;Heap.lt_size e
 have fpk:∀{pl:List (Addr×Obj)}{H':Hp},(∀p∈pl,p.1=s.heap.objs.size)->(∀b∈fp,H' b=none)->∀b∈fp,dG X' pl H' b:=fun {pl H'} hp hn b hb=>by
  have okk:=I4.ok
  have hm:b∈X'.ex:=by rw[xex];exact List.mem_cons_of_mem _ hb
  refine⟨hn b hb,(okk.exf b hm).1,okk.exfs b hm,.inl hm,(okk.exf b hm).2,fun p hpl z=>?_⟩;rw[xpn] at hpl;have q1:=hp p (by simpa using hpl);have q2:=lt b hb;rw[←z,q1] at q2;exact Nat.lt_irrefl _ q2
 have dok:∀{pl:List (Addr×Obj)}{H':Hp},(∀p∈pl,p.1∈fp)->H' s.heap.objs.size=none->dG X' pl H' s.heap.objs.size:=fun {pl H'} hp hn=>by
  have okk:=I4.ok
  have hm:s.heap.objs.size∈X'.ex:=by rw[xex];exact List.mem_cons_self
  refine⟨hn,(okk.exf _ hm).1,okk.exfs _ hm,.inl hm,(okk.exf _ hm).2,fun p hpl z=>?_⟩;rw[xpn] at hpl;have q2:=lt p.1 (hp p (by simpa using hpl));rw[z] at q2;exact Nat.lt_irrefl _ q2
 refine codeAny_compLoop_tests (I:=fun m s'=>∃i σx H' ys its n,Inv X' [] (σx::σ) H' s'/\tn i s'.heap/\(∀b∈fp,H' b=none)/\H' s.heap.objs.size=none/\Vals ys its/\s'.heap.get? s.heap.objs.size=some { cls:=.type "list",data:=.seq its.toArray n }/\W i m ys H') ?_ m0
  ⟨0,none,H,[],[],0,I4,st4,fun b hb=>(hf b hb).1,hDn,.nil,hD4,w0⟩
 rintro m s5 ⟨i,σx,H5,ys,its,n,I5,st5,fr5,d5,rv,e5,w5⟩
 have I5d:Inv X' ([]++gb [s.heap.objs.size] s5.heap) (σx::σ) H5 s5:=I5.pinned (fun b hb=>by
   have e:b=s.heap.objs.size:=by simpa using hb
   rw[e];exact dok (fun p hp=>absurd hp (by simp)) d5) fun b hb=>by
   have e:b=s.heap.objs.size:=by simpa using hb
   rw[e];exact⟨_,e5,fun v z=>by cases z⟩
 have pD:([]++gb [s.heap.objs.size] s5.heap:List (Addr×Obj))=[(s.heap.objs.size,{ cls:=.type "list",data:=.seq its.toArray n })]:=by
  simp[gb,e5]
 rw[pD] at I5d
 have p1:∀p∈[(s.heap.objs.size,({ cls:=.type "list",data:=.seq its.toArray n }:Obj))],p.1=s.heap.objs.size:=fun p hp=>by
  have e:p=(s.heap.objs.size,{ cls:=.type "list",data:=.seq its.toArray n }):=by simpa using hp
  rw[e]
 have hsz:its.length=ys.length:=rv.length.symm
 rcases turn i m ys H5 w5 with⟨stop,hz,dn⟩|⟨go,hz,N,hN,step⟩
 .have q:=T.done X' xP xW xK xC i _ s5 (σx::σ) H5 (notedBy (model X.prog X.w) X.A (compEnvC scope (b8 X.env scope.names []) C X.env) fun e s'=>R (.error e) s') I5d (fpk p1 fr5) st5 stop
  rw[xA] at q;refine wpAny_mono q (fun r s6 z=>?_) fun _ _ z=>z;obtain⟨rfl,I6⟩:=z;refine hR s6 H5 (σx::σ) ys its n ?_ d5 rv (I6.pin _ (List.mem_append_right _ (List.mem_singleton.mpr rfl))).1 hz dn;exact I6.pins_of fun p hp=>absurd hp (by simp)
 .have q:=T.item X' xP xW xK xC i _ s5 (σx::σ) H5 (notedBy (model X.prog X.w) X.A (compEnvC scope (b8 X.env scope.names []) C X.env) fun e s'=>R (.error e) s') I5d (fpk p1 fr5) st5 go
  rw[xA] at q;refine wpAny_mono q (fun r s6 z=>?_) fun _ _ z=>z;obtain⟨u,rfl,z⟩:=z;dsimp only;have z':wpAny (model X.prog X.w) X.A (pure ()) _ _ s6:=z;refine wpAny_bind (m:=pure ()) (f:=fun _=>assign (.Name x px) (compEnvC scope (b8 X.env scope.names []) C X.env) u) (wpAny_mono z' (fun _ s7 z=>?_) fun _ _ z=>z);obtain⟨v,H7,I7,rv7,y7,st7,fr7⟩:=z;have I7p:=I7.pinned (fpk p1 fr7) (T.obj _ _ st7);rw[←xE]
  have nd:X'.N.Nodup:=by rw[xN];exact S.nd
  have hi0:X'.N[0]? = some x:=by rw[xN];rfl
  refine wpAny_assign_Name (nu (E:=notedBy (model X.prog X.w) X.A X'.env fun e s'=>R (.error e) s') (i:=0) I7p nd hi0 (.inl xloc) rv7 (fun s8 I8=>?_) (.inr xloc));have I8':Inv X' _ (some v::σ) H7 s8:=I8;have t8:=htt _ s8 (some v::σ) H7 _ (notedBy (model X.prog X.w) X.A X'.env fun e s'=>R (.error e) s') I8' (step v H7 y7);rw[xP,xW,xA] at t8;refine wpAny_mono t8 (fun ok s9 z=>?_) fun _ _ z=>z;obtain⟨H9,I9,q9⟩:=z
  have back:∀{s':Shared}{H':Hp}{σ2:St},Inv X' ([(s.heap.objs.size,({ cls:=.type "list",data:=.seq its.toArray n }:Obj))]++gb fp s7.heap) σ2 H' s' ->
    tn (i+1) s'.heap/\(∀b∈fp,H' b=none)/\H' s.heap.objs.size=none/\s'.heap.get? s.heap.objs.size=some { cls:=.type "list",data:=.seq its.toArray n }/\Inv X' [] σ2 H' s':=fun {s' H' σ2} I'=>by
   refine⟨T.keep _ _ _ st7 fun b hb o e=>(I'.pin (b,o) (List.mem_append_right _ (List.mem_append_right _ (kj hb e)))).1,fun b hb=>?_,?_,?_,I'.pins_of fun p hp=>absurd hp (by simp)⟩
   .obtain⟨o,e,_⟩:=T.obj _ _ st7 b hb
    exact(I'.pin (b,o) (List.mem_append_right _ (List.mem_append_right _ (kj hb e)))).2.1
   .exact(I'.pin (s.heap.objs.size,_) (List.mem_append_right _ (List.mem_append_left _ (List.mem_singleton.mpr rfl)))).2.1
   .exact(I'.pin (s.heap.objs.size,_) (List.mem_append_right _ (List.mem_append_left _ (List.mem_singleton.mpr rfl)))).1
  cases ok with
  |false=>
   simp only[Bool.false_eq_true,if_false] at q9 ⊢;obtain⟨m',hm,w9⟩:=hN _ _ q9;obtain⟨a1,a2,a3,a4,a5⟩:=back I9;exact⟨m',hm,i+1,some v,H9,ys,its,n,a5,a1,a2,a3,rv,a4,w9⟩
  |true=>
   simp only[if_true] at q9 ⊢;have t9:=hte _ s9 (some v::σ) H9 _ I9 q9;rw[xP,xW,xA,xxe] at t9;refine wpAny_mono t9 (fun u2 s10 z=>?_) fun _ _ z=>z.elim;obtain⟨y,H10,I10,r10,q10⟩:=z;obtain⟨m',hm,w10⟩:=hN _ _ q10;obtain⟨a1,a2,a3,a4,a5⟩:=back I10;refine wpAny_list_append_plain ⟨n,a4⟩ (fun h' pl sb=>?_) (by rw[List.size_toArray];omega);obtain⟨n',e'⟩:=pl;have D0:=dok (pl:=[]) (fun p hp=>absurd hp (by simp)) a3;refine⟨m',hm,i+1,some v,H10,ys++[y],its++[u2],n',a5.turned (t':=s10.toks) (fun b o hb e=>(sb.2 b hb).trans e) D0.1 D0.2.1 D0.2.2.2.1 D0.2.2.2.2.1 D0.2.2.2.2.2,?_,a2,a3,rv.append (.cons r10 .nil),by simpa using e',w10⟩;exact T.keep _ _ _ a1 fun b hb o e=>(sb.2 b (Nat.ne_of_lt (lt b hb))).trans e
end
section
variable {X:Cx}{x:Str}{scope:Scope}{N':List Str}{elt iter:Expr}{ifs:List Expr}{px pos:Pos}{wi:TI}{te:TE}{tt:TT}
def vJ(wi:TI)(tt:TT)(te:TE):TE:=fun σ H Q=>wi σ H fun J H1=>∃W:Nat->Nat->List V->Hp->Prop,(∃m,W 0 m [] H1)/\mn σ J tt te W fun ys H=>∀p,H p=none->Q (.ref p) (upd H p (.lst ys))
theorem Bo(hc:X.calm=true)(S:CS X.env.scope X.N x scope N')(hi:PI X (.Name x px) iter wi)(he:∀C s0 H0 ex,PE (bS X x scope C s0 H0 ex N') elt te)
  (ht:∀C s0 H0 ex,PTs (bS X x scope C s0 H0 ex N') ifs tt) (hs:∀v,foldedSetIterable iter X.env v=pure v:=by intro _;rfl):PE X (.ListComp elt [⟨.Name x px,iter,ifs,0⟩] scope pos) (vJ wi tt te):=by
 intro pins s σ H Q I h;rw[eval_ListComp];refine wpAny_comprehension_free (use:=none) rfl hs (qK (nE I S)) S.kind S.names (thn (hi pins s σ H _ I h) fun v s1 h1=>thn h1 fun itv s2 h2=>?_);obtain⟨it,fp,tn,J,H2,rfl,I2,T,st2,f2,W,⟨m0,w0⟩,turn⟩:=h2
 have ho:∀b∈fp,∃o,s2.heap.get? b=some o:=fun b hb=>let ⟨o,e,_⟩:=T.obj _ _ st2 b hb;⟨o,e⟩
 refine wpAny_newObj_type (wpAny_newFunctionEnv S.nocell (by intro y hy;simp at hy) (fun h' hns hsb=>?_) S.kind);have I4:=qJ (x:=x) (scope:=scope) (tk:=s2.toks+([]:List (Str×Value)).length) I2 S f2 ho hns hsb
 have up3:∀b o,(s2.heap.push { cls:=.type "list",dict:=none,data:=.seq ([]:List Value).toArray }).get? b=some o->h'.get? b=some o:=fun b o e=>
  (hsb.2 b (Nat.ne_of_lt (Heap.lt_size e))).trans (Heap.get?_push_of_some _ e)
 have st4:tn 0 h':=T.keep _ _ _ st2 fun b _ o e=>up3 b o (Heap.get?_push_of_some _ e)
 have loop:=rN (elt:=elt) (iter:=iter) (ifs:=ifs) (pos:=pos) (R:=compPost (model X.prog X.w) X.A X.xe none (EP X pins σ Q) (.ref s2.heap.objs.size) (s2.heap.push { cls:=.type "list",dict:=none,data:=.seq ([]:List Value).toArray }).objs.size) (σ':=σ)
  hc S f2 ho rfl T I4 st4 (up3 _ _ (Heap.get?_push_size _ rfl)) (I2.hok.fresh (Nat.le_refl _)) (he _ _ _ _) (ht _ _ _ _) w0 turn fun s5 H5 σ5 ys its n J5 d5 rv e5 hz dn=>by
   obtain⟨m,hn,_⟩:=J5.loc;exact⟨m,hn,fun h'' sb=>⟨.ref s2.heap.objs.size,_,qI I2 f2 rfl J5 sb d5 ⟨its,n,rv,e5⟩ hz,rfl,dn _ d5⟩⟩
 exact codeAny_compStart_list loop (T.self X.A 0 _ _ _ st4 loop)
def Ea(i:Nat)(wi:TI)(tt:TT)(te:TE):TS:=fun D σ H=>wi σ H fun J H1=>∃W:Nat->Nat->List V->Hp->Prop,(∃m,W 0 m [] H1)/\mn σ J tt te W fun ys H=>∀p,H p=none->D.nx (σ.set i (some (.ref p))) (upd H p (.lst ys))
theorem Bh{i:Nat}{y:Str}{py spos:Pos}(hc:X.calm=true)(S:CS X.env.scope X.N x scope N')(hN:X.N.Nodup)(hi':X.N[i]? = some y)(hy:Loc X.env.scope y)(hf':X.fn y=true\/X.env.scope.names.lookup y=some .local)
  (hi:PI X (.Name x px) iter wi) (he:∀C s0 H0 ex,PE (bS X x scope C s0 H0 ex N') elt te)
  (ht:∀C s0 H0 ex,PTs (bS X x scope C s0 H0 ex N') ifs tt) (hsw:swapsWith (.ListComp elt [⟨.Name x px,iter,ifs,0⟩] scope pos) (some (.Name y py)) spos.line X.env=pure true) (hs:∀v,foldedSetIterable iter X.env v=pure v:=by intro _;rfl) :
  PS X (.Assign [.Name y py] (.ListComp elt [⟨.Name x px,iter,ifs,0⟩] scope pos) spos) (Ea i wi tt te):=by
 intro pins s σ H D I h;rw[exec_Assign_Name_used _ _ _ _ hsw];refine wpAny_bind (wpAny_standAt (wpAny_bind ?_));show wpAny _ _ (do let _ ←comprehension (.ListComp elt [⟨.Name x px,iter,ifs,0⟩] scope pos) scope X.env _ (newList []) false (eval iter X.env) (some (assign (.Name y py) X.env))) _ _ s;refine wpAny_bind (wpAny_mono (wpAny_comprehension_free (use:=some (assign (.Name y py) X.env)) (Q:=fun _ s'=>SP X pins D .next s') rfl hs (qK (nE I S)) S.kind S.names (thn (hi pins s σ H _ I h) fun v s1 h1=>thn h1 fun itv s2 h2=>?_)) (fun _ _ q=>wpAny_pure (wpAny_pure q)) fun _ _ q=>q);obtain⟨it,fp,tn,J,H2,rfl,I2,T,st2,f2,W,⟨m0,w0⟩,turn⟩:=h2
 have ho:∀b∈fp,∃o,s2.heap.get? b=some o:=fun b hb=>let ⟨o,e,_⟩:=T.obj _ _ st2 b hb;⟨o,e⟩
 refine wpAny_newObj_type (wpAny_newFunctionEnv S.nocell (by intro y hy;simp at hy) (fun h' hns hsb=>?_) S.kind);have I4:=qJ (x:=x) (scope:=scope) (tk:=s2.toks+([]:List (Str×Value)).length) I2 S f2 ho hns hsb
 have up3:∀b o,(s2.heap.push { cls:=.type "list",dict:=none,data:=.seq ([]:List Value).toArray }).get? b=some o->h'.get? b=some o:=fun b o e=>
  (hsb.2 b (Nat.ne_of_lt (Heap.lt_size e))).trans (Heap.get?_push_of_some _ e)
 have st4:tn 0 h':=T.keep _ _ _ st2 fun b _ o e=>up3 b o (Heap.get?_push_of_some _ e)
 have hCs:s2.heap.objs.size<=(s2.heap.push { cls:=.type "list",dict:=none,data:=.seq ([]:List Value).toArray }).objs.size:=by rw[Heap.size_push];omega
 have hDC:(s2.heap.push { cls:=.type "list",dict:=none,data:=.seq ([]:List Value).toArray }).objs.size≠s2.heap.objs.size:=by rw[Heap.size_push];omega
 have loop:=rN (elt:=elt) (iter:=iter) (ifs:=ifs) (pos:=pos) (R:=compPost (model X.prog X.w) X.A X.xe (some (assign (.Name y py) X.env)) (fun _ s'=>SP X pins D .next s') (.ref s2.heap.objs.size) (s2.heap.push { cls:=.type "list",dict:=none,data:=.seq ([]:List Value).toArray }).objs.size) (σ':=σ)
  hc S f2 ho rfl T I4 st4 (up3 _ _ (Heap.get?_push_size _ rfl)) (I2.hok.fresh (Nat.le_refl _)) (he _ _ _ _) (ht _ _ _ _) w0 turn fun s5 H5 σ5 ys its n J5 d5 rv e5 hz dn=>by
   have J6:=qI I2 f2 rfl J5 (Heap.SameBut.refl _ _) d5 ⟨its,n,rv,e5⟩ hz;obtain⟨m,hn,_⟩:=J5.loc;refine wpAny_assign_Name (qZ (u:=.ref s2.heap.objs.size) J6 hN hi' hy (show RelV (.ref s2.heap.objs.size) _ from rfl) (fun s7 I7 ⟨a,sb,ha⟩=>?_) hf')
   have hCa:(s2.heap.push { cls:=.type "list",dict:=none,data:=.seq ([]:List Value).toArray }).objs.size≠a:=by
    rcases ha with z|z
    .rw[z]
     exact Nat.ne_of_gt (Nat.lt_of_lt_of_le I2.lt hCs)
    .obtain⟨v,q⟩:=I2.cell _ _ z
     exact Nat.ne_of_gt (Nat.lt_of_lt_of_le q.lt hCs)
   have hn5:H5 (s2.heap.push { cls:=.type "list",dict:=none,data:=.seq ([]:List Value).toArray }).objs.size=none:=J5.free;have fk:=I2.fpOk (b:=(s2.heap.push { cls:=.type "list",dict:=none,data:=.seq ([]:List Value).toArray }).objs.size) (H':=upd H5 s2.heap.objs.size (.lst ys)) hCs (by rw[aP hDC];exact hn5);refine⟨m,hn.sameBut sb hCa,fun h'' sb2=>⟨_,_,I7.turned (t':=s7.toks) (fun b o hb e=>(sb2.2 b hb).trans e) fk.1 fk.2.1 fk.2.2.2.1 fk.2.2.2.2.1 fk.2.2.2.2.2,dn _ d5⟩⟩
 exact codeAny_compStart_list loop (T.self X.A 0 _ _ _ st4 loop)
end
section
variable {σ:St}{tt:TT}{te:TE}
end
def Its(z:Str):It:=⟨fun i _=>i<z.cps.size,fun i H v H'=>H'=H/\∃c,z.cps[i]? = some c/\v=.str ⟨#[c]⟩,fun i _=>z.cps.size<=i⟩
theorem rY{P:Program}{w:World}{K:Frag}{tg:Expr}(z:Str)(t:Tok)(ty:String)(it:Addr)(hty:ty="str_ascii_iterator"\/ty="str_iterator") :
  Turn P w K tg (Its z) [it] it (fun i h=>h.IsStrIter it ty z t i) where
 mem:=by simp
 obj:=fun i h st b hb=>by
  have e:b=it:=by simpa using hb
  subst e;obtain⟨o,e,c,d⟩:=st;exact⟨o,e,fun v q=>by rw[d] at q;cases q⟩
 keep:=fun i h h' st k=>let ⟨o,e,r⟩:=st;⟨o,k it (by simp) o e,r⟩
 item:=by
  intro X hP hw hK hc i pins s σ H E I hf st hg;subst hP hw hK;have hi:i<z.cps.size:=hg;obtain⟨f0,f1,f2,f3,f4,f5⟩:=hf it (by simp)
  have fin:∀h',h'.IsStrIter it ty z t (i+1)->Heap.SameBut it s.heap h'->∃u,(some (Value.str ⟨#[z.cps[i]]⟩ s.toks):Option Value)=some u /\
    wpAny (model X.prog X.w) X.A (letOwnedTupleGo tg (.ref it) u) (fun _ s2=>∃x H',Inv X pins σ H' s2/\RelV x u/\(Its z).yld i H x H'/\s2.heap.IsStrIter it ty z t (i+1)/\∀b∈[it],H' b=none) E { s with heap:=h',toks:=s.toks+1 }:=fun h' st' sb=>by
   have I1:Inv X pins σ H { s with heap:=h',toks:=s.toks+1 }:=I.turned (fun b o hb e=>(sb.2 b hb).trans e) f0 f1 f3 f4 f5;obtain⟨o,e,c,d⟩:=id st';refine⟨_,rfl,j0 (s:={ s with heap:=h',toks:=s.toks+1 }) (n:=ty) e c d ?_ ⟨.str ⟨#[z.cps[i]]⟩,H,I1,⟨_,rfl⟩,⟨rfl,z.cps[i],by simp[hi],rfl⟩,st',fun b hb=>(hf b hb).1⟩⟩
   rcases hty with e|e <;> (rw[e];decide)
  rcases hty with e|e
  .subst e
   exact wpAny_pyNext_ascii_item st (c:=z.cps[i]) (by simp[hi]) fin
  .subst e
   exact wpAny_pyNext_wide_item st (c:=z.cps[i]) (by simp[hi]) fin
 done:=by
  intro X hP hw hK hc i pins s σ H E I hf st hg;subst hP hw hK;have hi:z.cps.size<=i:=hg;obtain⟨f0,f1,f2,f3,f4,f5⟩:=hf it (by simp);have fin:∀h',Heap.ExtBut it s.heap h'->(none:Option Value)=none/\Inv X pins σ H { s with heap:=h' }:=fun h' eb=>⟨rfl,I.turned (t':=s.toks) (fun b o hb e=>eb b o hb e) f0 f1 f3 f4 f5⟩
  rcases hty with e|e
  .subst e
   exact wpAny_pyNext_ascii_end (I.ok.hd hc) st (by simp;omega) fin
  .subst e
   exact wpAny_pyNext_wide_end (I.ok.hd hc) st (by simp;omega) fin
 self:=fun _ _ _ _ _ st h=>by
  rcases hty with e|e
  .subst e
   exact wpAny_pyIter_striter_ascii st h
  .subst e
   exact wpAny_pyIter_striter_wide st h
section
variable {X:Cx}{tg:Expr}
end
theorem all_range(bs:List Bool)(n:Nat)(hn:n=bs.length):(List.range n).all (fun i=>bs.getD i false)=bs.all id:=by
 subst hn;rw[Bool.eq_iff_iff,List.all_eq_true,List.all_eq_true];constructor
 .intro h b hb
  obtain⟨i,hi,rfl⟩:=List.getElem_of_mem hb;have:=h i (List.mem_range.mpr hi);simpa[List.getD,hi] using this
 .intro h i hi
  have hi':=List.mem_range.mp hi;have:=h bs[i] (List.getElem_mem hi');simpa[List.getD,hi'] using this
theorem qA:∀(ns:List Int) (k:Nat),k<=ns.length->preSum (fun i=>ns.getD i 0) k=(ns.take k).sum
 |ns,0,_=>by simp[preSum]
 |ns,k+1,h=>by
  have hk:k<ns.length:=h;have ih:=qA ns k (Nat.le_of_lt hk)
  have e:(ns.take (k+1)).sum=(ns.take k).sum+ns.getD k 0:=by
   rw[List.take_add_one,List.sum_append];simp[List.getD,hk]
  rw[e,←ih];rfl
section
variable {X:Cx}
theorem AO(hc:X.calm=true):CallR X (.builtin "all") (fun xs H Q=>∃(p:Addr) (bs:List Bool),xs=[.ref p]/\SqL X.K H p (bs.map V.bl)/\Q (.bl (bs.all id)) H):=by
 intro pins s σ H xs us Q I r h;obtain⟨p,bs,rfl,hq,q⟩:=h;obtain⟨u,rfl,ru⟩:=vals1 r;cases ru;obtain⟨its,rv,pl,hz⟩:=I.list hq
 have hlen:its.length=bs.length:=by have:=rv.length;simpa using this.symm
 have hlt:p<s.heap.objs.size:=by
  obtain⟨o,n,e,_⟩:=pl;exact Heap.lt_size e
 refine call_all_walk (wpAny_pyIter_list pl.isList ?_);refine⟨s.heap.objs.size,_,_,_,_,_,fun i=>bs.getD i false,rfl,Walks.list (A:=X.A.in1) (I.ok.hd hc) _ p (Nat.ne_of_lt hlt) its.toArray,⟨⟨_,Heap.get?_push_size _ rfl,rfl,rfl⟩,?_⟩,fun i v s' Q' E' hv hQ'=>?_,fun h' tk hk=>?_⟩
 .obtain⟨o,n,e,r⟩:=pl.isList
  exact⟨o,Heap.get?_push_of_some _ n,e,r⟩
 .have hi:i<its.length:=by
   have:=(Array.getElem?_eq_some_iff.mp hv).1;simpa using this
  have hi2:i<bs.length:=by omega
  obtain⟨u,hu,ru⟩:=rv.get (i:=i) (x:=.bl bs[i]) (by simp[hi2])
  have e:v=u:=by
   have hv':its[i]? = some v:=by simpa using hv
   rw[hu] at hv';exact(Option.some.inj hv').symm
  subst e;cases (show v=Value.bool bs[i] from ru);refine wpAny_truthy_bool ?_
  have e:bs[i]=bs.getD i false:=by simp[List.getD,hi2]
  rw[e];exact hQ'
 .have e:(List.range its.toArray.size).all (fun i=>bs.getD i false)=bs.all id:=all_range bs _ (by simpa using hlen)
  rw[e];exact⟨.bl _,H,I.kept (t':=tk) fun b o q=>hk b o (by simp;exact Nat.ne_of_lt (Heap.lt_size q)) (Heap.get?_push_of_some _ q),rfl,q⟩
theorem BG{ns:List Int}{its:List Value}(rv:Vals (ns.map V.int) its){i:Nat}{v:Value}(hv:its.toArray[i]? = some v):∃t,v=.int (ns.getD i 0) t:=by
 have hlen:its.length=ns.length:=by have:=rv.length;simpa using this.symm
 have hi:i<its.length:=by
  have:=(Array.getElem?_eq_some_iff.mp hv).1;simpa using this
 have hi2:i<ns.length:=by omega
 obtain⟨u,hu,ru⟩:=rv.get (i:=i) (x:=.int ns[i]) (by simp[hi2])
 have e:v=u:=by
  have hv':its[i]? = some v:=by simpa using hv
  rw[hu] at hv';exact(Option.some.inj hv').symm
 subst e;obtain⟨t,e⟩:=(show ∃t,v=Value.int ns[i] t from ru);refine⟨t,?_⟩;rw[e];simp[List.getD,hi2]
theorem AM(hc:X.calm=true):CallR X (.builtin "sum") (fun xs H Q=>∃(p:Addr) (ns:List Int),xs=[.ref p]/\SqL X.K H p (ns.map V.int)/\Q (.int ns.sum) H):=by
 intro pins s σ H xs us Q I r h;obtain⟨p,ns,rfl,hq,q⟩:=h;obtain⟨u,rfl,ru⟩:=vals1 r;cases ru;obtain⟨its,rv,pl,hz⟩:=I.list hq
 have hlen:its.length=ns.length:=by have:=rv.length;simpa using this.symm
 have hlt:p<s.heap.objs.size:=by
  obtain⟨o,n,e,_⟩:=pl;exact Heap.lt_size e
 refine call_sum_walkG (wpAny_pyIter_list pl.isList ?_);refine⟨s.heap.objs.size,_,_,_,_,_,fun i=>ns.getD i 0,rfl,Walks.list (A:=X.A.in1) (I.ok.hd hc) _ p (Nat.ne_of_lt hlt) its.toArray,⟨⟨_,Heap.get?_push_size _ rfl,rfl,rfl⟩,?_⟩,fun b hb=>?_,fun i v hv=>BG rv hv,fun h' tk t' hk=>?_⟩
 .obtain⟨o,n,e,r⟩:=pl.isList
  exact⟨o,Heap.get?_push_of_some _ n,e,r⟩
 .rw[Heap.size_push]
  rcases(by simpa using hb:b=s.heap.objs.size\/b=p) with e|e
  .rw[e];exact Nat.lt_succ_self _
  .rw[e];exact Nat.lt_succ_of_lt hlt
 .have e:preSum (fun i=>ns.getD i 0) its.toArray.size=ns.sum:=by
   rw[qA ns _ (by simp;omega)];rw[List.take_of_length_le (by simp;omega)]
  rw[e];exact⟨.int _,H,I.kept (t':=tk) fun b o q=>hk b o (by simp;exact Nat.ne_of_lt (Heap.lt_size q)) (Heap.get?_push_of_some _ q),⟨t',rfl⟩,q⟩
end
open K1 (jz ij)
section
variable {prog:Program}{w:World}{A:Around}{R:Result->Shared->Prop}{it S:Addr}{fp wr:List Addr}{P:Nat->Value->Prop}{St:Nat->Heap->Prop}{ns:List Int}{kw:List (Str×Value)}
end
section
variable {X:Cx}
end
section
variable {X:Cx}{e ed:Expr}{te td:TE}{p pos kpos:Pos}
end
section
variable {X:Cx}
theorem yZ:OpR X (compareOp .IsNot) (fun x y H Q=>∃b c,x=.bl b/\y=.bl c/\Q (.bl (b != c)) H):=by
 intro pins s σ H x y v u Q I rx ry h;obtain⟨b,c,rfl,rfl,q⟩:=h;cases rx;cases ry;exact isnot_bool ⟨.bl (b != c),H,I,rfl,q⟩
theorem op_catG:OpR X (binaryOp .Add) (fun x y H Q=>∃a b xs ys,x=.ref a/\y=.ref b/\SqT X.K H a xs/\SqT X.K H b ys/\xs.length+ys.length<=sizeLine /\
  (xs=[]->Q (.ref b) H)/\(xs≠[]->ys=[]->Q (.ref a) H)/\(xs≠[]->ys≠[]->∀p,H p=none->Q (.ref p) (upd H p (.tup (xs++ys))))):=by
 intro pins s σ H x y v u Q I rx ry h;obtain⟨a,b,xs,ys,rfl,rfl,ha,hb,hz,q0,q1,q2⟩:=h
 by_cases hx:xs=[]
 .cases rx
  cases ry;obtain⟨its,r1,p1,_⟩:=I.tuple ha;obtain⟨its2,r2,p2,_⟩:=I.tuple hb;have hv:its=[]:=r1.nil_iff.mpr hx;obtain⟨⟨cls,dd,data,sl⟩,ho,hc,n,hd⟩:=id p1;obtain⟨⟨cls2,dd2,data2,sl2⟩,ho2,hc2,n2,hd2⟩:=id p2;simp only at hc hd hc2 hd2;subst hc hd hc2 hd2
  exact concat_meets ⟨_,ho,rfl⟩ ⟨_,ho2,rfl⟩ noFill_tuple_add seq_tuple_add PySem.F.slot_tuple_add PySem.F.entry_tuple_add (PySem.F.args_tuple_add_2 _ _)
   (tuple_addW0 a b its.toArray its2.toArray n n2 dd dd2 sl sl2 (by simp[hv])) ⟨ho,ho2,⟨.ref b,H,I,rfl,q0 hx⟩⟩
 .exact Bt pins s σ H _ _ v u Q I rx ry ⟨a,b,xs,ys,rfl,rfl,ha,hb,hx,hz,q1 hx,q2 hx⟩
theorem CC:SlR X (fun x lo hi H Q=>∃z:Str,x=.str z/\z.length<=sizeLine/\Q (.str (Txt.slice z lo hi)) H):=by
 intro pins s σ H x v vl vu lo hi sl Q I rx hs pl pu h;obtain⟨z,rfl,hz,q⟩:=h;obtain⟨t,rfl⟩:=rx
 have fin:∀l u:Option (Int×Tok),l.map (·.1)=lo->u.map (·.1)=hi->s.heap.IsSlice sl l u none->wpAny (model X.prog X.w) X.A (getItem (.str z t) (.ref sl)) (EP X pins σ Q) X.xe s:=fun l u el eu h=>by
  refine wpAny_getItem_str_slice h rfl ?_;refine post_val_or_made (fun _=>?_) fun t' k=>?_
  .have:=sliceIndices_le (l.map (·.1)) (u.map (·.1)) z.length
   have e:=List.length_filterMap_le (fun i=>z.cps[i]?) (slicePicked z l u none);show ((slicePicked z l u none).filterMap (z.cps[·]?)).toArray.size<=sizeLine;rw[List.size_toArray];unfold slicePicked at e ⊢;simp only[Option.map_none,Option.getD_none] at e ⊢;omega
  .refine⟨.str (Txt.slice z lo hi),H,I.tok _,⟨t',?_⟩,q⟩
   rw[←el,←eu];rfl
 refine⟨"str",_,PySem.F.slot_str_getitem.lookup,typeIs_str s z t,?_⟩
 cases pl with
 |none=>
  cases pu with
  |none=>exact fin none none rfl rfl hs
  |int j u=>exact fin none (some (j,u)) rfl rfl hs
 |int i u=>
  cases pu with
  |none=>exact fin (some (i,u)) none rfl rfl hs
  |int j u'=>exact fin (some (i,u)) (some (j,u')) rfl rfl hs
theorem op_mulS:OpR X (binaryOp .Mult) (fun x y H Q=>∃z k,x=.str z/\y=.int k/\0<=k/\k<=2000/\z.length<=1000/\Q (.str (Txt.mul z k)) H):=by
 intro pins s σ H x y v u Q I rx ry h;obtain⟨z,k,rfl,rfl,h1,h2,h3,q⟩:=h;obtain⟨t,rfl⟩:=rx;obtain⟨t',rfl⟩:=ry;have hm:z.length*k.toNat<=1000*2000:=Nat.mul_le_mul h3 (by omega);refine SB.mul ⟨?_,fun g1 g2=>?_,fun g1 g2=>?_⟩ fun t' k'=>⟨.str _,H,I.tok _,⟨t',rfl⟩,q⟩
 .simp;omega
 .have hk:1<=k:=by simp at g1;omega
  have e1:(1000:Int)<=(2^63-1) / k:=by
   rw[Int.le_ediv_iff_mul_le (by omega)];omega
  omega
 .unfold Builtin.Str.tooLong
  simp[sizeLine];omega
end
theorem qv{ys:List Str}:∀{us:List Value},Vals (ys.map V.str) us->StrsAre us ys:=by
 induction ys with
 |nil=>intro us r;rw[List.map_nil] at r;cases r;exact .nil
 |cons y ys ih=>
  intro us r;rw[List.map_cons] at r
  cases r with
  |cons r1 r2=>
   obtain⟨t,e⟩:=r1;subst e;exact .cons y t (ih r2)
section
variable {X:Cx}
end
structure Fn(P:Program)(w:World)(K:Frag)(mg:Str->Option Value)(base:Heap)(name:Str)(ps:List Str)(k:Nat)(sp:Sp):Prop where
 ex:∃f fd,FnOk P w K mg base CX0 k f fd ps sp/\Binds K fd ps []/\PySem.W.keepIn K (.ref f)=true/\mg name=some (.ref f)
section
variable {X:Cx}{name:Str}{ps:List Str}{k:Nat}{sp:Sp}{e:Expr}{es:List Expr}{t:TA}{p pos:Pos}
theorem iV(F:Fn X.prog X.w X.K X.mg X.base name ps k sp)(hr:Room k X.A)(hg:Gl X name)(ha:PA X (e::es) t)(hdb:(name == ("__debug__" : Str))=false:=by decide)
  (he:starEach (e::es) X.env=(false,eval e X.env)::starEach es X.env:=by rfl) (hpl:(backTo pos (starEach es X.env)).any (·.1)=false:=by rfl):PE X (.Call (.Name name p) (e::es) [] pos) (vK sp [] E0 t):=by
 obtain⟨f,fd,h1,h2,h3,h4⟩:=F.ex;exact Bq h1 hr hg h4 h3 h2 .nil Ek ha hdb he hpl
end
theorem sA{X:Cx}{x:Str}{scope osc:Scope}{N N':List Str}{elt iter:Expr}{ifs:List Expr}{px pos:Pos}{wi:TI}{te:TE}{tt:TT}(S:CS osc N x scope N')(hi:PI X (.Name x px) iter wi)
  (he:∀C s0 H0 ex,PE (bS X x scope C s0 H0 ex N') elt te) (ht:∀C s0 H0 ex,PTs (bS X x scope C s0 H0 ex N') ifs tt) (hc:X.calm=true:=by rfl) (hs:X.env.scope=osc:=by rfl) (hN:X.N=N:=by rfl)
  (hf:∀v,foldedSetIterable iter X.env v=pure v:=by intro _;rfl):PE X (.ListComp elt [⟨.Name x px,iter,ifs,0⟩] scope pos) (vJ wi tt te):=by
 subst hs hN;exact Bo hc S hi he ht hf
end L2
namespace D
open PySem PySem.Spec PyProof.Rows L2
inductive Gh(P:Hp->Prop):Hp->Prop where
 |done {H:Hp}:P H->Gh P H
 |frz {H:Hp}{a:Addr}{kvs:List (Key×V)}:H a=some (.dK kvs)->(∀o,Gh P (upd H a (.frz o (.dK kvs))))->Gh P H
theorem Gh.imp{P P':Hp->Prop}{H:Hp}(g:Gh P H)(i:∀H,P H->P' H):Gh P' H:=by
 induction g with
 |done h=>exact .done (i _ h)
 |frz e _ ih=>exact .frz e ih
section
variable {X:Cx}{pins:List (Addr×Obj)}{σ:L2.St}{H:Hp}{s:Shared}
theorem tX(I:Inv X pins σ H s){a:Addr}{kvs:List (Key×V)}(e:H a=some (.dK kvs)):∃o,Inv X pins σ (upd H a (.frz o (.dK kvs))) s:=by
 obtain⟨z,y,vs,kv,o,es,ep,eo,r⟩:=I.hok a _ e
 have U:∀{b:Addr}{u:HO},H b=some u->(∀ks,u≠.dK ks)->upd H a (.frz o (.dK kvs)) b=some u:=fun {b u} q n=>by
  rw[aP (fun z=>by subst z;rw[e] at q;cases q;exact n _ rfl)];exact q
 have hok:HOk X.prog X.w (upd H a (.frz o (.dK kvs))) s.heap:=fun b u q=>by
  by_cases hb:b=a
  .subst hb
   rw[bC] at q;cases q;exact⟨eo,(I.hok b _ e).stay (fun _ _ _ q=>q) (fun c q=>U q (fun _ z=>nomatch z)) fun c xs q=>U q (fun _ z=>nomatch z)⟩
  .rw[aP hb] at q
   exact(I.hok b u q).stay (fun _ _ _ q=>q) (fun c q=>U q (fun _ z=>nomatch z)) fun c xs q=>U q (fun _ z=>nomatch z)
 exact⟨o,I.un (h':=s.heap) (t':=s.toks) ⟨fun b ob q n _ _=>q,fun b ob q n _ _=>⟨_,q⟩,fun b ob q n _=>by rw[aP (fun z=>by subst z;rw[e] at n;cases n)];exact n,fun b ob q _=>⟨_,q⟩,fun b xs q=>U q (fun _ z=>nomatch z),
  fun b ob u q=>U q (fun _ z=>nomatch z),fun b ps q=>⟨#[],by rw[U q (fun _ z=>nomatch z)];simp⟩⟩ hok⟩
theorem Gh.ok{P:Hp->Prop}(g:Gh P H)(I:Inv X pins σ H s):∃H',Inv X pins σ H' s/\P H':=by
 induction g with
 |done h=>exact⟨_,I,h⟩
 |frz e _ ih=>
  obtain⟨o,I'⟩:=tX I e;exact ih o I'
end
section
variable {X:Cx}
theorem Ef{st:Stmt}{t:TS}(h:PS X st t):PS X st (fun D σ H=>Gh (t D σ) H):=fun pins s σ H D I q=>by
 obtain⟨H',I',q'⟩:=q.ok I;exact h pins s σ H' D I' q'
theorem CN{st:List Stmt}{t:TS}(h:PSs X st t):PSs X st (fun D σ H=>Gh (t D σ) H):=fun pins s σ H D I q=>by
 obtain⟨H',I',q'⟩:=q.ok I;exact h pins s σ H' D I' q'
theorem vP{e:Expr}{t:TE}(h:PE X e t):PE X e (fun σ H Q=>t σ H fun v H1=>Gh (Q v) H1):=fun pins s σ H Q I q=>
 thn (h pins s σ H _ I q) fun u s' ⟨v,H',I',r,q'⟩=>by
  obtain⟨H2,I2,q2⟩:=q'.ok I';exact⟨v,H2,I2,r,q2⟩
end
def gC(o:Obj):Nat:=match o.data with
 |.dict _ ep=>ep
 |_=>0
def Itd(a:Addr)(o:Obj)(kvs:List (Key×V)):It:=⟨fun i H=>H a=some (.frz o (.dK kvs))/\i<kvs.length,fun i H x H'=>H'=H/\∃k v,kvs[i]? = some (k,v)/\x=kV k,fun i H=>H a=some (.frz o (.dK kvs))/\i=kvs.length⟩
theorem gP{P:Program}{w:World}{H:Hp}{h:Heap}{a:Addr}{o:Obj}{kvs:List (Key×V)}(ok:HOk P w H h)(e:H a=some (.frz o (.dK kvs))):kvs.length<=sizeLine/\(a == sysModules)=false/\∃vs,KV kvs vs/\h.DictAt (bq P w) a vs (gC o):=by
 obtain⟨e1,z,y,vs,kv,o',es,ep,e2,ed,dd,r⟩:=ok a _ e;rw[e1] at e2;cases e2;refine⟨z,y,vs,kv,o,es,e1,ed,?_,r⟩;unfold gC;rw[dd]
theorem keyV{P:Program}{w:World}{k:Key}{v:Value}(e:(bq P w).is k v=true):RelV (kV k) v:=by
 rcases dJ (show ej k v=true from e) with⟨i,t,rfl,rfl⟩|⟨x,t,rfl,rfl⟩
 .exact⟨t,rfl⟩
 .exact⟨t,rfl⟩
theorem EF{kvs:List (Key×V)}{vs:List (Key×Value)}(r:KV kvs vs){i:Nat}{k:Key}{x:Value}(e:vs[i]? = some (k,x)):∃v,kvs[i]? = some (k,v):=by
 have h:=r.keys
 have h1:(vs.map (·.1))[i]? = some k:=by rw[List.getElem?_map,e];rfl
 rw[←h,List.getElem?_map] at h1
 cases q:kvs[i]? with
 |none=>rw[q] at h1;cases h1
 |some p=>
  rw[q] at h1;cases h1;exact⟨p.2,rfl⟩
theorem yN{P:Program}{w:World}{K:Frag}{tg:Expr}(a it:Addr)(o:Obj)(kvs:List (Key×V)):Turn P w K tg (Itd a o kvs) [it] it (fun i h=>h.IsKeyIter it a i kvs.length (gC o)) where
 mem:=by simp
 obj:=fun i h st b hb=>by
  have e:b=it:=by simpa using hb
  subst e;obtain⟨o,e,c,d⟩:=st;exact⟨o,e,fun v z=>by rw[d] at z;cases z⟩
 keep:=fun i h h' st k=>st.at fun o e=>k it (by simp) o e
 item:=by
  intro X hP hw hK hc i pins s σ H E I hf st hg;subst hP hw hK;obtain⟨hg1,hg2⟩:=hg;obtain⟨z,y,vs,kv,dd⟩:=gP I.hok hg1;obtain⟨f0,f1,f2,f3,f4,f5⟩:=hf it (by simp);have hl:=kv.length
  have ne:a≠it:=fun q=>by rw[q,f0] at hg1;cases hg1
  have W:=Walks.dictKeys (prog:=X.prog) (w:=X.w) (knd:=bq X.prog X.w) (I.ok.hd hc) it a ne vs (gC o);refine W.item i s _ _ (by omega) ⟨by rw[←hl];exact st,dd⟩ fun v h' tk hv st' kk=>?_;obtain⟨k,x,h1,h2⟩:=hv;have I1:Inv X pins σ H { s with heap:=h',toks:=tk }:=I.turned (fun b o hb e=>kk b o (by simpa using hb) e) f0 f1 f3 f4 f5
  have st1:h'.IsKeyIter it a (i+1) kvs.length (gC o):=by rw[hl];exact st'.1
  obtain⟨o1,e1,c1,d1⟩:=id st1;obtain⟨v0,h3⟩:=EF kv h1;exact⟨v,rfl,j0 (s:={ s with heap:=h',toks:=tk }) e1 c1 d1 (by decide) ⟨kV k,H,I1,keyV h2,⟨rfl,k,v0,h3,rfl⟩,st1,fun b hb=>(hf b hb).1⟩⟩
 done:=by
  intro X hP hw hK hc i pins s σ H E I hf st hg;subst hP hw hK;obtain⟨hg1,hg2⟩:=hg;obtain⟨z,y,vs,kv,dd⟩:=gP I.hok hg1;obtain⟨f0,f1,f2,f3,f4,f5⟩:=hf it (by simp);have hl:=kv.length
  have ne:a≠it:=fun q=>by rw[q,f0] at hg1;cases hg1
  have W:=Walks.dictKeys (prog:=X.prog) (w:=X.w) (knd:=bq X.prog X.w) (I.ok.hd hc) it a ne vs (gC o);refine W.done s _ _ ⟨by rw[←hl,←hg2];rw[←hg2] at st;exact st,dd⟩ fun h' tk kk=>⟨rfl,I.turned (fun b o hb e=>kk b o (by simpa using hb) e) f0 f1 f3 f4 f5⟩
 self:=fun _ _ _ _ _ st h=>wpAny_pyIter_keyiter st h
inductive W where
 |d (x:PyData)|tp (i:Nat)|loc (x:PyData)
abbrev Tp:=List (List PyData)
abbrev Rho:=List (Option W)
noncomputable def bnd{α β:Type}(o:Option (α×Tp))(k:α->Tp->Option β):Option β:=match o with
 |some (a,T)=>k a T
 |none=>none
theorem aJ{α β:Type}{o:Option (α×Tp)}{k:α->Tp->Option β}{b:β}(h:bnd o k=some b):∃a T,o=some (a,T)/\k a T=some b:=by
 cases o with
 |none=>cases h
 |some p=>exact⟨p.1,p.2,rfl,h⟩
def cQ:Key->PyData
 |.inl i=>.int i
 |.inr x=>.str x
def TupAt(K:Frag)(O:Addr->Prop)(H:Hp)(a:Addr)(vs:List V):Prop:=(¬O a/\Rd H a (.tup vs))\/SqT K (fun _=>none) a vs
def LstAt(K:Frag)(O:Addr->Prop)(H:Hp)(a:Addr)(vs:List V):Prop:=(¬O a/\Rd H a (.lst vs))\/SqL K (fun _=>none) a vs
theorem Cy{K:Frag}{H:Hp}{a:Addr}{vs:List V}(h:SqT K (fun _=>none) a vs):SqT K H a vs:=by
 rcases h with(h|⟨o,h⟩)|h
 .cases h
 .cases h
 .exact .inr h
theorem Cz{K:Frag}{H:Hp}{a:Addr}{vs:List V}(h:SqL K (fun _=>none) a vs):SqL K H a vs:=by
 rcases h with(h|⟨o,h⟩)|h
 .cases h
 .cases h
 .exact .inr h
theorem TupAt.sq{K:Frag}{O:Addr->Prop}{H:Hp}{a:Addr}{vs:List V}(h:TupAt K O H a vs):SqT K H a vs:=by
 rcases h with h|h
 .exact .inl h.2
 .exact Cy h
theorem LstAt.sq{K:Frag}{O:Addr->Prop}{H:Hp}{a:Addr}{vs:List V}(h:LstAt K O H a vs):SqL K H a vs:=by
 rcases h with h|h
 .exact .inl h.2
 .exact Cz h
mutual
inductive Rep(K:Frag)(O:Addr->Prop)(H:Hp):V->PyData->Prop where
 |non:Rep K O H .non .none
 |bl (b:Bool):Rep K O H (.bl b) (.bool b)
 |int (i:Int):Rep K O H (.int i) (.int i)
 |str (x:Str):Rep K O H (.str x) (.str x)
 |tup {a:Addr}{vs:List V}{ds:List PyData}:TupAt K O H a vs->Reps K O H vs ds->Rep K O H (.ref a) (.tuple ds)
 |lst {a:Addr}{vs:List V}{ds:List PyData}:LstAt K O H a vs->Reps K O H vs ds->Rep K O H (.ref a) (.list ds)
 |dct {a:Addr}{o:Obj}{kvs:List (Key×V)}{ds:List (PyData×PyData)}:¬O a->H a=some (.frz o (.dK kvs))->RepK K O H kvs ds->Rep K O H (.ref a) (.dict ds)
inductive Reps(K:Frag)(O:Addr->Prop)(H:Hp):List V->List PyData->Prop where
 |nil:Reps K O H [] []
 |cons {v:V}{d:PyData}{vs:List V}{ds:List PyData}:Rep K O H v d->Reps K O H vs ds->Reps K O H (v::vs) (d::ds)
inductive RepK(K:Frag)(O:Addr->Prop)(H:Hp):List (Key×V)->List (PyData×PyData)->Prop where
 |nil:RepK K O H [] []
 |cons {k:Key}{v:V}{d:PyData}{kvs:List (Key×V)}{ds:List (PyData×PyData)}:Rep K O H v d->RepK K O H kvs ds->RepK K O H ((k,v)::kvs) ((cQ k,d)::ds)
end
def Le(O:Addr->Prop)(H:Hp)(O':Addr->Prop)(H':Hp):Prop:=∀a o,¬O a->H a=some o->¬O' a/\H' a=some o
theorem Le.trans{O O1 O2:Addr->Prop}{H H1 H2:Hp}(h:Le O H O1 H1)(g:Le O1 H1 O2 H2):Le O H O2 H2:=fun a o n e=>let ⟨n1,e1⟩:=h a o n e;g a o n1 e1
theorem TupAt.mono{K:Frag}{O O':Addr->Prop}{H H':Hp}(h:Le O H O' H'){a:Addr}{vs:List V}(t:TupAt K O H a vs):TupAt K O' H' a vs:=by
 rcases t with⟨n,t|⟨o,t⟩⟩|t
 .exact .inl ⟨(h _ _ n t).1,.inl (h _ _ n t).2⟩
 .exact .inl ⟨(h _ _ n t).1,.inr ⟨o,(h _ _ n t).2⟩⟩
 .exact .inr t
theorem LstAt.mono{K:Frag}{O O':Addr->Prop}{H H':Hp}(h:Le O H O' H'){a:Addr}{vs:List V}(t:LstAt K O H a vs):LstAt K O' H' a vs:=by
 rcases t with⟨n,t|⟨o,t⟩⟩|t
 .exact .inl ⟨(h _ _ n t).1,.inl (h _ _ n t).2⟩
 .exact .inl ⟨(h _ _ n t).1,.inr ⟨o,(h _ _ n t).2⟩⟩
 .exact .inr t
mutual
theorem Rep.mono{K:Frag}{O O':Addr->Prop}{H H':Hp}(e:Le O H O' H'):∀{v:V}{d:PyData},Rep K O H v d->Rep K O' H' v d
 |_,_,.non=>.non
 |_,_,.bl b=>.bl b
 |_,_,.int i=>.int i
 |_,_,.str x=>.str x
 |_,_,.tup t r=>.tup (t.mono e) (Reps.mono e r)
 |_,_,.lst t r=>.lst (t.mono e) (Reps.mono e r)
 |_,_,.dct n h r=>.dct (e _ _ n h).1 (e _ _ n h).2 (RepK.mono e r)
theorem Reps.mono{K:Frag}{O O':Addr->Prop}{H H':Hp}(e:Le O H O' H'):∀{vs:List V}{ds:List PyData},Reps K O H vs ds->Reps K O' H' vs ds
 |_,_,.nil=>.nil
 |_,_,.cons r t=>.cons (Rep.mono e r) (Reps.mono e t)
theorem RepK.mono{K:Frag}{O O':Addr->Prop}{H H':Hp}(e:Le O H O' H'):∀{vs:List (Key×V)}{ds:List (PyData×PyData)},RepK K O H vs ds->RepK K O' H' vs ds
 |_,_,.nil=>.nil
 |_,_,.cons r t=>.cons (Rep.mono e r) (RepK.mono e t)
end
section
variable {K:Frag}{O:Addr->Prop}{H:Hp}
theorem Reps.length:∀{vs:List V}{ds:List PyData},Reps K O H vs ds->vs.length=ds.length
 |_,_,.nil=>rfl
 |_,_,.cons _ t=>congrArg (· + 1) (Reps.length t)
theorem Reps.get:∀{vs:List V}{ds:List PyData}{i:Nat}{v:V},Reps K O H vs ds->vs[i]? = some v->∃d,ds[i]? = some d/\Rep K O H v d
 |_,_,_,_,.nil,e=>by simp at e
 |_,_,0,_,.cons r _,e=>by simp at e;subst e;exact⟨_,rfl,r⟩
 |_,_,i+1,v,.cons _ t,e=>by
  obtain⟨d,h1,h2⟩:=Reps.get (i:=i) (v:=v) t (by simpa using e);exact⟨d,by simpa using h1,h2⟩
theorem Reps.getD:∀{vs:List V}{ds:List PyData}{i:Nat}{d:PyData},Reps K O H vs ds->ds[i]? = some d->∃v,vs[i]? = some v/\Rep K O H v d
 |_,_,_,_,.nil,e=>by simp at e
 |_,_,0,_,.cons r _,e=>by simp at e;subst e;exact⟨_,rfl,r⟩
 |_,_,i+1,v,.cons _ t,e=>by
  obtain⟨d,h1,h2⟩:=Reps.getD (i:=i) (d:=v) t (by simpa using e);exact⟨d,by simpa using h1,h2⟩
theorem Reps.append{ws:List V}{es:List PyData}:∀{vs:List V}{ds:List PyData},Reps K O H vs ds->Reps K O H ws es->Reps K O H (vs++ws) (ds++es)
 |_,_,.nil,r=>r
 |_,_,.cons q t,r=>.cons q (Reps.append t r)
theorem Reps.take:∀{vs:List V}{ds:List PyData} (n:Nat),Reps K O H vs ds->Reps K O H (vs.take n) (ds.take n)
 |_,_,0,_=>.nil
 |_,_,_+1,.nil=>.nil
 |_,_,n+1,.cons r t=>.cons r (Reps.take n t)
theorem Reps.drop:∀{vs:List V}{ds:List PyData} (n:Nat),Reps K O H vs ds->Reps K O H (vs.drop n) (ds.drop n)
 |_,_,0,r=>r
 |_,_,_+1,.nil=>.nil
 |_,_,n+1,.cons _ t=>Reps.drop n t
theorem Reps.rep{vs:List V}{ds:List PyData}(r:Reps K O H vs ds):∀n:Nat,Reps K O H (List.replicate n vs).flatten (List.replicate n ds).flatten
 |0=>.nil
 |n+1=>by
  rw[List.replicate_succ,List.replicate_succ,List.flatten_cons,List.flatten_cons];exact r.append (r.rep n)
end
def SameX(ts:List Addr)(H H':Hp):Prop:=∀b o,b∉ts->H b=some o->H' b=some o
theorem SameX.refl(ts:List Addr)(H:Hp):SameX ts H H:=fun _ _ _ h=>h
theorem SameX.trans{ts:List Addr}{H H1 H2:Hp}(a:SameX ts H H1)(b:SameX ts H1 H2):SameX ts H H2:=fun c o n h=>b c o n (a c o n h)
theorem SameX.new{ts:List Addr}{H:Hp}{p:Addr}(h:H p=none)(o:HO):SameX ts H (upd H p o):=fun b u _ q=>by rw[aP (dt q h)];exact q
def Mut(o:Option HO):Prop:=(∃vs,o=some (.lst vs))\/(∃kvs,o=some (.dK kvs))\/∃C dx fs,o=some (.ins C dx fs)
theorem Mut.ex{o:Option HO}(h:Mut o):∃u,o=some u:=by rcases h with⟨vs,e⟩|⟨vs,e⟩|⟨C,dx,fs,e⟩ <;> exact⟨_,e⟩
theorem Mut.to{o o':Option HO}(h:Mut o)(k:∀u,o=some u->o'=some u):Mut o':=by
 rcases h with⟨vs,e⟩|⟨vs,e⟩|⟨C,dx,fs,e⟩
 .exact .inl ⟨vs,k _ e⟩
 .exact .inr (.inl ⟨vs,k _ e⟩)
 .exact .inr (.inr ⟨C,dx,fs,k _ e⟩)
def Fd(C:Addr):PyData:=.dict [(.none,.int (C:Int))]
def isO:List PyData->Bool
 |.dict [(.none,_)]::_=>true
 |_=>false
def pairF(p:Str×PyData):PyData:=.tuple [.str p.1,p.2]
inductive RepF(K:Frag)(O:Addr->Prop)(H:Hp):List (Str×V)->List (Str×PyData)->Prop where
 |nil:RepF K O H [] []
 |cons {n:Str}{v:V}{d:PyData}{vs:List (Str×V)}{ds:List (Str×PyData)}:Rep K O H v d->RepF K O H vs ds->RepF K O H ((n,v)::vs) ((n,d)::ds)
theorem RepF.mono{K:Frag}{O O':Addr->Prop}{H H':Hp}(e:Le O H O' H'){vs:List (Str×V)}{ds:List (Str×PyData)}(r:RepF K O H vs ds):RepF K O' H' vs ds:=by
 induction r with
 |nil=>exact .nil
 |cons r _ ih=>exact .cons (Rep.mono e r) ih
def RowAt(K:Frag)(O:Addr->Prop)(H:Hp)(a:Addr)(xs:List PyData):Prop:=(isO xs=false/\∃vs,H a=some (.lst vs)/\Reps K O H vs xs)\/∃C dx fs fd,H a=some (.ins C dx fs)/\xs=Fd C::fd.map pairF/\RepF K O H fs fd
theorem RowAt.mono{K:Frag}{O O':Addr->Prop}{H H':Hp}{a:Addr}{xs:List PyData}(h:RowAt K O H a xs)(k:∀o,H a=some o->H' a=some o)(l:Le O H O' H'):RowAt K O' H' a xs:=by
 rcases h with⟨n,vs,h1,h2⟩|⟨C,dx,fs,fd,h1,h2,h3⟩
 .exact .inl ⟨n,vs,k _ h1,h2.mono l⟩
 .exact .inr ⟨C,dx,fs,fd,k _ h1,h2,h3.mono l⟩
theorem RowAt.lst{K:Frag}{O:Addr->Prop}{H:Hp}{a:Addr}{xs:List PyData}(h:RowAt K O H a xs)(n:isO xs=false):∃vs,H a=some (.lst vs)/\Reps K O H vs xs:=by
 rcases h with⟨_,h⟩|⟨C,dx,fs,fd,h1,h2,h3⟩
 .exact h
 .rw[h2] at n
  cases n
structure HC(K:Frag)(O:Addr->Prop)(ts:List Addr)(H:Hp)(T:Tp):Prop where
 own:∀b∈ts,O b
 trk:∀b,O b->Mut (H b)
 nd:ts.Nodup
 len:ts.length=T.length
 tape:∀(i:Nat) (a:Addr) (xs:List PyData),ts[i]? = some a->T[i]? = some xs->RowAt K O H a xs
section
variable {K:Frag}{O:Addr->Prop}{ts:List Addr}{H H':Hp}{T:Tp}
theorem HC.le(c:HC K O ts H T)(s:SameX ts H H'):Le O H O H':=fun a o n e=>⟨n,s a o (fun z=>n (c.own a z)) e⟩
theorem HC.step(c:HC K O ts H T)(s:SameX ts H H')(t:∀b∈ts,H' b=H b):HC K O ts H' T where
 own:=c.own
 trk:=fun b hb=>by
  by_cases z:b∈ts
  .rw[t b z];exact c.trk b hb
  .exact(c.trk b hb).to fun u e=>s b _ z e
 nd:=c.nd
 len:=c.len
 tape:=fun i a xs e1 e2=>by
  exact(c.tape i a xs e1 e2).mono (fun o h1=>by rw[t a (List.mem_of_getElem? e1)];exact h1) (c.le s)
theorem HC.fresh(c:HC K O ts H T){p:Addr}(h:H p=none):¬O p:=fun z=>by
 obtain⟨u,e⟩:=(c.trk p z).ex;rw[h] at e;cases e
theorem HC.new(c:HC K O ts H T){p:Addr}(h:H p=none)(o:HO):HC K O ts (upd H p o) T:=c.step (.new h o) fun b hb=>aP fun z=>c.fresh h (z ▸ c.own b hb)
theorem HC.leNew(c:HC K O ts H T){p:Addr}(h:H p=none)(o:HO):Le O H O (upd H p o):=c.le (.new h o)
theorem HC.newT(c:HC K O ts H T){p:Addr}(h:H p=none){vs:List V}{ds:List PyData}(r:Reps K O H vs ds):Rep K O (upd H p (.tup vs)) (.ref p) (.tuple ds):=.tup (.inl ⟨c.fresh h,.inl bC⟩) (r.mono (c.leNew h _))
theorem HC.newL(c:HC K O ts H T){p:Addr}(h:H p=none){vs:List V}{ds:List PyData}(r:Reps K O H vs ds):Rep K O (upd H p (.lst vs)) (.ref p) (.list ds):=.lst (.inl ⟨c.fresh h,.inl bC⟩) (r.mono (c.leNew h _))
end
inductive Vw(K:Frag)(O:Addr->Prop)(H:Hp):V->PyData->Prop where
 |rep {v:V}{x:PyData}:Rep K O H v x->Vw K O H v x
 |raw {a:Addr}{vs:List V}{xs:List PyData}:H a=some (.lst vs)->Reps K O H vs xs->Vw K O H (.ref a) (.list xs)
 |rawD {a:Addr}{kvs:List (Key×V)}{ds:List (PyData×PyData)}:H a=some (.dK kvs)->RepK K O H kvs ds->Vw K O H (.ref a) (.dict ds)
section
variable {K:Frag}{O:Addr->Prop}{H:Hp}{v:V}
theorem Vw.int{i:Int}(h:Vw K O H v (.int i)):v=.int i:=by cases h with|rep h=>cases h;rfl
theorem Vw.str{x:Str}(h:Vw K O H v (.str x)):v=.str x:=by cases h with|rep h=>cases h;rfl
theorem Vw.bl{b:Bool}(h:Vw K O H v (.bool b)):v=.bl b:=by cases h with|rep h=>cases h;rfl
theorem Vw.non(h:Vw K O H v .none):v=.non:=by cases h with|rep h=>cases h;rfl
theorem Vw.tup{ds:List PyData}(h:Vw K O H v (.tuple ds)):∃a vs,v=.ref a/\TupAt K O H a vs/\Reps K O H vs ds:=by cases h with|rep h=>cases h with|tup t r=>exact⟨_,_,rfl,t,r⟩
theorem Vw.tupR{ds:List PyData}(h:Vw K O H v (.tuple ds)):Rep K O H v (.tuple ds):=by cases h with|rep h=>exact h
theorem Vw.lst{ds:List PyData}(h:Vw K O H v (.list ds)):∃a vs,v=.ref a/\SqL K H a vs/\Reps K O H vs ds:=by
 cases h with
 |rep h=>cases h with|lst t r=>exact⟨_,_,rfl,t.sq,r⟩
 |raw h r=>exact⟨_,_,rfl,SqL.of h,r⟩
theorem Vw.dct{ds:List (PyData×PyData)}(h:Vw K O H v (.dict ds)):∃a kvs,v=.ref a/\Rd H a (.dK kvs)/\RepK K O H kvs ds:=by
 cases h with
 |rep h=>cases h with|dct n t r=>exact⟨_,_,rfl,.inr ⟨_,t⟩,r⟩
 |rawD t r=>exact⟨_,_,rfl,.inl t,r⟩
end
def OwnAt(K:Frag)(O:Addr->Prop)(H:Hp)(a:Addr):PyData->Prop
 |.list xs=>∃vs,H a=some (.lst vs)/\Reps K O H vs xs
 |.dict ds=>∃kvs,H a=some (.dK kvs)/\RepK K O H kvs ds
 |_=>False
theorem OwnAt.mono{K:Frag}{O O':Addr->Prop}{H H':Hp}{a:Addr}{x:PyData}(h:OwnAt K O H a x)(k:∀o,H a=some o->H' a=some o)(l:Le O H O' H'):OwnAt K O' H' a x:=by
 cases x with
 |list xs=>obtain⟨vs,h1,h2⟩:=h;exact⟨vs,k _ h1,h2.mono l⟩
 |dict ds=>obtain⟨vs,h1,h2⟩:=h;exact⟨vs,k _ h1,h2.mono l⟩
 |_=>cases h
theorem OwnAt.some{K:Frag}{O:Addr->Prop}{H:Hp}{a:Addr}{x:PyData}(h:OwnAt K O H a x):∃o,H a=some o:=by
 cases x with
 |list xs=>obtain⟨vs,h1,h2⟩:=h;exact⟨_,h1⟩
 |dict ds=>obtain⟨vs,h1,h2⟩:=h;exact⟨_,h1⟩
 |_=>cases h
def RepW(K:Frag)(O:Addr->Prop)(ts:List Addr)(H:Hp)(v:V):W->Prop
 |.d x=>Rep K O H v x
 |.tp i=>∃a,ts[i]? = some a/\v=.ref a
 |.loc x=>∃a,v=.ref a/\O a/\a∉ts/\OwnAt K O H a x
def i2(xs:List PyData):Option PyData:=if isO xs=true then none else some (.list xs)
noncomputable def view(T:Tp):W->Option PyData
 |.d x=>some x
 |.tp i=>(T[i]?).bind i2
 |.loc (.list xs)=>some (.list xs)
 |.loc (.dict ds)=>some (.dict ds)
 |.loc _=>none
noncomputable def views(T:Tp):List W->Option (List PyData)
 |[]=>some []
 |w::r=>match view T w with
  | some x=>(match views T r with
   |some xs=>some (x::xs)
   | none=>none)
  |none=>none
def gx(K:Frag)(O:Addr->Prop)(ts:List Addr)(H:Hp):List V->List W->Prop:=Paired fun v w=>RepW K O ts H v w
def Vws(K:Frag)(O:Addr->Prop)(H:Hp):List V->List PyData->Prop:=Paired fun v x=>Vw K O H v x
def RelE(K:Frag)(O:Addr->Prop)(ts:List Addr)(H:Hp)(σ:L2.St)(ρ:Rho):Prop:=∀(i:Nat) (w:W),ρ[i]? = some (some w)->∃v,σ[i]? = some (some v)/\RepW K O ts H v w
section
variable {K:Frag}{O:Addr->Prop}{ts:List Addr}{H H':Hp}{T:Tp}{v:V}{w:W}
theorem RepW.mono(r:RepW K O ts H v w)(c:HC K O ts H T)(s:SameX ts H H'):RepW K O ts H' v w:=by
 cases w with
 |d x=>exact Rep.mono (c.le s) r
 |tp i=>exact r
 |loc xs=>
  obtain⟨a,e,h1,h2,h3⟩:=r;exact⟨a,e,h1,h2,h3.mono (fun o q=>s _ _ h2 q) (c.le s)⟩
theorem RelE.mono{σ:L2.St}{ρ:Rho}(r:RelE K O ts H σ ρ)(c:HC K O ts H T)(s:SameX ts H H'):RelE K O ts H' σ ρ:=fun i w e=>
 let ⟨v,h1,h2⟩:=r i w e;⟨v,h1,h2.mono c s⟩
theorem HC.view(c:HC K O ts H T){x:PyData}(r:RepW K O ts H v w)(e:view T w=some x):Vw K O H v x:=by
 cases w with
 |d y=>cases e;exact .rep r
 |tp i=>
  obtain⟨a,h1,rfl⟩:=r;have e':(T[i]?).bind i2=some x:=e
  cases ht:T[i]? with
  |none=>rw[ht] at e';cases e'
  |some xs=>
   rw[ht] at e';have e2:(if isO xs=true then none else some (PyData.list xs))=some x:=e';split at e2
   .cases e2
   .rename_i hn
    cases e2;obtain⟨vs,h2,h3⟩:=(c.tape i a xs h1 ht).lst (by simpa using hn);exact .raw h2 h3
 |loc xs=>
  obtain⟨a,rfl,_,_,h3⟩:=r
  cases xs with
  |list xs=>cases e;obtain⟨vs,h1,h2⟩:=h3;exact .raw h1 h2
  |dict ds=>cases e;obtain⟨vs,h1,h2⟩:=h3;exact .rawD h1 h2
  |_=>cases h3
theorem HC.views(c:HC K O ts H T):∀{vs:List V}{ws:List W}{xs:List PyData},gx K O ts H vs ws->views T ws=some xs->Vws K O H vs xs
 |_,[],xs,.nil,e=>by cases e;exact .nil
 |_,w::r,xs,.cons h t,e=>by
  unfold D.views at e;split at e
  .rename_i x h1
   split at e
   .rename_i ys h2
    cases e;exact .cons (c.view h h1) (HC.views c t h2)
   .cases e
  .cases e
end
def noStar:Expr->Bool
 |.Starred _ _=>false
 |_=>true
theorem a8{e:Expr}{es:List Expr}{env:Env}(h:noStar e=true):starEach (e::es) env=(false,eval e env)::starEach es env:=by cases e <;> first|rfl|cases h
theorem nv{e:Expr}{env:Env}(h:noStar e=true):starEach [e] env=[(false,eval e env)]:=a8 h
theorem bQ{env:Env}{pos:Pos}:∀{es:List Expr},es.all noStar=true->(backTo pos (starEach es env)).any (·.1)=false
 |[],_=>rfl
 |e::r,h=>by
  rw[List.all_cons,Bool.and_eq_true] at h;rw[a8 h.1];show (false||(backTo pos (starEach r env)).any (·.1))=false;rw[bQ h.2];rfl
theorem yP{e:Expr}{es:List Expr}{env:Env}{pos:Pos}(h:noStar e=true):backTo pos (starEach (e::es) env)=(false,eval e env)::backTo pos (starEach es env):=by
 rw[a8 h];rfl
theorem mx{e:Expr}{env:Env}{cpos:Pos}(h:noStar e=true):((backTo cpos (starEach [e] env)).all (fun x=>!x.1)&&(backToKw cpos (keywordEach [] env)).all (fun x=>x.1.isSome)
   && decide (([e]:List Expr).length+([]:List Keyword).length+(if ([]:List Keyword).isEmpty then 0 else 1)<30))=true:=by
 rw[nv h];rfl
abbrev FE:=Rho->Tp->Option (W×Tp)
abbrev FT:=Rho->Tp->Option (Bool×Tp)
abbrev FA:=Rho->Tp->Option (List W×Tp)
inductive LiftP(K:Frag)(f:FE)(σ:L2.St)(H:Hp)(Q:VK):Prop where
 |mk (O:Addr->Prop) (ts:List Addr) (ρ:Rho) (T:Tp) (w:W) (T':Tp) (hc:HC K O ts H T) (re:RelE K O ts H σ ρ) (e:f ρ T=some (w,T')) (q:∀v H',SameX ts H H'->HC K O ts H' T'->RepW K O ts H' v w->Q v H'):LiftP K f σ H Q
def lift(K:Frag)(f:FE):TE:=fun σ H Q=>LiftP K f σ H Q
inductive LiftTP(K:Frag)(f:FT)(σ:L2.St)(H:Hp)(Q:Bool->Hp->Prop):Prop where
 |mk (O:Addr->Prop) (ts:List Addr) (ρ:Rho) (T:Tp) (b:Bool) (T':Tp) (hc:HC K O ts H T) (re:RelE K O ts H σ ρ) (e:f ρ T=some (b,T')) (q:∀H',SameX ts H H'->HC K O ts H' T'->Q b H'):LiftTP K f σ H Q
def liftT(K:Frag)(f:FT):TT:=fun σ H Q=>LiftTP K f σ H Q
inductive LiftAP(K:Frag)(f:FA)(σ:L2.St)(H:Hp)(Q:List V->Hp->Prop):Prop where
 |mk (O:Addr->Prop) (ts:List Addr) (ρ:Rho) (T:Tp) (ws:List W) (T':Tp) (hc:HC K O ts H T) (re:RelE K O ts H σ ρ) (e:f ρ T=some (ws,T')) (q:∀vs H',SameX ts H H'->HC K O ts H' T'->gx K O ts H' vs ws->Q vs H'):LiftAP K f σ H Q
def vZ(K:Frag)(f:FA):TA:=fun σ H Q=>LiftAP K f σ H Q
structure DE(X:Cx)(e:Expr)(f:FE):Prop where
 pe:PE X e (lift X.K f)
structure DT(X:Cx)(e:Expr)(f:FT):Prop where
 pe:PT X e (liftT X.K f)
structure DW(X:Cx)(e:Expr)(f:FT):Prop where
 pe:PW X e (liftT X.K f)
structure DA(X:Cx)(es:List Expr)(f:FA):Prop where
 pe:PA X es (vZ X.K f)
theorem bj{X:Cx}{e:Expr}{t t':TE}(h:PE X e t)(i:∀σ H Q,t' σ H Q->t σ H Q):PE X e t':=fun pins s σ H Q I q=>h pins s σ H Q I (i σ H Q q)
theorem lA{X:Cx}{e:Expr}{t t':TT}(h:PT X e t)(i:∀σ H Q,t' σ H Q->t σ H Q):PT X e t':=fun pins s σ H Q I q=>h pins s σ H Q I (i σ H Q q)
theorem uG{X:Cx}{e:Expr}{t t':TT}(h:PW X e t)(i:∀σ H Q,t' σ H Q->t σ H Q):PW X e t':=fun wh pins s σ H Q I q=>h wh pins s σ H Q I (i σ H Q q)
theorem uM{X:Cx}{e:List Expr}{t t':TA}(h:PA X e t)(i:∀σ H Q,t' σ H Q->t σ H Q):PA X e t':=fun po pins s σ H Q I q=>h po pins s σ H Q I (i σ H Q q)
def aa(i:Nat):FE:=fun ρ T=>match ρ[i]? with
 |some (some w)=>some (w,T)
 |_=>none
noncomputable def fC(x:PyData):FE:=fun _ T=>some (.d x,T)
section
variable {X:Cx}{pos:Pos}
theorem af(i:Nat){x:Str}(hN:X.N[i]? = some x:=by rfl)(hv:Vis X.env.scope x:=by first|exact Or.inl rfl|exact Or.inr (Or.inl rfl)|exact Or.inr (Or.inr rfl))(hd:(x == ("__debug__" : Str))=false:=by decide)
  (hcd:(x == ("__classdict__" : Str))=false:=by decide):DE X (.Name x pos) (aa i):=by
 refine⟨?_⟩;refine bj (pv i hN hv hd hcd) fun σ H Q=>?_;rintro⟨O,ts,ρ,T,w,T',hc,re,e,q⟩;unfold aa at e;split at e
 .rename_i w' he
  cases e;obtain⟨v,h1,h2⟩:=re i _ he;exact⟨v,h1,q v H (.refl _ _) hc h2⟩
 .cases e
theorem gY{x:PyData}{v:V}(h:∀O H,Rep X.K O H v x):∀σ H Q,lift X.K (fC x) σ H Q->tC v σ H Q:=by
 rintro σ H Q ⟨O,ts,ρ,T,w,T',hc,re,e,q⟩;cases e;exact q v H (.refl _ _) hc (h O H)
theorem aj{i j}:DE X (.Constant (.int i) j pos) (fC (.int i)):=⟨bj CZ (gY fun _ _=>.int i)⟩
theorem gu{i j}:DE X (.Constant (.bool i) j pos) (fC (.bool i)):=⟨bj Ej (gY fun _ _=>.bl i)⟩
theorem aq{i j}:DE X (.Constant (.str i) j pos) (fC (.str i)):=⟨bj CV (gY fun _ _=>.str i)⟩
theorem eg{j}:DE X (.Constant .none j pos) (fC .none):=⟨bj uK (gY fun _ _=>.non)⟩
theorem jw{x:Str}{i:Int}(hg:Gl X x)(hm:∃t,X.mg x=some (.int i t))(hd:(x == ("__debug__" : Str))=false:=by decide):DE X (.Name x pos) (fC (.int i)):=by
 refine⟨?_⟩;obtain⟨t,hm⟩:=hm;exact bj (nU (v:=.int i) hg hm ⟨t,rfl⟩ hd) (gY fun _ _=>.int i)
theorem sV{x:Str}{i:Str}(hg:Gl X x)(hm:∃t,X.mg x=some (.str i t))(hd:(x == ("__debug__" : Str))=false:=by decide):DE X (.Name x pos) (fC (.str i)):=by
 refine⟨?_⟩;obtain⟨t,hm⟩:=hm;exact bj (nU (v:=.str i) hg hm ⟨t,rfl⟩ hd) (gY fun _ _=>.str i)
end
def op1(g:PyData->Option PyData)(T:Tp)(w:W):Option (W×Tp):=match view T w with
 |some x=>match g x with
  |some d=>some (.d d,T)
  |none=>none
 |none=>none
def op2(g:PyData->PyData->Option PyData)(T:Tp)(w1 w2:W):Option (W×Tp):=match view T w1,view T w2 with
 |some x,some y=>match g x y with
  |some d=>some (.d d,T)
  |none=>none
 |_,_=>none
theorem jK{g:PyData->Option PyData}{T T':Tp}{w1 w:W}(e:op1 g T w1=some (w,T')):∃x d,view T w1=some x/\g x=some d/\w=.d d/\T'=T:=by
 unfold op1 at e;split at e
 .rename_i x h1
  split at e
  .rename_i d h3
   cases e;exact⟨x,d,h1,h3,rfl,rfl⟩
  .cases e
 .cases e
theorem jJ{g:PyData->PyData->Option PyData}{T T':Tp}{w1 w2 w:W}(e:op2 g T w1 w2=some (w,T')):∃x y d,view T w1=some x/\view T w2=some y/\g x y=some d/\w=.d d/\T'=T:=by
 unfold op2 at e;split at e
 .rename_i x y h1 h2
  split at e
  .rename_i d h3
   cases e;exact⟨x,y,d,h1,h2,h3,rfl,rfl⟩
  .cases e
 .cases e
def ag(g:PyData->PyData->Option PyData)(fa fb:FE):FE:=fun ρ T=>bnd (fa ρ T) fun w1 T1=>bnd (fb ρ T1) fun w2 T2=>op2 g T2 w1 w2
def fUn(g:PyData->Option PyData)(fa:FE):FE:=fun ρ T=>bnd (fa ρ T) fun w1 T1=>op1 g T1 w1
def gD(K:Frag)(r:R2)(g:PyData->PyData->Option PyData):Prop:=∀(O:Addr->Prop) (ts:List Addr) (H:Hp) (T:Tp) (v1 v2:V) (x y d:PyData) (Q:VK),HC K O ts H T->Vw K O H v1 x->Vw K O H v2 y->g x y=some d ->
 (∀v H',SameX ts H H'->HC K O ts H' T->Rep K O H' v d->Q v H')->r v1 v2 H Q
def FZ(K:Frag)(r:V->Hp->VK->Prop)(g:PyData->Option PyData):Prop:=∀(O:Addr->Prop) (ts:List Addr) (H:Hp) (T:Tp) (v1:V) (x d:PyData) (Q:VK),HC K O ts H T->Vw K O H v1 x->g x=some d ->
 (∀v H',SameX ts H H'->HC K O ts H' T->Rep K O H' v d->Q v H')->r v1 H Q
def OpD(X:Cx)(f:Value->Value->Sem Value)(g:PyData->PyData->Option PyData):Prop:=∃r,OpR X f r/\gD X.K r g
def IxD(X:Cx)(g:PyData->PyData->Option PyData):Prop:=∃r,IxR X r/\gD X.K r g
theorem lc{K:Frag}{r:R2}{g:PyData->PyData->Option PyData}{fa fb:FE}(snd:gD K r g){σ:L2.St}{H:Hp}{Q:VK}(h:lift K (ag g fa fb) σ H Q):tOp r (lift K fa) (lift K fb) σ H Q:=by
 obtain⟨O,ts,ρ,T,w,T',hc,re,e,q⟩:=h;obtain⟨w1,T1,e1,e⟩:=aJ e;obtain⟨w2,T2,e2,e⟩:=aJ e;obtain⟨x,y,d,h1,h2,h3,rfl,rfl⟩:=jJ e;refine⟨O,ts,ρ,T,w1,T1,hc,re,e1,fun v1 H1 s1 hc1 r1=>?_⟩;refine⟨O,ts,ρ,T1,w2,T',hc1,re.mono hc s1,e2,fun v2 H2 s2 hc2 r2=>?_⟩;exact snd O ts H2 T' v1 v2 x y d Q hc2 (hc2.view (r1.mono hc1 s2) h1) (hc2.view r2 h2) h3 fun v H' s3 hc3 r3=>q v H' (s1.trans (s2.trans s3)) hc3 r3
noncomputable def asB:W->Option Bool
 |.d (.bool b)=>some b
 |_=>none
theorem lR{w:W}{b:Bool}(h:asB w=some b):w=.d (.bool b):=by
 unfold asB at h;split at h
 .cases h;rfl
 .cases h
def aC(f:FE):FT:=fun ρ T=>bnd (f ρ T) fun w T1=>match asB w with
 |some b=>some (b,T1)
 |none=>none
theorem tq{K:Frag}{f:FE}{σ:L2.St}{H:Hp}{Q:Bool->Hp->Prop}(h:liftT K (aC f) σ H Q):lift K f σ H fun x H'=>∃k,x=.bl k/\Q k H':=by
 obtain⟨O,ts,ρ,T,w,T',hc,re,e,q⟩:=h;obtain⟨w1,T1,e1,e⟩:=aJ e;refine⟨O,ts,ρ,T,w1,T1,hc,re,e1,fun v1 H1 s1 hc1 r1=>?_⟩;split at e
 .rename_i b hb
  cases e;have hw:=lR hb;subst hw;cases (show Rep K O H1 v1 _ from r1);exact⟨_,rfl,q H1 s1 hc1⟩
 .cases e
section
variable {X:Cx}{pos:Pos}{a b c:Expr}{fa fb fc:FE}{g g':PyData->PyData->Option PyData}
theorem aF{op:Operator}(ho:OpD X (binaryOp op) g)(ha:DE X a fa)(hb:DE X b fb):DE X (.BinOp a op b pos) (ag g fa fb):=by
 refine⟨?_⟩;obtain⟨r,hr,snd⟩:=ho;exact bj (vO hr ha.pe hb.pe) fun σ H Q=>lc snd
theorem cI{op:CmpOp}(ho:OpD X (compareOp op) g)(ha:DE X a fa)(hb:DE X b fb)(hm:behindInMarks op b=false:=by first|exact uN _|with_unfolding_all rfl):DE X (.Compare a [op] [b] pos) (ag g fa fb):=by
 refine⟨?_⟩;obtain⟨r,hr,snd⟩:=ho;exact bj (Bp hr ha.pe hb.pe hm) fun σ H Q=>lc snd
theorem aM{op:CmpOp}(ho:OpD X (compareOp op) g)(ha:DE X a fa)(hb:DE X b fb)(hm:behindInMarks op b=false:=by first|exact uN _|with_unfolding_all rfl):DT X (.Compare a [op] [b] pos) (aC (ag g fa fb)):=by
 refine⟨?_⟩;obtain⟨r,hr,snd⟩:=ho;exact lA (Be hr ha.pe hb.pe hm) fun σ H Q h=>lc snd (tq h)
theorem ap(ho:IxD X g)(ha:DE X a fa)(hb:DE X b fb)(hs:uq b:=by exact fun _ _=>rfl):DE X (.Subscript a b pos) (ag g fa fb):=by
 refine⟨?_⟩;obtain⟨r,hr,snd⟩:=ho;exact bj (Ei hr ha.pe hb.pe hs) fun σ H Q=>lc snd
def dQ(g g':PyData->PyData->Option PyData)(fa fb fc:FE):FE:=fun ρ T=>bnd (fa ρ T) fun w1 T1=>bnd (fb ρ T1) fun w2 T2=>bnd (op2 g T2 w1 w2) fun w T3=>match asB w with
 |some b=>if b=true then bnd (fc ρ T3) fun w3 T4=>op2 g' T4 w2 w3 else some (.d (.bool false),T3)
 |none=>none
theorem rQ{K:Frag}{r r':R2}(snd:gD K r g)(snd':gD K r' g'){σ:L2.St}{H:Hp}{Q:VK}(h:lift K (dQ g g' fa fb fc) σ H Q):oI r r' (lift K fa) (lift K fb) (lift K fc) σ H Q:=by
 obtain⟨O,ts,ρ,T,w,T',hc,re,e,q⟩:=h;obtain⟨w1,T1,e1,e⟩:=aJ e;obtain⟨w2,T2,e2,e⟩:=aJ e;obtain⟨wz,T3,e3,ez⟩:=aJ e;obtain⟨x,y,d,h1,h2,h3,rfl,rfl⟩:=jJ e3;clear e;refine⟨O,ts,ρ,T,w1,T1,hc,re,e1,fun v1 H1 s1 hc1 r1=>?_⟩;refine⟨O,ts,ρ,T1,w2,T3,hc1,re.mono hc s1,e2,fun v2 H2 s2 hc2 r2=>?_⟩;refine snd O ts H2 T3 v1 v2 x y d _ hc2 (hc2.view (r1.mono hc1 s2) h1) (hc2.view r2 h2) h3 fun v H3 s3 hc3 r3=>?_;split at ez
 .rename_i b hb
  have hd:=lR hb
  injection hd with hd
  subst hd;cases r3
  cases b with
  |true=>
   rw[if_pos rfl] at ez;refine⟨true,rfl,gA ?_⟩;obtain⟨w3,T4,e4,e5⟩:=aJ ez;obtain⟨x',y',d',h1',h2',h3',rfl,rfl⟩:=jJ e5;refine⟨O,ts,ρ,T3,w3,T',hc3,(re.mono hc (s1.trans (s2.trans s3))),e4,fun v3 H4 s4 hc4 r4=>?_⟩;exact snd' O ts H4 T' v2 v3 x' y' d' Q hc4 (hc4.view (r2.mono hc2 (s3.trans s4)) h1') (hc4.view r4 h2') h3' fun v H' s5 hc5 r5=>q v H' (s1.trans (s2.trans (s3.trans (s4.trans s5)))) hc5 r5
  |false=>
   rw[if_neg Bool.false_ne_true] at ez;cases ez;exact⟨false,rfl,gB (q _ H3 (s1.trans (s2.trans s3)) hc3 (.bl false))⟩
 .cases ez
theorem sW{op op':CmpOp}(ho:OpD X (compareOp op) g)(ho':OpD X (compareOp op') g')(ha:DE X a fa)(hb:DE X b fb)(hc:DE X c fc)
  (hm:lastMarks [op,op'] [b,c]=false:=by with_unfolding_all rfl):DE X (.Compare a [op,op'] [b,c] pos) (dQ g g' fa fb fc):=by
 refine⟨?_⟩;obtain⟨r,hr,snd⟩:=ho;obtain⟨r',hr',snd'⟩:=ho';exact bj (Ad hr hr' ha.pe hb.pe hc.pe hm) fun σ H Q=>rQ snd snd'
theorem kN{op op':CmpOp}(ho:OpD X (compareOp op) g)(ho':OpD X (compareOp op') g')(ha:DE X a fa)(hb:DE X b fb)(hc:DE X c fc)
  (hm:lastMarks [op,op'] [b,c]=false:=by with_unfolding_all rfl):DT X (.Compare a [op,op'] [b,c] pos) (aC (dQ g g' fa fb fc)):=by
 refine⟨?_⟩;obtain⟨r,hr,snd⟩:=ho;obtain⟨r',hr',snd'⟩:=ho';exact lA (zY hr hr' ha.pe hb.pe hc.pe hm) fun σ H Q h=>rQ snd snd' (tq h)
def mq:PyData->Option Bool
 |.none=>some false
 |.bool b=>some b
 |.int i=>some (i != 0)
 |.str y=>if y.length<=sizeLine then some ((y.length:Int) != 0) else none
 |.list xs=>some (!xs.isEmpty)
 |.tuple xs=>some (!xs.isEmpty)
 |.dict _=>none
def mr(T:Tp)(w:W):Option (Bool×Tp):=match view T w with
 |some x=>match mq x with
  |some b=>some (b,T)
  |none=>none
 |none=>none
def aS(f:FE):FT:=fun ρ T=>bnd (f ρ T) fun w T1=>mr T1 w
theorem qz{K:Frag}{O:Addr->Prop}{H:Hp}{vs:List V}{ds:List PyData}(r:Reps K O H vs ds):vs.isEmpty=ds.isEmpty:=by cases r <;> rfl
theorem Cs{K:Frag}{O:Addr->Prop}{H:Hp}{v:V}{x:PyData}{b:Bool}(h:Vw K O H v x)(e:mq x=some b):pY K v H b:=by
 cases x with
 |none=>cases h.non;cases e;rfl
 |bool c=>cases h.bl;cases e;rfl
 |int i=>cases h.int;cases e;rfl
 |str y=>
  cases h.str;have e':(if y.length<=sizeLine then some ((y.length:Int) != 0) else none)=some b:=e;split at e'
  .rename_i hl
   cases e';exact⟨hl,rfl⟩
  .cases e'
 |list xs=>
  obtain⟨a,vs,rfl,h1,h2⟩:=h.lst;cases e;exact .inl ⟨vs,h1,by rw[qz h2]⟩
 |tuple xs=>
  obtain⟨a,vs,rfl,h1,h2⟩:=h.tup;cases e;exact .inr (.inl ⟨vs,h1.sq,by rw[qz h2]⟩)
 |dict kvs=>
  cases e
theorem bb(ha:DE X a fa)(he:∀whole,isTrue a X.env whole=(do let v ←whole;standAt a.pos;holding [v] (truthy v)):=by intro _;rfl):DT X a (aS fa):=by
 refine⟨?_⟩;refine lA (zX ha.pe he) fun σ H Q=>?_;rintro⟨O,ts,ρ,T,b,T',hc,re,e,q⟩;obtain⟨w1,T1,e1,e⟩:=aJ e;refine⟨O,ts,ρ,T,w1,T1,hc,re,e1,fun v1 H1 s1 hc1 r1=>?_⟩;unfold mr at e;split at e
 .rename_i x h1
  split at e
  .rename_i k h2
   cases e;exact⟨b,Cs (hc1.view r1 h1) h2,q H1 s1 hc1⟩
  .cases e
 .cases e
def cX(f g:FT):FT:=fun ρ T=>bnd (f ρ T) fun b T1=>if b=true then g ρ T1 else some (false,T1)
def dh(f g:FT):FT:=fun ρ T=>bnd (f ρ T) fun b T1=>if b=true then some (true,T1) else g ρ T1
def bL(f:FT):FT:=fun ρ T=>bnd (f ρ T) fun b T1=>some (!b,T1)
variable {ta tb:FT}{rest:List Expr}
theorem cB{f:FT}(h:DW X a f):DT X a f:=⟨PW.pt h.pe⟩
theorem fX(ha:DT X a ta):DW X (.BoolOp .And [a] pos) ta:=⟨Ba ha.pe⟩
theorem eK(ha:DT X a ta):DW X (.BoolOp .Or [a] pos) ta:=⟨CJ ha.pe⟩
theorem fu(ha:DT X a ta)(hb:DW X (.BoolOp .And (b::rest) pos) tb):DW X (.BoolOp .And (a::b::rest) pos) (cX ta tb):=by
 refine⟨?_⟩;refine uG (CL ha.pe hb.pe) fun σ H Q=>?_;rintro⟨O,ts,ρ,T,b,T',hc,re,e,q⟩;obtain⟨b1,T1,e1,e⟩:=aJ e;refine⟨O,ts,ρ,T,b1,T1,hc,re,e1,fun H1 s1 hc1=>?_⟩
 cases b1 with
 |true=>exact gA ⟨O,ts,ρ,T1,b,T',hc1,re.mono hc s1,by simpa using e,fun H2 s2 hc2=>q H2 (s1.trans s2) hc2⟩
 |false=>
  have e':some (false,T1)=some (b,T'):=by simpa using e
  cases e';exact gB (q H1 s1 hc1)
theorem dS(ha:DT X a ta)(hb:DW X (.BoolOp .Or (b::rest) pos) tb):DW X (.BoolOp .Or (a::b::rest) pos) (dh ta tb):=by
 refine⟨?_⟩;refine uG (Ed ha.pe hb.pe) fun σ H Q=>?_;rintro⟨O,ts,ρ,T,b,T',hc,re,e,q⟩;obtain⟨b1,T1,e1,e⟩:=aJ e;refine⟨O,ts,ρ,T,b1,T1,hc,re,e1,fun H1 s1 hc1=>?_⟩
 cases b1 with
 |false=>exact gB ⟨O,ts,ρ,T1,b,T',hc1,re.mono hc s1,by simpa using e,fun H2 s2 hc2=>q H2 (s1.trans s2) hc2⟩
 |true=>
  have e':some (true,T1)=some (b,T'):=by simpa using e
  cases e';exact gA (q H1 s1 hc1)
theorem b6(ha:DT X a ta):DT X (.UnaryOp .Not a pos) (bL ta):=by
 refine⟨?_⟩;refine lA (CM ha.pe) fun σ H Q=>?_;rintro⟨O,ts,ρ,T,b,T',hc,re,e,q⟩;obtain⟨b1,T1,e1,e⟩:=aJ e;cases e;exact⟨O,ts,ρ,T,b1,T',hc,re,e1,fun H1 s1 hc1=>q H1 s1 hc1⟩
def cj(f g:FE):FE:=fun ρ T=>bnd (f ρ T) fun w T1=>match asB w with
 |some b=>if b=true then g ρ T1 else some (.d (.bool false),T1)
 |none=>none
def FN(f g:FE):FE:=fun ρ T=>bnd (f ρ T) fun w T1=>match asB w with
 |some b=>if b=true then some (.d (.bool true),T1) else g ρ T1
 |none=>none
def mh(f:FE):FE:=fun ρ T=>bnd (f ρ T) fun w T1=>match asB w with
 |some b=>some (.d (.bool (!b)),T1)
 |none=>none
theorem gi{op}(h:DE X a fa):DE X (.BoolOp op [a] pos) fa:=⟨CW h.pe⟩
theorem dC(ha:DE X a fa)(hb:DE X (.BoolOp .And (b::rest) pos) fb):DE X (.BoolOp .And (a::b::rest) pos) (cj fa fb):=by
 refine⟨?_⟩;refine bj (C0 ha.pe hb.pe) fun σ H Q=>?_;rintro⟨O,ts,ρ,T,w,T',hc,re,e,q⟩;obtain⟨w1,T1,e1,e⟩:=aJ e;refine⟨O,ts,ρ,T,w1,T1,hc,re,e1,fun v1 H1 s1 hc1 r1=>?_⟩;split at e
 .rename_i b hb
  have hw:=lR hb;subst hw;cases (show Rep X.K O H1 v1 _ from r1)
  cases b with
  |true=>exact⟨_,rfl,gA ⟨O,ts,ρ,T1,w,T',hc1,re.mono hc s1,by simpa using e,fun v H2 s2 hc2 r2=>q v H2 (s1.trans s2) hc2 r2⟩⟩
  |false=>
   rw[if_neg Bool.false_ne_true] at e;cases e;exact⟨_,rfl,gB (q _ H1 s1 hc1 (.bl false))⟩
 .cases e
theorem vn(ha:DE X a fa):DE X (.UnaryOp .Not a pos) (mh fa):=by
 refine⟨?_⟩;refine bj (CY ha.pe) fun σ H Q=>?_;rintro⟨O,ts,ρ,T,w,T',hc,re,e,q⟩;obtain⟨w1,T1,e1,e⟩:=aJ e;refine⟨O,ts,ρ,T,w1,T1,hc,re,e1,fun v1 H1 s1 hc1 r1=>?_⟩;split at e
 .rename_i b hb
  have hw:=lR hb;subst hw;cases (show Rep X.K O H1 v1 _ from r1);cases e;exact⟨_,rfl,q _ H1 s1 hc1 (.bl _)⟩
 .cases e
def bW(c:FT)(f g:FE):FE:=fun ρ T=>bnd (c ρ T) fun b T1=>if b=true then f ρ T1 else g ρ T1
theorem de(hc:DT X c ta)(ha:DE X a fa)(hb:DE X b fb):DE X (.IfExp c a b pos) (bW ta fa fb):=by
 refine⟨?_⟩;refine bj (Ab hc.pe ha.pe hb.pe) fun σ H Q=>?_;rintro⟨O,ts,ρ,T,w,T',hc,re,e,q⟩;obtain⟨b1,T1,e1,e⟩:=aJ e;refine⟨O,ts,ρ,T,b1,T1,hc,re,e1,fun H1 s1 hc1=>?_⟩
 cases b1 with
 |true=>exact gA ⟨O,ts,ρ,T1,w,T',hc1,re.mono hc s1,by simpa using e,fun v H2 s2 hc2 r2=>q v H2 (s1.trans s2) hc2 r2⟩
 |false=>exact gB ⟨O,ts,ρ,T1,w,T',hc1,re.mono hc s1,by simpa using e,fun v H2 s2 hc2 r2=>q v H2 (s1.trans s2) hc2 r2⟩
theorem ES{op:UnaryOp}{r:V->Hp->VK->Prop}{g1:PyData->Option PyData}(hr:UnR X (unaryOp op) r)(snd:FZ X.K r g1)(ha:DE X a fa):DE X (.UnaryOp op a pos) (fUn g1 fa):=by
 refine⟨?_⟩;refine bj (Eg hr ha.pe) fun σ H Q=>?_;rintro⟨O,ts,ρ,T,w,T',hc,re,e,q⟩;obtain⟨w1,T1,e1,e⟩:=aJ e;obtain⟨x,d,h1,h3,rfl,rfl⟩:=jK e;refine⟨O,ts,ρ,T,w1,T',hc,re,e1,fun v1 H1 s1 hc1 r1=>?_⟩;exact snd O ts H1 T' v1 x d Q hc1 (hc1.view r1 h1) h3 fun v H' s3 hc3 r3=>q v H' (s1.trans s3) hc3 r3
end
def ah:FA:=fun _ T=>some ([],T)
def ae(f:FE)(g:FA):FA:=fun ρ T=>bnd (f ρ T) fun w T1=>bnd (g ρ T1) fun ws T2=>some (w::ws,T2)
def et:List W->Option (List PyData)
 |[]=>some []
 |.d x::r=>match et r with
  |some xs=>some (x::xs)
  |none=>none
 |_::_=>none
theorem kS{K:Frag}{O:Addr->Prop}{ts:List Addr}{H:Hp}:∀{vs:List V}{ws:List W}{xs:List PyData},gx K O ts H vs ws->et ws=some xs->Reps K O H vs xs
 |_,[],_,.nil,e=>by cases e;exact .nil
 |_,.d x::r,xs,.cons h t,e=>by
  unfold et at e;split at e
  .rename_i ys h2
   cases e;exact .cons h (kS t h2)
  .cases e
 |_,.tp _::_,_,.cons _ _,e=>by cases e
 |_,.loc _::_,_,.cons _ _,e=>by cases e
def ao(mk:List PyData->PyData)(f:FA):FE:=fun ρ T=>bnd (f ρ T) fun ws T1=>match et ws with
 |some xs=>if xs.length<=1000 then some (.d (mk xs),T1) else none
 |none=>none
theorem n9{n:Nat}(h:n<=1000):n<=sizeLine:=Nat.le_trans h (by decide)
def dX(X:Cx)(f:Value)(g:List PyData->Option PyData):Prop:=∃r,CallR X f r/\∀(O:Addr->Prop) (ts:List Addr) (H:Hp) (T:Tp) (vs:List V) (xs:List PyData) (d:PyData) (Q:VK),HC X.K O ts H T->Vws X.K O H vs xs->g xs=some d ->
 (∀v H',SameX ts H H'->HC X.K O ts H' T->Rep X.K O H' v d->Q v H')->r vs H Q
def fCB(g:List PyData->Option PyData)(f:FA):FE:=fun ρ T=>bnd (f ρ T) fun ws T1=>match views T1 ws with
 |some xs=>match g xs with
  |some d=>some (.d d,T1)
  |none=>none
 |none=>none
section
variable {X:Cx}{pos p:Pos}{e:Expr}{es:List Expr}{f:FE}{g:FA}
theorem am:DA X [] ah:=by
 refine⟨?_⟩;refine uM dB fun σ H Q=>?_;rintro⟨O,ts,ρ,T,w,T',hc,re,e,q⟩;cases e;exact q [] H (.refl _ _) hc .nil
theorem ai(ha:DE X e f)(hr:DA X es g)(hs:starEach (e::es) X.env=(false,eval e X.env)::starEach es X.env:=by exact a8 rfl):DA X (e::es) (ae f g):=by
 refine⟨?_⟩;refine uM (cT ha.pe hr.pe hs) fun σ H Q=>?_;rintro⟨O,ts,ρ,T,w,T',hc,re,e,q⟩;obtain⟨w1,T1,e1,e⟩:=aJ e;obtain⟨ws,T2,e2,e⟩:=aJ e;cases e;refine⟨O,ts,ρ,T,w1,T1,hc,re,e1,fun v1 H1 s1 hc1 r1=>?_⟩;exact⟨O,ts,ρ,T1,ws,_,hc1,re.mono hc s1,e2,fun vs H2 s2 hc2 r2=>q _ H2 (s1.trans s2) hc2 (.cons (r1.mono hc1 s2) r2)⟩
theorem tD{mk:List PyData->PyData}{g:FA}{ρ:Rho}{T T':Tp}{w:W}(e:ao mk g ρ T=some (w,T')):∃ws xs,g ρ T=some (ws,T')/\et ws=some xs/\xs.length<=1000/\w=.d (mk xs):=by
 obtain⟨ws,T1,e1,e⟩:=aJ e;split at e
 .rename_i xs h1
  split at e
  .rename_i h2
   cases e;exact⟨ws,xs,e1,h1,h2,rfl⟩
  .cases e
 .cases e
theorem aA{x1}(h:DA X es g):DE X (.Tuple es x1 pos) (ao .tuple g):=by
 refine⟨?_⟩;refine bj (CU h.pe) fun σ H Q=>?_;rintro⟨O,ts,ρ,T,w,T',hc,re,e,q⟩;obtain⟨ws,xs,e1,h1,h2,rfl⟩:=tD e;refine⟨O,ts,ρ,T,ws,T',hc,re,e1,fun vs H1 s1 hc1 r1=>?_⟩;have rs:=kS r1 h1;refine⟨n9 (by rw[rs.length];exact h2),fun p hp=>?_⟩;exact q _ _ (s1.trans (.new hp _)) (hc1.new hp _) (hc1.newT hp rs)
theorem bg(h:DA X es g):DE X (.List es pos) (ao .list g):=by
 refine⟨?_⟩;refine bj (uL h.pe) fun σ H Q=>?_;rintro⟨O,ts,ρ,T,w,T',hc,re,e,q⟩;obtain⟨ws,xs,e1,h1,h2,rfl⟩:=tD e;refine⟨O,ts,ρ,T,ws,T',hc,re,e1,fun vs H1 s1 hc1 r1=>?_⟩;have rs:=kS r1 h1;refine⟨n9 (by rw[rs.length];exact h2),fun p hp=>?_⟩;exact q _ _ (s1.trans (.new hp _)) (hc1.new hp _) (hc1.newL hp rs)
theorem vt{K:Frag}{r:List V->Hp->VK->Prop}{gg:List PyData->Option PyData}(snd:∀(O:Addr->Prop) (ts:List Addr) (H:Hp) (T:Tp) (vs:List V) (xs:List PyData) (d:PyData) (Q:VK),HC K O ts H T->Vws K O H vs xs->gg xs=some d ->
  (∀v H',SameX ts H H'->HC K O ts H' T->Rep K O H' v d->Q v H')->r vs H Q) {σ:L2.St}{H:Hp}{Q:VK} (h:lift K (fCB gg g) σ H Q):tCB r (vZ K g) σ H Q:=by
 obtain⟨O,ts,ρ,T,w,T',hc,re,e,q⟩:=h;obtain⟨ws,T1,e1,e⟩:=aJ e;refine⟨O,ts,ρ,T,ws,T1,hc,re,e1,fun vs H1 s1 hc1 r1=>?_⟩;split at e
 .rename_i xs h1
  split at e
  .rename_i d h2
   cases e;exact snd O ts H1 T' vs xs d Q hc1 (hc1.views r1 h1) h2 fun v H' s3 hc3 r3=>q v H' (s1.trans s3) hc3 r3
  .cases e
 .cases e
theorem ba{x:Str}{id:String}{gg:List PyData->Option PyData}(hc:dX X (.builtin id) gg)(hg:Gl X x)(hm:X.mg x=none)(hv:bootBuiltins x=some (.builtin id))(ha:DA X (e::es) g)(hn:x≠"__name__":=by decide)(hdb:(x == ("__debug__" : Str))=false:=by decide)
  (he:starEach (e::es) X.env=(false,eval e X.env)::starEach es X.env:=by exact a8 rfl) (hpl:(backTo pos (starEach es X.env)).any (·.1)=false:=by exact bQ rfl):DE X (.Call (.Name x p) (e::es) [] pos) (fCB gg g):=by
 refine⟨?_⟩;obtain⟨r,hr,snd⟩:=hc;exact bj (js hr hg hm hv ha.pe hn hdb he hpl) fun σ H Q h=>vt snd h
theorem bZ{x:Str}{id:String}{gg:List PyData->Option PyData}(hc:dX X (.type id) gg)(hg:Gl X x)(hm:X.mg x=none)(hv:bootBuiltins x=some (.type id))(ha:DA X (e::es) g)(hn:x≠"__name__":=by decide)(hdb:(x == ("__debug__" : Str))=false:=by decide)
  (he:starEach (e::es) X.env=(false,eval e X.env)::starEach es X.env:=by exact a8 rfl) (hpl:(backTo pos (starEach es X.env)).any (·.1)=false:=by exact bQ rfl):DE X (.Call (.Name x p) (e::es) [] pos) (fCB gg g):=by
 refine⟨?_⟩;obtain⟨r,hr,snd⟩:=hc;exact bj (mU hr hg hm hv ha.pe hn hdb he hpl) fun σ H Q h=>vt snd h
end
abbrev FI:=Rho->Tp->Option (List PyData×Tp)
def FH(K:Frag)(tl:TE):TI:=fun σ H R=>tl σ H fun x H1=>(∃a xs,x=.ref a/\SqL K H1 a xs/\(xs.length<=sizeLine->R (Itl K a) H1))\/(∃a xs,x=.ref a/\SqT K H1 a xs/\(xs.length<=sizeLine->R (Itt K a) H1))\/(∃z,x=.str z/\R (Its z) H1)\/∃a o kvs,x=.ref a/\H1 a=some (.frz o (.dK kvs))/\(kvs.length<=sizeLine->R (Itd a o kvs) H1)
theorem CO{X:Cx}{tg l:Expr}{tl:TE}(hl:PE X l tl):PI X tg l (FH X.K tl):=by
 intro pins s σ H R I h;refine thn (hl pins s σ H _ I h) fun v s1 ⟨x,H1,I1,r1,q1⟩=>?_
 have fk:∀b∈[s1.heap.objs.size],dG X pins H1 b:=fun b hb=>by
  have e:b=s1.heap.objs.size:=by simpa using hb
  subst e;exact I1.fpOk (Nat.le_refl _) (I1.hok.fresh (Nat.le_refl _))
 rcases q1 with⟨a,xs,e,hq,q⟩|⟨a,xs,e,hq,q⟩|⟨z,e,q⟩|⟨a,o,kvs,e,hq,q⟩
 .subst e
  cases r1;obtain⟨its,rv,p,hz⟩:=I1.list hq;refine wpAny_pyIter_list p.isList ?_;exact⟨s1.heap.objs.size,[s1.heap.objs.size],_,_,H1,rfl,I1.kept (t':=s1.toks) fun b o e=>Heap.get?_push_of_some _ e,yM a _,⟨_,Heap.get?_push_size _ rfl,rfl,rfl⟩,fk,q hz⟩
 .subst e
  cases r1;obtain⟨its,rv,p,hz⟩:=I1.tuple hq;refine wpAny_pyIter_tuple (show s1.heap.IsTuple a its.toArray from p) ?_;exact⟨s1.heap.objs.size,[s1.heap.objs.size],_,_,H1,rfl,I1.kept (t':=s1.toks) fun b o e=>Heap.get?_push_of_some _ e,yf a _,⟨_,Heap.get?_push_size _ rfl,rfl,rfl⟩,fk,q hz⟩
 .subst e
  obtain⟨t,rfl⟩:=r1
  cases ha:z.cps.all (· < 128) with
  |false=>
   refine wpAny_pyIter_wide ha ?_;exact⟨s1.heap.objs.size,[s1.heap.objs.size],_,_,H1,rfl,I1.kept (t':=s1.toks) fun b o e=>Heap.get?_push_of_some _ e,rY z t "str_iterator" _ (.inr rfl),⟨_,Heap.get?_push_size _ rfl,rfl,rfl⟩,fk,q⟩
  |true=>
   refine wpAny_pyIter_ascii ha ?_;exact⟨s1.heap.objs.size,[s1.heap.objs.size],_,_,H1,rfl,I1.kept (t':=s1.toks) fun b o e=>Heap.get?_push_of_some _ e,rY z t "str_ascii_iterator" _ (.inl rfl),⟨_,Heap.get?_push_size _ rfl,rfl,rfl⟩,fk,q⟩
 .subst e
  cases r1;obtain⟨z,y,vs,kv,dd⟩:=gP I1.hok hq;refine wpAny_pyIter_dict y dd ?_;exact⟨s1.heap.objs.size,[s1.heap.objs.size],_,_,H1,rfl,I1.kept (t':=s1.toks) fun b o e=>Heap.get?_push_of_some _ e,yN a _ o kvs,⟨_,Heap.get?_push_size _ rfl,rfl,by rw[kv.length];rfl⟩,fk,q z⟩
def ItOk(K:Frag)(O:Addr->Prop)(H1:Hp)(J:It)(ds:List PyData):Prop:=∀O' H',Le O H1 O' H'->(∀i,i<ds.length->J.go i H')/\J.stop ds.length H'/\∀i v H'',J.yld i H' v H''->i<ds.length->H''=H'/\∃d,ds[i]? = some d/\Rep K O' H' v d
inductive LiftIP(K:Frag)(f:FI)(σ:L2.St)(H:Hp)(R:It->Hp->Prop):Prop where
 |mk (O:Addr->Prop) (ts:List Addr) (ρ:Rho) (T:Tp) (ds:List PyData) (T':Tp) (hc:HC K O ts H T) (re:RelE K O ts H σ ρ) (e:f ρ T=some (ds,T')) (q:∀J H1,SameX ts H H1->HC K O ts H1 T'->ItOk K O H1 J ds->ds.length<=sizeLine->R J H1):LiftIP K f σ H R
def jX(K:Frag)(f:FI):TI:=fun σ H R=>LiftIP K f σ H R
structure DI(X:Cx)(tg e:Expr)(f:FI):Prop where
 pe:PI X tg e (jX X.K f)
theorem uJ{X:Cx}{tg e:Expr}{t t':TI}(h:PI X tg e t)(i:∀σ H Q,t' σ H Q->t σ H Q):PI X tg e t':=fun pins s σ H Q I q=>h pins s σ H Q I (i σ H Q q)
def signs(z:Str):List PyData:=z.cps.toList.map fun c=>.str ⟨#[c]⟩
def g9:PyData->Option (List PyData)
 |.list xs=>some xs
 |.tuple xs=>some xs
 |.str z=>if z.length<=sizeLine then some (signs z) else none
 |.dict ds=>some (ds.map (·.1))
 |_=>none
def aZ(f:FE):FI:=fun ρ T=>bnd (f ρ T) fun w T1=>match w with
 |.d x=>match g9 x with
  |some xs=>some (xs,T1)
  |none=>none
 |_=>none
theorem ItOk.lst{K:Frag}{O:Addr->Prop}{H1:Hp}{a:Addr}{vs:List V}{ds:List PyData}(h:LstAt K O H1 a vs)(r:Reps K O H1 vs ds):ItOk K O H1 (Itl K a) ds:=fun O' H' le=>by
 have sq:=(h.mono le).sq;have hl:=r.length;refine⟨fun i hi=>⟨vs,vs[i]'(by omega),sq,by simp⟩,⟨vs,sq,by omega⟩,fun i v H'' y hi=>?_⟩;obtain⟨e,y⟩:=y;obtain⟨d,h1,h2⟩:=r.get (y vs sq);exact⟨e,d,h1,h2.mono le⟩
theorem ItOk.tup{K:Frag}{O:Addr->Prop}{H1:Hp}{a:Addr}{vs:List V}{ds:List PyData}(h:TupAt K O H1 a vs)(r:Reps K O H1 vs ds):ItOk K O H1 (Itt K a) ds:=fun O' H' le=>by
 have sq:=(h.mono le).sq;have hl:=r.length;refine⟨fun i hi=>⟨vs,vs[i]'(by omega),sq,by simp⟩,⟨vs,sq,by omega⟩,fun i v H'' y hi=>?_⟩;obtain⟨e,y⟩:=y;obtain⟨d,h1,h2⟩:=r.get (y vs sq);exact⟨e,d,h1,h2.mono le⟩
theorem ItOk.str{K:Frag}{O:Addr->Prop}{H1:Hp}{z:Str}:ItOk K O H1 (Its z) (signs z):=fun O' H' le=>by
 have hl:(signs z).length=z.cps.size:=by simp[signs]
 refine⟨fun i hi=>by rw[hl] at hi;exact hi,by rw[hl];exact Nat.le_refl _,fun i v H'' y hi=>?_⟩;obtain⟨e,c,hc,y⟩:=y;subst y;refine⟨e,.str ⟨#[c]⟩,?_,.str _⟩;unfold signs;rw[List.getElem?_map]
 have:z.cps.toList[i]? = some c:=by simpa using hc
 rw[this];rfl
theorem kA{K:Frag}{O:Addr->Prop}{H:Hp}:∀{kvs:List (Key×V)}{ds:List (PyData×PyData)},RepK K O H kvs ds->kvs.length=ds.length
 |_,_,.nil=>rfl
 |_,_,.cons _ t=>congrArg (· + 1) (kA t)
theorem su{K:Frag}{O:Addr->Prop}{H:Hp}:∀{kvs:List (Key×V)}{ds:List (PyData×PyData)}{i:Nat}{k:Key}{v:V},RepK K O H kvs ds->kvs[i]? = some (k,v)->(ds.map (·.1))[i]? = some (cQ k)
 |_,_,_,_,_,.nil,e=>by simp at e
 |_,_,0,_,_,.cons r _,e=>by simp at e;obtain⟨rfl,rfl⟩:=e;rfl
 |_,_,i+1,k,v,.cons _ t,e=>by
  have:=su (i:=i) t (by simpa using e);simpa using this
theorem nP{K:Frag}{O:Addr->Prop}{H:Hp}(k:Key):Rep K O H (kV k) (cQ k):=by
 cases k with
 |inl i=>exact .int i
 |inr x=>exact .str x
theorem ItOk.dct{K:Frag}{O:Addr->Prop}{H1:Hp}{a:Addr}{o:Obj}{kvs:List (Key×V)}{ds:List (PyData×PyData)}(n:¬O a)(h:H1 a=some (.frz o (.dK kvs)))(r:RepK K O H1 kvs ds):ItOk K O H1 (Itd a o kvs) (ds.map (·.1)):=fun O' H' le=>by
 have h':=(le a _ n h).2;have hl:=kA r;refine⟨fun i hi=>⟨h',by simp at hi;omega⟩,⟨h',by simp[hl]⟩,fun i v H'' y hi=>?_⟩;obtain⟨e,k,v0,y1,y2⟩:=y;subst y2;exact⟨e,_,su r y1,nP k⟩
theorem bF{X:Cx}{tg e:Expr}{f:FE}(h:DE X e f):DI X tg e (aZ f):=by
 refine⟨?_⟩;refine uJ (CO h.pe) fun σ H R=>?_;rintro⟨O,ts,ρ,T,ds,T',hc,re,e,q⟩;obtain⟨w1,T1,e1,e⟩:=aJ e;refine⟨O,ts,ρ,T,w1,T1,hc,re,e1,fun v1 H1 s1 hc1 r1=>?_⟩;split at e
 .rename_i x
  split at e
  .rename_i xs h1
   cases e;have rr:Rep X.K O H1 v1 x:=r1
   cases x with
   |list ys=>
    cases h1
    cases rr with
    |lst t r=>exact .inl ⟨_,_,rfl,t.sq,fun hz=>q _ H1 s1 hc1 (.lst t r) (by rw[←r.length];exact hz)⟩
   |tuple ys=>
    cases h1
    cases rr with
    |tup t r=>exact .inr (.inl ⟨_,_,rfl,t.sq,fun hz=>q _ H1 s1 hc1 (.tup t r) (by rw[←r.length];exact hz)⟩)
   |str z=>
    have h1':(if z.length<=sizeLine then some (signs z) else none)=some _:=h1;split at h1'
    .rename_i hz
     cases h1';cases rr;exact .inr (.inr (.inl ⟨z,rfl,q _ H1 s1 hc1 .str (by rw[show (signs z).length=z.cps.size by simp[signs]];exact hz)⟩))
    .cases h1'
   |dict ys=>
    cases h1
    cases rr with
    |dct n t r=>exact .inr (.inr (.inr ⟨_,_,_,rfl,t,fun hz=>q _ H1 s1 hc1 (.dct n t r) (by rw[List.length_map,←kA r];exact hz)⟩))
   |_=>cases h1
  .cases e
 .cases e
def cy(lo:Int)(n:Nat):List PyData:=(List.range n).map fun(i:Nat)=>.int (lo+(i:Int))
theorem ItOk.rng{K:Frag}{O:Addr->Prop}{H1:Hp}{lo:Int}{n:Nat}:ItOk K O H1 (Itr lo n) (cy lo n):=fun O' H' le=>by
 have hl:(cy lo n).length=n:=by simp[cy]
 refine⟨fun i hi=>by rw[hl] at hi;exact hi,by rw[hl];exact Nat.le_refl _,fun i v H'' y hi=>?_⟩;obtain⟨e,y⟩:=y;subst y;rw[hl] at hi;exact⟨e,.int (lo+i),by simp[cy,hi],.int _⟩
def gk(j:Int):Bool:=decide (-1000000<=j/\j<=16777216)
theorem CG{j:Int}(h:gk j=true) : -(2^62)<=j/\j<2^62/\j.toNat<=sizeLine:=by
 have h':=of_decide_eq_true h
 have e:sizeLine=16777216:=by decide
 omega
def fF(f:FE):FI:=fun ρ T=>bnd (f ρ T) fun w T1=>match w with
 |.d (.int j)=>if gk j=true then some (cy 0 j.toNat,T1) else none
 |_=>none
theorem k9{X:Cx}{tg a:Expr}{f:FE}{p pos:Pos}(hg:Gl X "range")(hm:X.mg "range"=none)(ha:DE X a f)(hs:starEach [a] X.env=[(false,eval a X.env)]:=by exact nv rfl):DI X tg (.Call (.Name "range" p) [a] [] pos) (fF f):=by
 refine⟨?_⟩;refine uJ (yY (ta:=vI (lift X.K f) wH) hg hm (cT ha.pe dB (by rw[hs];rfl)) hs) fun σ H R=>?_;rintro⟨O,ts,ρ,T,ds,T',hc,re,e,q⟩;obtain⟨w1,T1,e1,e⟩:=aJ e;refine⟨O,ts,ρ,T,w1,T1,hc,re,e1,fun v1 H1 s1 hc1 r1=>?_⟩;split at e
 .rename_i j
  split at e
  .rename_i h1
   cases e;cases (show Rep X.K O H1 v1 _ from r1);obtain⟨b1,b2,b3⟩:=CG h1;exact⟨j,rfl,b1,b2,q _ H1 s1 hc1 .rng (by simpa[cy] using b3)⟩
  .cases e
 .cases e
def bE(c:FT)(e:FE)(ρ:Rho):List PyData->Tp->Option (List PyData×Tp)
 |[],T=>some ([],T)
 |d::r,T=>bnd (c (some (.d d)::ρ) T) fun b T1=>if b=true then bnd (e (some (.d d)::ρ) T1) fun w T2=>match w with
   |.d y=>bnd (bE c e ρ r T2) fun ys T3=>some (y::ys,T3)
   |_=>none
  else bE c e ρ r T1
def bM(it:FI)(c:FT)(e:FE):FE:=fun ρ T=>bnd (it ρ T) fun ds T1=>bnd (bE c e ρ ds T1) fun ys T2=>some (.d (.list ys),T2)
def bv:FT:=fun _ T=>some (true,T)
theorem RelE.cons{K:Frag}{O:Addr->Prop}{ts:List Addr}{H:Hp}{σ:L2.St}{ρ:Rho}{v:V}{d:PyData}(re:RelE K O ts H σ ρ)(r:Rep K O H v d):RelE K O ts H (some v::σ) (some (.d d)::ρ):=fun i w e=>by
 cases i with
 |zero=>cases e;exact⟨v,rfl,r⟩
 |succ i=>
  obtain⟨u,h1,h2⟩:=re i w (by simpa using e);exact⟨u,by simpa using h1,h2⟩
theorem oA{K:Frag}{O:Addr->Prop}{ts:List Addr}{H1:Hp}{σ:L2.St}{ρ:Rho}{J:It}{c:FT}{e:FE}{ds ys:List PyData}{T1 T2:Tp}{Dn:List V->Hp->Prop}(hc:HC K O ts H1 T1)(re:RelE K O ts H1 σ ρ)(ok:ItOk K O H1 J ds)(hz:ds.length<=sizeLine)
  (ee:bE c e ρ ds T1=some (ys,T2)) (q:∀vs H',SameX ts H1 H'->HC K O ts H' T2->Reps K O H' vs ys->Dn vs H') :
  ∃W:Nat->Nat->List V->Hp->Prop,(∃m,W 0 m [] H1)/\mn σ J (liftT K c) (lift K e) W Dn:=by
 refine⟨fun i m vs H'=>m=ds.length-i/\i<=ds.length/\vs.length<=i/\∃T dn rs,SameX ts H1 H'/\HC K O ts H' T/\Reps K O H' vs dn/\bE c e ρ (ds.drop i) T=some (rs,T2)/\ys=dn++rs,⟨_,rfl,Nat.zero_le _,Nat.le_refl _,T1,[],ys,.refl _ _,hc,.nil,ee,rfl⟩,?_⟩;rintro i m vs H' ⟨rfl,hi,hv,T,dn,rs,s1,hc1,rv,ec,ey⟩;obtain⟨k1,k2,k3⟩:=ok O H' (hc.le s1)
 by_cases hlt:i<ds.length
 .refine .inr ⟨k1 i hlt,by omega,fun vs' H2=>i+1<=ds.length/\vs'.length<=i+1/\∃T dn rs,SameX ts H1 H2/\HC K O ts H2 T/\Reps K O H2 vs' dn/\bE c e ρ (ds.drop (i+1)) T=some (rs,T2)/\ys=dn++rs,fun vs' H2 n=>⟨ds.length-(i+1),by omega,rfl,n⟩,fun v H2 y=>?_⟩
  obtain⟨e2,d,hd,rd⟩:=k3 i v H2 y hlt;subst e2
  have hdr:ds.drop i=d::ds.drop (i+1):=by
   rw[List.drop_eq_getElem_cons hlt];have:=(List.getElem?_eq_some_iff.mp hd).2;rw[this]
  rw[hdr] at ec;obtain⟨b,T3,e3,ec⟩:=aJ ec;refine⟨O,ts,some (.d d)::ρ,T,b,T3,hc1,(re.mono hc s1).cons rd,e3,fun H3 s3 hc3=>?_⟩
  cases b with
  |false=>
   rw[if_neg Bool.false_ne_true] at ec;exact gB ⟨hlt,by omega,T3,dn,rs,s1.trans s3,hc3,rv.mono (hc1.le s3),ec,ey⟩
  |true=>
   rw[if_pos rfl] at ec;obtain⟨w,T4,e4,ec⟩:=aJ ec;refine gA ⟨O,ts,some (.d d)::ρ,T3,w,T4,hc3,((re.mono hc s1).cons rd).mono hc1 s3,e4,fun u H4 s4 hc4 r4=>?_⟩;split at ec
   .rename_i y
    obtain⟨zs,T5,e5,ec⟩:=aJ ec;cases ec;refine⟨hlt,by simp;omega,T4,dn++[y],zs,s1.trans (s3.trans s4),hc4,(rv.mono (hc1.le (s3.trans s4))).append (.cons r4 .nil),e5,by rw[ey];simp⟩
   .cases ec
 .have e:i=ds.length:=by omega
  subst e;rw[List.drop_eq_nil_of_le (Nat.le_refl _)] at ec;cases ec;rw[List.append_nil] at ey;subst ey;exact .inl ⟨k2,by omega,q vs H' s1 hc1 rv⟩
structure DTs(X:Cx)(es:List Expr)(f:FT):Prop where
 pe:PTs X es (liftT X.K f)
theorem ot{X:Cx}:DTs X [] bv:=⟨fun pins s σ H Q E I h=>by
 refine Bd pins s σ H Q E I ?_;obtain⟨O,ts,ρ,T,w,T',hc,re,e,q⟩:=h;cases e
 exact q H (.refl _ _) hc⟩
theorem ub{X:Cx}{c:Expr}{f:FT}(hx:X.xe=fun _ _=>False)(h:DT X c f):DTs X [c] f:=⟨Bc hx h.pe⟩
theorem B0{X:Cx}{x:Str}{scope osc:Scope}{N N':List Str}{elt iter:Expr}{ifs:List Expr}{px pos:Pos}{it:FI}{c:FT}{f:FE}(S:CS osc N x scope N')(hi:DI X (.Name x px) iter it)
  (he:∀C s0 H0 ex,DE (bS X x scope C s0 H0 ex N') elt f) (ht:∀C s0 H0 ex,DTs (bS X x scope C s0 H0 ex N') ifs c) (hc:X.calm=true:=by rfl) (hs:X.env.scope=osc:=by rfl) (hN:X.N=N:=by rfl)
  (hf:∀v,foldedSetIterable iter X.env v=pure v:=by intro _;rfl):DE X (.ListComp elt [⟨.Name x px,iter,ifs,0⟩] scope pos) (bM it c f):=by
 refine⟨?_⟩;refine bj (sA (wi:=jX X.K it) (tt:=liftT X.K c) (te:=lift X.K f) S hi.pe (fun C s0 H0 ex=>(he C s0 H0 ex).pe) (fun C s0 H0 ex=>(ht C s0 H0 ex).pe) hc hs hN hf) fun σ H Q=>?_;rintro⟨O,ts,ρ,T,w,T',hc,re,e,q⟩;obtain⟨ds,T1,e1,e⟩:=aJ e;obtain⟨ys,T2,e2,e⟩:=aJ e;cases e;refine⟨O,ts,ρ,T,ds,T1,hc,re,e1,fun J H1 s1 hc1 ok hz=>?_⟩;exact oA hc1 (re.mono hc s1) ok hz e2 fun vs H' s2 hc2 r2 p hp=>q _ _ (s1.trans (s2.trans (.new hp _))) (hc2.new hp _) (hc2.newL hp r2)
inductive Fl where
 |nx|rt (x:PyData)|ro (x:PyData)|bk|ct
abbrev FS:=Rho->Tp->Option ((Fl×Rho)×Tp)
structure RS(K:Frag)(O₀:Addr->Prop)(H₀:Hp)(F:List ((Addr->Prop)×Hp))(ts:List Addr)(O:Addr->Prop)(H:Hp)(σ:L2.St)(ρ:Rho)(T:Tp):Prop where
 hc:HC K O ts H T
 re:RelE K O ts H σ ρ
 sub:∀b,O₀ b->O b
 ots:∀b∈ts,O₀ b
 same:SameX ts H₀ H
 fresh:∀(i:Nat) (xs:PyData) (a:Addr),ρ[i]? = some (some (.loc xs))->σ[i]? = some (some (.ref a))->H₀ a=none/\¬O₀ a
 dist:∀(i j:Nat) (xs ys:PyData) (v:V),ρ[i]? = some (some (.loc xs))->ρ[j]? = some (some (.loc ys))->σ[i]? = some (some v)->σ[j]? = some (some v)->i=j
 frs:∀f∈F,Le f.1 f.2 O H
 len:σ.length=ρ.length
def pZ(K:Frag)(O A:Addr->Prop)(H:Hp)(v:V):PyData->Prop
 |.tuple [x,y]=>∃p a b,v=.ref p/\a≠b/\(∀c,A c↔c=a\/c=b)/\¬O p/\H p=some (.tup [.ref a,.ref b])/\OwnAt K O H a x/\OwnAt K O H b y
 |.none=>v=.non/\∀c,¬A c
 |x=>∃a,v=.ref a/\(∀c,A c↔c=a)/\OwnAt K O H a x
def E7(K:Frag)(O₀:Addr->Prop)(H₀:Hp)(F:List ((Addr->Prop)×Hp))(ts:List Addr)(D:Ends)(ρ':Rho)(T':Tp):Fl->Prop
 |.nx=>∀O' σ' H',RS K O₀ H₀ F ts O' H' σ' ρ' T'->D.nx σ' H'
 |.bk=>∀O' σ' H',RS K O₀ H₀ F ts O' H' σ' ρ' T'->D.bk σ' H'
 |.ct=>∀O' σ' H',RS K O₀ H₀ F ts O' H' σ' ρ' T'->D.ct σ' H'
 |.rt x=>∀v H',SameX ts H₀ H'->HC K O₀ ts H' T'->Rep K O₀ H' v x->D.rt v H'
 |.ro x=>∀(A:Addr->Prop) v H',SameX ts H₀ H'->(∀b,A b->H₀ b=none/\¬O₀ b)->HC K (fun b=>O₀ b\/A b) ts H' T'->pZ K (fun b=>O₀ b\/A b) A H' v x->D.rt v H'
inductive LiftSP(K:Frag)(f:FS)(D:Ends)(σ:L2.St)(H:Hp):Prop where
 |mk (O₀:Addr->Prop) (H₀:Hp) (F:List ((Addr->Prop)×Hp)) (ts:List Addr) (O:Addr->Prop) (ρ:Rho) (T:Tp) (fl:Fl) (ρ':Rho) (T':Tp) (rs:RS K O₀ H₀ F ts O H σ ρ T) (e:f ρ T=some ((fl,ρ'),T')) (q:E7 K O₀ H₀ F ts D ρ' T' fl):LiftSP K f D σ H
def vY(K:Frag)(f:FS):TS:=fun D σ H=>LiftSP K f D σ H
structure DS(X:Cx)(s:Stmt)(f:FS):Prop where
 pe:PS X s (vY X.K f)
structure DSs(X:Cx)(s:List Stmt)(f:FS):Prop where
 pe:PSs X s (vY X.K f)
theorem cc{X:Cx}{e:Stmt}{t t':TS}(h:PS X e t)(i:∀D σ H,t' D σ H->t D σ H):PS X e t':=fun pins s σ H D I q=>h pins s σ H D I (i D σ H q)
theorem nQ{X:Cx}{e:List Stmt}{t t':TS}(h:PSs X e t)(i:∀D σ H,t' D σ H->t D σ H):PSs X e t':=fun pins s σ H D I q=>h pins s σ H D I (i D σ H q)
section
variable {K:Frag}{O₀:Addr->Prop}{H₀:Hp}{F:List ((Addr->Prop)×Hp)}{ts:List Addr}{O:Addr->Prop}{H H1:Hp}{σ:L2.St}{ρ:Rho}{T T1:Tp}
theorem RS.step(r:RS K O₀ H₀ F ts O H σ ρ T)(s:SameX ts H H1)(c:HC K O ts H1 T1):RS K O₀ H₀ F ts O H1 σ ρ T1 where
 hc:=c
 re:=r.re.mono r.hc s
 sub:=r.sub
 ots:=r.ots
 same:=r.same.trans s
 fresh:=r.fresh
 dist:=r.dist
 frs:=fun f hf=>(r.frs f hf).trans (r.hc.le s)
 len:=r.len
theorem e8{i j:Nat}{w:W}{xs:PyData}(hw:∀ys,w≠.loc ys)(e:(ρ.set i (some w))[j]? = some (some (.loc xs))):j≠i/\ρ[j]? = some (some (.loc xs)):=by
 by_cases z:i=j
 .subst z
  rw[List.getElem?_set_self'] at e
  cases h:ρ[i]? with
  |none=>rw[h] at e;cases e
  |some u=>
   rw[h] at e;have e':some (some w)=some (some (W.loc xs)):=e;cases e';exact absurd rfl (hw xs)
 .rw[List.getElem?_set_ne z] at e
  exact⟨fun q=>z q.symm,e⟩
theorem RS.set{i:Nat}{v:V}{w:W}(r:RS K O₀ H₀ F ts O H σ ρ T)(rw':RepW K O ts H v w)(hw:∀ys,w≠.loc ys):RS K O₀ H₀ F ts O H (σ.set i (some v)) (ρ.set i (some w)) T where
 hc:=r.hc
 re:=fun j u e=>by
  by_cases z:i=j
  .subst z
   have hl:i<ρ.length:=by
    have:=(List.getElem?_eq_some_iff.mp e).1;simpa using this
   rw[List.getElem?_set_self hl] at e;cases e;exact⟨v,by rw[List.getElem?_set_self (by rw[r.len];exact hl)],rw'⟩
  .rw[List.getElem?_set_ne z] at e
   obtain⟨x,h1,h2⟩:=r.re j u e;exact⟨x,by rw[List.getElem?_set_ne z];exact h1,h2⟩
 sub:=r.sub
 ots:=r.ots
 same:=r.same
 fresh:=fun j xs a e1 e2=>by
  obtain⟨n,e⟩:=e8 hw e1;rw[List.getElem?_set_ne (Ne.symm n)] at e2;exact r.fresh j xs a e e2
 dist:=fun j k xs ys u e1 e2 e3 e4=>by
  obtain⟨n1,e1⟩:=e8 hw e1;obtain⟨n2,e2⟩:=e8 hw e2;rw[List.getElem?_set_ne (Ne.symm n1)] at e3;rw[List.getElem?_set_ne (Ne.symm n2)] at e4;exact r.dist j k xs ys u e1 e2 e3 e4
 frs:=r.frs
 len:=by simp[r.len]
theorem RS.ownO{i:Nat}{p:Addr}{o:HO}{xs:PyData}(r:RS K O₀ H₀ F ts O H σ ρ T)(hp:H p=none)(hm:Mut (some o))(rv:Le O H (fun b=>O b\/b=p) (upd H p o)->OwnAt K (fun b=>O b\/b=p) (upd H p o) p xs):RS K O₀ H₀ F ts (fun b=>O b\/b=p) (upd H p o) (σ.set i (some (.ref p))) (ρ.set i (some (.loc xs))) T:=by
 have le:Le O H (fun b=>O b\/b=p) (upd H p o):=fun a o n e=>by
  have z:a≠p:=dt e hp;exact⟨fun q=>q.elim n z,by rw[aP z];exact e⟩
 have h0:∀{G:Hp},SameX ts G H->p∉ts->G p=none:=fun {G} s nt=>by
  cases e:G p with
  |none=>rfl
  |some o=>rw[s p o nt e] at hp;cases hp
 have nO:=r.hc.fresh hp;have nt:p∉ts:=fun z=>nO (r.hc.own p z)
 have old:∀{j:Nat}{v:V}{w:W},σ[j]? = some (some v)->RepW K O ts H v w->RepW K (fun b=>O b\/b=p) ts (upd H p o) v w:=fun {j v w} e q=>by
  cases w with
  |d x=>exact Rep.mono le q
  |tp k=>exact q
  |loc ys=>
   obtain⟨a,e1,h1,h2,h3⟩:=q;exact⟨a,e1,.inl h1,h2,h3.mono (fun o' q=>by rw[aP (dt q hp)];exact q) le⟩
 have notp:∀{j:Nat}{ys:PyData},ρ[j]? = some (some (.loc ys))->σ[j]? = some (some (.ref p))->False:=fun {j ys} e1 e2=>by
  obtain⟨v,h1,a,ea,h2,h3,h4⟩:=r.re j _ e1;rw[e2] at h1;cases h1;cases ea;obtain⟨o',h5⟩:=h4.some;rw[hp] at h5;cases h5
 refine⟨⟨fun b hb=>.inl (r.hc.own b hb),fun b hb=>?_,r.hc.nd,r.hc.len,fun j a ys e1 e2=>?_⟩,fun j w e=>?_,fun b hb=>.inl (r.sub b hb),r.ots,r.same.trans (.new hp _),fun j ys a e1 e2=>?_,fun j k ys zs v e1 e2 e3 e4=>?_,fun f hf=>(r.frs f hf).trans le,by simp[r.len]⟩
 .by_cases z:b=p
  .subst z;rw[bC];exact hm
  .rw[aP z]
   exact r.hc.trk b (hb.resolve_right z)
 .exact(r.hc.tape j a ys e1 e2).mono (fun o' h1=>by rw[aP (dt h1 hp)];exact h1) le
 .by_cases z:i=j
  .subst z
   have hl:i<ρ.length:=by
    have:=(List.getElem?_eq_some_iff.mp e).1;simpa using this
   rw[List.getElem?_set_self hl] at e;cases e;exact⟨.ref p,by rw[List.getElem?_set_self (by rw[r.len];exact hl)],p,rfl,.inr rfl,nt,rv le⟩
  .rw[List.getElem?_set_ne z] at e
   obtain⟨x,h1,h2⟩:=r.re j w e;exact⟨x,by rw[List.getElem?_set_ne z];exact h1,old h1 h2⟩
 .by_cases z:i=j
  .subst z
   have hl:i<ρ.length:=by
    have:=(List.getElem?_eq_some_iff.mp e1).1;simpa using this
   rw[List.getElem?_set_self (by rw[r.len];exact hl)] at e2;cases e2;exact⟨h0 r.same nt,fun q=>nO (r.sub _ q)⟩
  .rw[List.getElem?_set_ne z] at e1 e2
   exact r.fresh j ys a e1 e2
 .by_cases z:i=j
  .by_cases z':i=k
   .rw[←z,←z']
   .exfalso
    subst z
    have hl:i<ρ.length:=by
     have:=(List.getElem?_eq_some_iff.mp e1).1;simpa using this
    rw[List.getElem?_set_self (by rw[r.len];exact hl)] at e3;cases e3;rw[List.getElem?_set_ne z'] at e2 e4;exact notp e2 e4
  .by_cases z':i=k
   .exfalso
    subst z'
    have hl:i<ρ.length:=by
     have:=(List.getElem?_eq_some_iff.mp e2).1;simpa using this
    rw[List.getElem?_set_self (by rw[r.len];exact hl)] at e4;cases e4;rw[List.getElem?_set_ne z] at e1 e3;exact notp e1 e3
   .rw[List.getElem?_set_ne z] at e1 e3
    rw[List.getElem?_set_ne z'] at e2 e4;exact r.dist j k ys zs v e1 e2 e3 e4
theorem RS.own{i:Nat}{p:Addr}{vs:List V}{xs:List PyData}(r:RS K O₀ H₀ F ts O H σ ρ T)(hp:H p=none)(rv:Reps K O H vs xs):RS K O₀ H₀ F ts (fun b=>O b\/b=p) (upd H p (.lst vs)) (σ.set i (some (.ref p))) (ρ.set i (some (.loc (.list xs)))) T:=r.ownO hp (.inl ⟨_,rfl⟩) fun le=>⟨vs,bC,rv.mono le⟩
theorem RS.putO{i:Nat}{a:Addr}{o:HO}{xs ys:PyData}(r:RS K O₀ H₀ F ts O H σ ρ T)(e1:ρ[i]? = some (some (.loc xs)))(e2:σ[i]? = some (some (.ref a)))(hm:Mut (some o))(rv:Le O H O (upd H a o)->OwnAt K O (upd H a o) a ys):RS K O₀ H₀ F ts O (upd H a o) σ (ρ.set i (some (.loc ys))) T:=by
 obtain⟨v,z1,a',ea,oa,nt,ha⟩:=r.re i _ e1;rw[e2] at z1;cases z1;cases ea;have hl:i<ρ.length:=(List.getElem?_eq_some_iff.mp e1).1;obtain⟨f1,f2⟩:=r.fresh i xs a e1 e2;have le:Le O H O (upd H a o):=fun b o n e=>⟨n,by rw[aP (show b≠a from fun z=>n (by rw[z];exact oa))];exact e⟩
 have back:∀{j:Nat}{zs:PyData},(ρ.set i (some (W.loc ys)))[j]? = some (some (.loc zs))->∃ws,ρ[j]? = some (some (.loc ws)):=fun {j zs} e=>by
  by_cases z:i=j
  .subst z;exact⟨xs,e1⟩
  .rw[List.getElem?_set_ne z] at e;exact⟨zs,e⟩
 refine⟨⟨r.hc.own,fun b hb=>?_,r.hc.nd,r.hc.len,fun j b zs q1 q2=>?_⟩,fun j w e=>?_,r.sub,r.ots,fun b o n e=>?_,fun j zs b q1 q2=>?_,fun j k zs zs' v q1 q2 q3 q4=>?_,fun f hf=>(r.frs f hf).trans le,by simp[r.len]⟩
 .by_cases z:b=a
  .subst z;rw[bC];exact hm
  .rw[aP z];exact r.hc.trk b hb
 .exact(r.hc.tape j b zs q1 q2).mono (fun o' h1=>by rw[aP (show b≠a from fun z=>nt (by rw[←z];exact List.mem_of_getElem? q1))];exact h1) le
 .by_cases z:i=j
  .subst z
   rw[List.getElem?_set_self hl] at e;cases e;exact⟨.ref a,e2,a,rfl,oa,nt,rv le⟩
  .rw[List.getElem?_set_ne z] at e
   obtain⟨x,h1,h2⟩:=r.re j w e;refine⟨x,h1,?_⟩
   cases w with
   |d x=>exact Rep.mono le h2
   |tp k=>exact h2
   |loc zs=>
    obtain⟨b,eb,k1,k2,k3⟩:=h2;have n:b≠a:=fun q=>z (r.dist i j xs zs (.ref a) e1 e e2 (by rw[h1,eb,q]));exact⟨b,eb,k1,k2,k3.mono (fun o' q=>by rw[aP n];exact q) le⟩
 .have:=r.same b o n e
  rw[aP (show b≠a from fun z=>by rw[z,f1] at e;cases e)];exact this
 .obtain⟨ws,q⟩:=back q1
  exact r.fresh j ws b q q2
 .obtain⟨ws,q⟩:=back q1
  obtain⟨ws',q'⟩:=back q2;exact r.dist j k ws ws' v q q' q3 q4
theorem RS.put{i:Nat}{a:Addr}{vs us:List V}{xs ys:List PyData}(r:RS K O₀ H₀ F ts O H σ ρ T)(e1:ρ[i]? = some (some (.loc (.list xs))))(e2:σ[i]? = some (some (.ref a)))(rv:Reps K O H vs ys):RS K O₀ H₀ F ts O (upd H a (.lst vs)) σ (ρ.set i (some (.loc (.list ys)))) T:=r.putO e1 e2 (.inl ⟨_,rfl⟩) fun le=>⟨vs,bC,rv.mono le⟩
def i6:W->W
 |.loc x=>.d x
 |w=>w
def bO(ρ:Rho):Rho:=ρ.map (Option.map i6)
theorem RS.frzH(r:RS K O₀ H₀ F ts O H σ ρ T):HC K O₀ ts H T:=by
 have le:Le O H O₀ H:=fun a o n e=>⟨fun z=>n (r.sub a z),e⟩;exact⟨r.ots,fun b hb=>r.hc.trk b (r.sub b hb),r.hc.nd,r.hc.len,fun i a xs e1 e2=>(r.hc.tape i a xs e1 e2).mono (fun _ h=>h) le⟩
def xc(ρ:Rho):Prop:=∀(i:Nat) (ds:List (PyData×PyData)),ρ[i]?≠some (some (.loc (.dict ds)))
theorem RS.frz(r:RS K O₀ H₀ F ts O H σ ρ T)(nd:xc ρ):HC K O₀ ts H T/\RelE K O₀ ts H σ (bO ρ):=by
 have le:Le O H O₀ H:=fun a o n e=>⟨fun z=>n (r.sub a z),e⟩;refine⟨r.frzH,fun i w e=>?_⟩;unfold bO at e;rw[List.getElem?_map] at e
 cases hu:ρ[i]? with
 |none=>rw[hu] at e;cases e
 |some u=>
  cases u with
  |none=>rw[hu] at e;cases e
  |some u=>
   rw[hu] at e;cases e;obtain⟨v,h1,h2⟩:=r.re i u hu;refine⟨v,h1,?_⟩
   cases u with
   |d x=>exact Rep.mono le h2
   |tp k=>exact h2
   |loc xs=>
    obtain⟨a,rfl,k1,k2,k3⟩:=h2
    cases xs with
    |list xs=>obtain⟨vs,k3,k4⟩:=k3;exact .lst (.inl ⟨(r.fresh i _ a hu h1).2,.inl k3⟩) (k4.mono le)
    |dict xs=>exact absurd hu (nd i xs)
    |_=>cases k3
theorem RS.frzD{i:Nat}{ds:List (PyData×PyData)}(r:RS K O₀ H₀ F ts O H σ ρ T)(h1:ρ[i]? = some (some (.loc (.dict ds)))):∃a kvs,H a=some (.dK kvs)/\∀o,RS K O₀ H₀ F ts (fun b=>O b/\b≠a) (upd H a (.frz o (.dK kvs))) σ (ρ.set i (some (.d (.dict ds)))) T:=by
 obtain⟨v,k1,a,rfl,k2,k3,kvs,k4,k5⟩:=r.re i _ h1;refine⟨a,kvs,k4,fun o=>?_⟩;have hl:i<ρ.length:=(List.getElem?_eq_some_iff.mp h1).1;have U:∀{b:Addr},b≠a->upd H a (.frz o (.dK kvs)) b=H b:=fun n=>aP n;have le:Le O H (fun b=>O b/\b≠a) (upd H a (.frz o (.dK kvs))):=fun b u n e=>⟨fun z=>n z.1,by rw[U (show b≠a from fun z=>n (by rw[z];exact k2))];exact e⟩;have fr:=r.fresh i _ a h1 k1
 have hw:∀ys,W.d (.dict ds)≠.loc ys:=fun _ z=>nomatch z
 refine⟨⟨fun b hb=>⟨r.hc.own b hb,fun z=>k3 (z ▸ hb)⟩,fun b hb=>by rw[U hb.2];exact r.hc.trk b hb.1,r.hc.nd,r.hc.len,fun j b ys e1 e2=>?_⟩,fun j w e=>?_,fun b hb=>⟨r.sub b hb,fun z=>fr.2 (z ▸ hb)⟩,r.ots,fun b u n e=>?_,fun j ys b e1 e2=>?_,fun j k ys zs v e1 e2 e3 e4=>?_,fun f hf=>(r.frs f hf).trans le,by simp[r.len]⟩
 .exact(r.hc.tape j b ys e1 e2).mono (fun _ h=>by rw[U (show b≠a from fun z=>k3 (by rw[←z];exact List.mem_of_getElem? e1))];exact h) le
 .by_cases z:i=j
  .subst z
   rw[List.getElem?_set_self hl] at e;cases e;exact⟨.ref a,k1,.dct (fun z=>z.2 rfl) bC (k5.mono le)⟩
  .rw[List.getElem?_set_ne z] at e
   obtain⟨x,q1,q2⟩:=r.re j w e;refine⟨x,q1,?_⟩
   cases w with
   |d y=>exact Rep.mono le q2
   |tp k=>exact q2
   |loc ys=>
    obtain⟨b,eb,m1,m2,m3⟩:=q2;have nb:b≠a:=fun q=>z (r.dist i j _ ys (.ref a) h1 e k1 (by rw[q1,eb,q]));exact⟨b,eb,⟨m1,nb⟩,m2,m3.mono (fun _ q=>by rw[U nb];exact q) le⟩
 .rw[U (show b≠a from fun z=>by rw[z,fr.1] at e;cases e)]
  exact r.same b u n e
 .obtain⟨n,e⟩:=e8 hw e1
  exact r.fresh j ys b e e2
 .obtain⟨n1,e1⟩:=e8 hw e1
  obtain⟨n2,e2⟩:=e8 hw e2;exact r.dist j k ys zs v e1 e2 e3 e4
theorem Ay{i:Nat}{x:PyData}(h:ρ[i]? = some (some (.loc x))):bO (ρ.set i (some (.d x)))=bO ρ:=by
 apply List.ext_getElem?;intro j;unfold bO;rw[List.getElem?_map,List.getElem?_map]
 by_cases z:i=j
 .subst z
  rw[List.getElem?_set_self (List.getElem?_eq_some_iff.mp h).1,h];rfl
 .rw[List.getElem?_set_ne z]
theorem RS.frzN(R:Rho):∀(k:Nat) {O:Addr->Prop}{H:Hp}{ρ:Rho},RS K O₀ H₀ F ts O H σ ρ T->(∀j ds,k<=j->ρ[j]?≠some (some (.loc (.dict ds))))->bO ρ=R ->
  Gh (fun H'=>∃O' ρ',RS K O₀ H₀ F ts O' H' σ ρ' T/\xc ρ'/\bO ρ'=R) H
 |0,O,H,ρ,r,n,e=>.done ⟨O,ρ,r,fun j ds=>n j ds (Nat.zero_le _),e⟩
 |k+1,O,H,ρ,r,n,e=>by
  by_cases h:∃ds,ρ[k]? = some (some (.loc (.dict ds)))
  .obtain⟨ds,h⟩:=h
   obtain⟨a,kvs,e1,f⟩:=r.frzD h;refine .frz e1 fun o=>RS.frzN R k (f o) (fun j es hj=>?_) (by rw[Ay h];exact e)
   by_cases z:k=j
   .subst z
    rw[List.getElem?_set_self (List.getElem?_eq_some_iff.mp h).1];intro q;cases q
   .rw[List.getElem?_set_ne z]
    exact n j es (by omega)
  .refine RS.frzN R k r (fun j ds hj=>?_) e
   by_cases z:k=j
   .subst z
    exact fun q=>h ⟨ds,q⟩
   .exact n j ds (by omega)
theorem RS.frzG(r:RS K O₀ H₀ F ts O H σ ρ T):Gh (fun H'=>SameX ts H₀ H'/\HC K O₀ ts H' T/\RelE K O₀ ts H' σ (bO ρ)) H:=(RS.frzN (bO ρ) ρ.length r (fun j ds hj=>by rw[List.getElem?_eq_none hj];exact fun z=>nomatch z) rfl).imp fun H' ⟨O',ρ',r',n,e⟩=>⟨r'.same,by rw[←e];exact r'.frz n⟩
end
def aD:FS:=fun ρ T=>some ((.nx,ρ),T)
def ak(f g:FS):FS:=fun ρ T=>bnd (f ρ T) fun p T1=>match p with
 |(.nx,ρ1)=>g ρ1 T1
 |(fl,ρ1)=>some ((fl,ρ1),T1)
def aE(i:Nat)(f:FE):FS:=fun ρ T=>bnd (f ρ T) fun w T1=>match w with
 |.d x=>some ((.nx,ρ.set i (some (.d x))),T1)
 |.tp k=>some ((.nx,ρ.set i (some (.tp k))),T1)
 |.loc _=>none
def eN(i:Nat)(g:FA):FS:=fun ρ T=>bnd (g ρ T) fun ws T1=>match et ws with
 |some xs=>if xs.length<=1000 then some ((.nx,ρ.set i (some (.loc (.list xs)))),T1) else none
 |none=>none
def dZ(i:Nat)(f:FE):FS:=fun ρ T=>bnd (f ρ T) fun w T1=>match w with
 | .d x=>(match ρ[i]? with
  |some (some (.loc (.list xs)))=>if xs.length<sizeLine then some ((.nx,ρ.set i (some (.loc (.list (xs++[x]))))),T1) else none
  | _=>none)
 |_=>none
def fIf(c:FT)(f g:FS):FS:=fun ρ T=>bnd (c ρ T) fun b T1=>if b=true then f ρ T1 else g ρ T1
def ay(f:FE):FS:=fun ρ T=>bnd (f (bO ρ) T) fun w T1=>match w with
 |.d x=>some ((.rt x,ρ),T1)
 |_=>none
def forL(i:Nat)(body:FS):List PyData->FS
 |[]=>aD
 |d::r=>fun ρ T=>bnd (body (ρ.set i (some (.d d))) T) fun p T1=>match p with
  |(.nx,ρ1)=>forL i body r ρ1 T1
  |(.ct,ρ1)=>forL i body r ρ1 T1
  |(.bk,ρ1)=>some ((.nx,ρ1),T1)
  |(.rt x,ρ1)=>some ((.rt x,ρ1),T1)
  |(.ro x,ρ1)=>some ((.ro x,ρ1),T1)
def bc(i:Nat)(it:FI)(body:FS):FS:=fun ρ T=>bnd (it ρ T) fun ds T1=>forL i body ds ρ T1
def bR(c:FT)(body:FS):Nat->FS
 |0=>fun _ _=>none
 |n+1=>fun ρ T=>bnd (c ρ T) fun b T1=>if b=true then bnd (body ρ T1) fun p T2=>match p with
   |(.nx,ρ1)=>bR c body n ρ1 T2
   |(.ct,ρ1)=>bR c body n ρ1 T2
   |(.bk,ρ1)=>some ((.nx,ρ1),T2)
   |(.rt x,ρ1)=>some ((.rt x,ρ1),T2)
   |(.ro x,ρ1)=>some ((.ro x,ρ1),T2)
  else some ((.nx,ρ),T1)
section
variable {X:Cx}{pos:Pos}{st:Stmt}{rest:List Stmt}{f g:FS}{e:Expr}{fe:FE}{c:FT}
theorem aN:DSs X [] aD:=by
 refine⟨?_⟩;refine nQ Bg fun D σ H=>?_;rintro⟨O₀,H₀,F,ts,O,ρ,T,fl,ρ',T',rs,e,q⟩;cases e;exact q O σ H rs
theorem ax(h1:DS X st f)(h2:DSs X rest g):DSs X (st::rest) (ak f g):=by
 refine⟨?_⟩;refine nQ (z0 h1.pe h2.pe) fun D σ H=>?_;rintro⟨O₀,H₀,F,ts,O,ρ,T,fl,ρ',T',rs,e,q⟩;obtain⟨⟨fl1,ρ1⟩,T1,e1,e⟩:=aJ e;refine⟨O₀,H₀,F,ts,O,ρ,T,fl1,ρ1,T1,rs,e1,?_⟩
 cases fl1 with
 |nx=>exact fun O' σ' H' rs'=>⟨O₀,H₀,F,ts,O',ρ1,T1,fl,ρ',T',rs',e,q⟩
 |rt x=>cases e;exact q
 |ro x=>cases e;exact q
 |bk=>cases e;exact q
 |ct=>cases e;exact q
theorem az(h1:DS X st f):DSs X [st] f:=⟨Bf h1.pe⟩
theorem aO{i:Nat}{x:Str}{pos':Pos}(hN:X.N.Nodup)(he:DE X e fe)(hi:X.N[i]? = some x:=by rfl)(hx:Loc X.env.scope x:=by first|exact Or.inl rfl|exact Or.inr rfl)(hs:swapsWith e (some (.Name x pos')) pos.line X.env=pure false:=by rfl)
  (hf:X.fn x=true\/X.env.scope.names.lookup x=some .local:=by first|exact .inl rfl|exact .inr rfl|assumption):DS X (.Assign [.Name x pos'] e pos) (aE i fe):=by
 refine⟨?_⟩;refine cc (gX hN hi hx he.pe hs hf) fun D σ H=>?_;rintro⟨O₀,H₀,F,ts,O,ρ,T,fl,ρ',T',rs,e,q⟩;obtain⟨w,T1,e1,e⟩:=aJ e;refine⟨O,ts,ρ,T,w,T1,rs.hc,rs.re,e1,fun v H1 s1 hc1 r1=>?_⟩
 cases w with
 |d x=>cases e;exact q O _ _ ((rs.step s1 hc1).set r1 fun _ z=>nomatch z)
 |tp k=>cases e;exact q O _ _ ((rs.step s1 hc1).set r1 fun _ z=>nomatch z)
 |loc xs=>cases e
theorem BW{i:Nat}{x y:Str}{scope osc:Scope}{N N':List Str}{elt iter:Expr}{ifs:List Expr}{px py spos:Pos}{it:FI}{c:FT}{f:FE}(S:CS osc N x scope N')(hN:X.N.Nodup)(hi:DI X (.Name x px) iter it)
  (he:∀C s0 H0 ex,DE (bS X x scope C s0 H0 ex N') elt f) (ht:∀C s0 H0 ex,DTs (bS X x scope C s0 H0 ex N') ifs c) (hi':X.N[i]? = some y:=by rfl) (hy:Loc X.env.scope y:=by first|exact Or.inl rfl|exact Or.inr rfl)
  (hf':X.fn y=true\/X.env.scope.names.lookup y=some .local:=by first|exact .inl rfl|exact .inr rfl|assumption) (hc:X.calm=true:=by rfl) (hs:X.env.scope=osc:=by rfl) (hN':X.N=N:=by rfl)
  (hsw:swapsWith (.ListComp elt [⟨.Name x px,iter,ifs,0⟩] scope pos) (some (.Name y py)) spos.line X.env=pure true:=by rfl) (hf:∀v,foldedSetIterable iter X.env v=pure v:=by intro _;rfl) :
  DS X (.Assign [.Name y py] (.ListComp elt [⟨.Name x px,iter,ifs,0⟩] scope pos) spos) (aE i (bM it c f)):=by
 refine⟨?_⟩;subst hs hN';refine cc (Bh (wi:=jX X.K it) (tt:=liftT X.K c) (te:=lift X.K f) hc S hN hi' hy hf' hi.pe (fun C s0 H0 ex=>(he C s0 H0 ex).pe) (fun C s0 H0 ex=>(ht C s0 H0 ex).pe) hsw hf) fun D σ H=>?_;rintro⟨O₀,H₀,F,ts,O,ρ,T,fl,ρ',T',rs,e,q⟩;obtain⟨w,T1,e1,e⟩:=aJ e;obtain⟨ds,T2,e2,e1⟩:=aJ e1;obtain⟨ys,T3,e3,e1⟩:=aJ e1;cases e1;cases e;refine⟨O,ts,ρ,T,ds,T2,rs.hc,rs.re,e2,fun J H1 s1 hc1 ok hz=>?_⟩;exact oA hc1 (rs.re.mono rs.hc s1) ok hz e3 fun vs H' s2 hc2 r2 p hp=>q O _ _ ((rs.step (s1.trans (s2.trans (.new hp _))) (hc2.new hp _)).set (hc2.newL hp r2) fun _ z=>nomatch z)
theorem k8{i:Nat}{x:Str}{pos':Pos}{es:List Expr}{lpos:Pos}{g:FA}(hN:X.N.Nodup)(he:DA X es g)(hi:X.N[i]? = some x:=by rfl)(hx:Loc X.env.scope x:=by first|exact Or.inl rfl|exact Or.inr rfl)
  (hs:swapsWith (.List es lpos) (some (.Name x pos')) pos.line X.env=pure false:=by rfl) (hf:X.fn x=true\/X.env.scope.names.lookup x=some .local:=by first|exact .inl rfl|exact .inr rfl|assumption):DS X (.Assign [.Name x pos'] (.List es lpos) pos) (eN i g):=by
 refine⟨?_⟩;refine cc (gX hN hi hx (uL he.pe) hs hf) fun D σ H=>?_;rintro⟨O₀,H₀,F,ts,O,ρ,T,fl,ρ',T',rs,e,q⟩;obtain⟨ws,T1,e1,e⟩:=aJ e;refine⟨O,ts,ρ,T,ws,T1,rs.hc,rs.re,e1,fun vs H1 s1 hc1 r1=>?_⟩;split at e
 .rename_i xs h1
  split at e
  .rename_i h2
   cases e;have rv:=kS r1 h1;exact⟨n9 (by rw[rv.length];exact h2),fun p hp=>q _ _ _ ((rs.step s1 hc1).own hp rv)⟩
  .cases e
 .cases e
theorem aK{ce:Expr}{a b:List Stmt}(hc:DT X ce c)(ha:DSs X a f)(hb:DSs X b g):DS X (.If ce a b pos) (fIf c f g):=by
 refine⟨?_⟩;refine cc (Ee hc.pe ha.pe hb.pe) fun D σ H=>?_;rintro⟨O₀,H₀,F,ts,O,ρ,T,fl,ρ',T',rs,e,q⟩;obtain⟨b1,T1,e1,e⟩:=aJ e;refine⟨O,ts,ρ,T,b1,T1,rs.hc,rs.re,e1,fun H1 s1 hc1=>?_⟩
 cases b1 with
 |true=>exact gA ⟨O₀,H₀,F,ts,O,ρ,T1,fl,ρ',T',rs.step s1 hc1,by simpa using e,q⟩
 |false=>exact gB ⟨O₀,H₀,F,ts,O,ρ,T1,fl,ρ',T',rs.step s1 hc1,by simpa using e,q⟩
theorem aB(he:DE X e fe):DS X (.Return (some e) pos) (ay fe):=by
 refine⟨?_⟩;refine cc (Ef (oN he.pe)) fun D σ H=>?_;rintro⟨O₀,H₀,F,ts,O,ρ,T,fl,ρ',T',rs,e,q⟩;obtain⟨w,T1,e1,e⟩:=aJ e;refine rs.frzG.imp fun H0 ⟨same,c0,re0⟩=>?_;refine⟨O₀,ts,bO ρ,T,w,T1,c0,re0,e1,fun v H1 s1 hc1 r1=>?_⟩
 cases w with
 |d x=>cases e;exact q v H1 (same.trans s1) hc1 r1
 |tp k=>cases e
 |loc xs=>cases e
theorem jN{i:Nat}{x:Str}{p apos:Pos}(he:DE X e fe)(hN:X.N[i]? = some x:=by rfl)(hv:Vis X.env.scope x:=by first|exact Or.inl rfl|exact Or.inr (Or.inl rfl)|exact Or.inr (Or.inr rfl))(hd:(x == ("__debug__" : Str))=false:=by decide)
  (hcd:(x == ("__classdict__" : Str))=false:=by decide) {cpos:Pos}
  (hbase:attributeBase (.Name x p) "append" X.env (eval (.Name x p) X.env)=eval (.Name x p) X.env:=by rfl)
  (hfew:((backTo cpos (starEach [e] X.env)).all (fun x=>!x.1)&&(backToKw cpos (keywordEach [] X.env)).all (fun x=>x.1.isSome)
   && decide (([e]:List Expr).length+([]:List Keyword).length+(if ([]:List Keyword).isEmpty then 0 else 1)<30))=true:=by exact mx rfl)
  (hline:(apos.endLine == cpos.line)=true:=by rfl) (hse:starEach [e] X.env=(false,eval e X.env)::starEach [] X.env:=by exact a8 rfl) (hplain:(backTo cpos (starEach [] X.env)).any (·.1)=false:=by exact bQ rfl)
  (hs:swapsWith (.Call (.Attribute (.Name x p) "append" apos) [e] [] cpos) none pos.line X.env=pure false:=by rfl) :
  DS X (.Expr (.Call (.Attribute (.Name x p) "append" apos) [e] [] cpos) pos) (dZ i fe):=by
 refine⟨?_⟩;refine cc (nR (jT PySem.F.plainAttrs_list PySem.F.slot_list_append PySem.F.type_list_append y4 (pv i hN hv hd hcd) (cT he.pe dB hse) hbase hfew hline hse hplain) hs) fun D σ H=>?_;rintro⟨O₀,H₀,F,ts,O,ρ,T,fl,ρ',T',rs,e,q⟩;obtain⟨w,T1,e1,e⟩:=aJ e;split at e
 .rename_i x0
  split at e
  .rename_i xs h1
   split at e
   .rename_i h2
    cases e;obtain⟨v,k1,a,rfl,k2,k3,vs,k4,k5⟩:=rs.re i _ h1;refine⟨_,k1,.inl ⟨rfl,vs,SqL.of k4⟩,O,ts,ρ,T,_,_,rs.hc,rs.re,e1,fun u H1 s1 hc1 r1=>?_⟩;have rs1:=rs.step s1 hc1;exact⟨a,vs,u,rfl,rfl,s1 _ _ k3 k4,by rw[k5.length];exact h2,q O _ _ (rs1.put (us:=[]) h1 k1 ((k5.mono (rs.hc.le s1)).append (.cons r1 .nil)))⟩
   .cases e
  .cases e
 .cases e
end
section
variable {K:Frag}{O₀:Addr->Prop}{H₀:Hp}{F:List ((Addr->Prop)×Hp)}{ts:List Addr}{O:Addr->Prop}{H H1:Hp}{σ:L2.St}{ρ:Rho}{T T1:Tp}
theorem RS.less{f:(Addr->Prop)×Hp}(r:RS K O₀ H₀ (f::F) ts O H σ ρ T):RS K O₀ H₀ F ts O H σ ρ T:=⟨r.hc,r.re,r.sub,r.ots,r.same,r.fresh,r.dist,fun f hf=>r.frs f (List.mem_cons_of_mem _ hf),r.len⟩
theorem RS.more(r:RS K O₀ H₀ F ts O H σ ρ T):RS K O₀ H₀ ((O,H)::F) ts O H σ ρ T:=⟨r.hc,r.re,r.sub,r.ots,r.same,r.fresh,r.dist,fun f hf=>by
 rcases List.mem_cons.mp hf with z|z
 .subst z;exact fun a o n e=>⟨n,e⟩
 .exact r.frs f z,r.len⟩
def frzAt(i:Nat)(ρ:Rho):Rho:=match ρ[i]? with
 |some (some (.loc x))=>ρ.set i (some (.d x))
 |_=>ρ
theorem RS.frzAt(i:Nat)(r:RS K O₀ H₀ F ts O H σ ρ T):Gh (fun H'=>∃O',RS K O₀ H₀ F ts O' H' σ (frzAt i ρ) T) H:=by
 unfold D.frzAt;split
 .rename_i xs h1
  by_cases hd:∃ds,xs=.dict ds
  .obtain⟨ds,rfl⟩:=hd
   obtain⟨a,kvs,e1,f⟩:=r.frzD h1;exact .frz e1 fun o=>.done ⟨_,f o⟩
  refine .done ?_;obtain⟨v,k1,a,rfl,k2,k3,k4⟩:=r.re i _ h1;have hl:i<ρ.length:=(List.getElem?_eq_some_iff.mp h1).1;have le:Le O H (fun b=>O b/\b≠a) H:=fun b o n e=>⟨fun z=>n z.1,e⟩;have fr:=r.fresh i xs a h1 k1
  have hw:∀ys,W.d xs≠.loc ys:=fun _ z=>nomatch z
  refine⟨fun b=>O b/\b≠a,⟨fun b hb=>⟨r.hc.own b hb,fun z=>k3 (z ▸ hb)⟩,fun b hb=>r.hc.trk b hb.1,r.hc.nd,r.hc.len,fun j b ys e1 e2=>?_⟩,fun j w e=>?_,fun b hb=>⟨r.sub b hb,fun z=>fr.2 (z ▸ hb)⟩,r.ots,r.same,fun j ys b e1 e2=>?_,fun j k ys zs v e1 e2 e3 e4=>?_,fun f hf=>(r.frs f hf).trans le,by simp[r.len]⟩
  .exact(r.hc.tape j b ys e1 e2).mono (fun _ h=>h) le
  .by_cases z:i=j
   .subst z
    rw[List.getElem?_set_self hl] at e;cases e;refine⟨.ref a,k1,?_⟩
    cases xs with
    |list xs=>obtain⟨vs,k4,k5⟩:=k4;exact .lst (.inl ⟨fun z=>z.2 rfl,.inl k4⟩) (k5.mono le)
    |dict xs=>exact absurd ⟨xs,rfl⟩ hd
    |_=>cases k4
   .rw[List.getElem?_set_ne z] at e
    obtain⟨x,q1,q2⟩:=r.re j w e;refine⟨x,q1,?_⟩
    cases w with
    |d y=>exact Rep.mono le q2
    |tp k=>exact q2
    |loc ys=>
     obtain⟨b,eb,m1,m2,m3⟩:=q2;refine⟨b,eb,⟨m1,fun q=>z (r.dist i j xs ys (.ref a) h1 e k1 (by rw[q1,eb,q]))⟩,m2,m3.mono (fun _ q=>q) le⟩
  .obtain⟨n,e⟩:=e8 hw e1
   exact r.fresh j ys b e e2
  .obtain⟨n1,e1⟩:=e8 hw e1
   obtain⟨n2,e2⟩:=e8 hw e2;exact r.dist j k ys zs v e1 e2 e3 e4
 .exact .done ⟨O,r⟩
end
def kb(i:Nat)(f:FS):FS:=fun ρ T=>f (frzAt i ρ) T
section
variable {X:Cx}{pos:Pos}{st:Stmt}{rest:List Stmt}{f g:FS}{e:Expr}{fe:FE}{c:FT}
theorem uc(i:Nat)(h:DSs X rest f):DSs X rest (kb i f):=by
 refine⟨?_⟩;refine nQ (CN h.pe) fun D σ H=>?_;rintro⟨O₀,H₀,F,ts,O,ρ,T,fl,ρ',T',rs,e,q⟩;exact(rs.frzAt i).imp fun H' ⟨O',rs'⟩=>⟨O₀,H₀,F,ts,O',_,T,fl,ρ',T',rs',e,q⟩
theorem cx{i:Nat}{x:Str}{iter:Expr}{body:List Stmt}{tpos:Pos}{it:FI}(hN:X.N.Nodup)(hi:DI X (.Name x tpos) iter it)(hb:DSs X body f)(hix:X.N[i]? = some x:=by rfl)(hx:Loc X.env.scope x:=by first|exact Or.inl rfl|exact Or.inr rfl)
  (hf:X.fn x=true\/X.env.scope.names.lookup x=some .local:=by first|exact .inl rfl|exact .inr rfl|assumption) (hp:PassesOwn (model X.prog X.w) X.A X.env X.xe:=by exact PassesOwn.never) (hc:X.calm=true:=by rfl)
  (hs:∀x,foldedSetIterable iter X.env x=pure x:=by intro _;rfl):DS X (.For (.Name x tpos) iter body [] pos) (bc i it f):=by
 refine⟨?_⟩;refine cc (uH hp hc hi.pe (nS hN hix hx hf) hb.pe hs) fun D σ H=>?_;rintro⟨O₀,H₀,F,ts,O,ρ,T,fl,ρ',T',rs,e,q⟩;obtain⟨ds,T1,e1,e⟩:=aJ e;refine⟨O,ts,ρ,T,ds,T1,rs.hc,rs.re,e1,fun J H1 s1 hc1 ok hz=>?_⟩;refine⟨fun k m σ H=>m=ds.length-k/\k<=ds.length/\∃O' ρk Tk,RS X.K O₀ H₀ ((O,H1)::F) ts O' H σ ρk Tk/\forL i f (ds.drop k) ρk Tk=some ((fl,ρ'),T'),⟨_,rfl,Nat.zero_le _,O,ρ,T1,(rs.step s1 hc1).more,e⟩,?_⟩;rintro k m σ2 H2 ⟨rfl,hk,O',ρk,Tk,rs2,ek⟩;obtain⟨k1,k2,k3⟩:=ok O' H2 (rs2.frs _ List.mem_cons_self)
 by_cases hlt:k<ds.length
 .refine .inr ⟨k1 k hlt,fun σ3 H3=>∃O' ρk Tk,RS X.K O₀ H₀ ((O,H1)::F) ts O' H3 σ3 ρk Tk/\forL i f (ds.drop (k+1)) ρk Tk=some ((fl,ρ'),T'),fun σ3 H3 n=>⟨ds.length-(k+1),by omega,rfl,hlt,n⟩,fun v H3 y=>?_⟩
  obtain⟨e2,d,hd,rd⟩:=k3 k v H3 y hlt;subst e2
  have hdr:ds.drop k=d::ds.drop (k+1):=by
   rw[List.drop_eq_getElem_cons hlt];have:=(List.getElem?_eq_some_iff.mp hd).2;rw[this]
  rw[hdr] at ek;obtain⟨⟨fl1,ρ1⟩,T3,e3,ek⟩:=aJ ek;refine⟨O₀,H₀,(O,H1)::F,ts,O',_,Tk,fl1,ρ1,T3,rs2.set (i:=i) (w:=.d d) rd (fun _ z=>nomatch z),e3,?_⟩
  cases fl1 with
  |nx=>exact fun O3 σ3 H3 rs3=>⟨O3,ρ1,T3,rs3,ek⟩
  |ct=>exact fun O3 σ3 H3 rs3=>⟨O3,ρ1,T3,rs3,ek⟩
  |bk=>
   cases ek;exact fun O3 σ3 H3 rs3=>q O3 σ3 H3 rs3.less
  |rt x=>
   cases ek;exact q
  |ro x=>
   cases ek;exact q
 .have e:k=ds.length:=by omega
  subst e;rw[List.drop_eq_nil_of_le (Nat.le_refl _)] at ek;cases ek;exact .inl ⟨k2,q O' σ2 H2 rs2.less⟩
theorem kO{ce:Expr}{body:List Stmt}(n:Nat)(hc:DT X ce c)(hb:DSs X body f)(hp:PassesOwn (model X.prog X.w) X.A X.env X.xe:=by exact PassesOwn.never):DS X (.While ce body [] pos) (bR c f n):=by
 refine⟨?_⟩;refine cc (z5 hp hc.pe hb.pe) fun D σ H=>?_;rintro⟨O₀,H₀,F,ts,O,ρ,T,fl,ρ',T',rs,e,q⟩;refine⟨fun m σ H=>∃O' ρm Tm,RS X.K O₀ H₀ F ts O' H σ ρm Tm/\bR c f m ρm Tm=some ((fl,ρ'),T'),⟨n,O,ρ,T,rs,e⟩,?_⟩;rintro m σ2 H2 ⟨O',ρm,Tm,rs2,em⟩
 cases m with
 |zero=>cases em
 |succ m=>
  obtain⟨b,T3,e3,em⟩:=aJ em;refine⟨O',ts,ρm,Tm,b,T3,rs2.hc,rs2.re,e3,fun H3 s3 hc3=>?_⟩;have rs3:=rs2.step s3 hc3
  cases b with
  |false=>
   rw[if_neg Bool.false_ne_true] at em;cases em;exact gB (q O' σ2 H3 rs3)
  |true=>
   rw[if_pos rfl] at em;obtain⟨⟨fl1,ρ1⟩,T4,e4,em⟩:=aJ em;refine gA ⟨fun σ3 H3=>∃O' ρm Tm,RS X.K O₀ H₀ F ts O' H3 σ3 ρm Tm/\bR c f m ρm Tm=some ((fl,ρ'),T'),fun σ3 H3 n=>⟨m,Nat.lt_succ_self m,n⟩,O₀,H₀,F,ts,O',ρm,T3,fl1,ρ1,T4,rs3,e4,?_⟩
   cases fl1 with
   |nx=>exact fun O3 σ3 H3 rs3=>⟨O3,ρ1,T4,rs3,em⟩
   |ct=>exact fun O3 σ3 H3 rs3=>⟨O3,ρ1,T4,rs3,em⟩
   |bk=>
    cases em;exact fun O3 σ3 H3 rs3=>q O3 σ3 H3 rs3
   |rt x=>
    cases em;exact q
   |ro x=>
    cases em;exact q
end
abbrev FnM:=List W->Tp->Option (PyData×Tp)
def dR:List W->Bool
 |[]=>true
 |.loc _::_=>false
 |_::r=>dR r
def bu(o:Option ((Fl×Rho)×Tp)):Option (PyData×Tp):=bnd o fun p T=>match p with
 |(.rt x,_)=>some (x,T)
 |(.nx,_)=>some (.none,T)
 |_=>none
def aL(N:Nat)(f:FS):FnM:=fun ws T=>if dR ws=true then bu (f (ws.map some++List.replicate (N-ws.length) none) T) else none
inductive SpMP(K:Frag)(n:Nat)(m:FnM)(vs:List V)(H:Hp)(Q:VK):Prop where
 |mk (O:Addr->Prop) (ts:List Addr) (T:Tp) (ws:List W) (x:PyData) (T':Tp) (hc:HC K O ts H T) (r:gx K O ts H vs ws) (hl:ws.length=n) (e:m ws T=some (x,T')) (q:∀v H',SameX ts H H'->HC K O ts H' T'->Rep K O H' v x->Q v H'):SpMP K n m vs H Q
def spM(K:Frag)(n:Nat)(m:FnM):Sp:=fun vs H Q _=>SpMP K n m vs H Q
theorem mP{K:Frag}{O:Addr->Prop}{ts:List Addr}{H:Hp}:∀{vs:List V}{ws:List W}{i:Nat}{w:W},gx K O ts H vs ws->ws[i]? = some w->∃v,vs[i]? = some v/\RepW K O ts H v w
 |_,_,_,_,.nil,e=>by simp at e
 |_,_,0,_,.cons r _,e=>by simp at e;subst e;exact⟨_,rfl,r⟩
 |_,_,i+1,w,.cons _ t,e=>by
  obtain⟨d,h1,h2⟩:=mP (i:=i) (w:=w) t (by simpa using e);exact⟨d,by simpa using h1,h2⟩
theorem kB:∀{ws:List W}{xs:PyData},dR ws=true->W.loc xs∉ws
 |[],_,_,h=>by cases h
 |.loc _::_,_,e,_=>by cases e
 |.d _::r,_,e,h=>by
  rcases List.mem_cons.mp h with z|z
  .cases z
  .exact kB (ws:=r) e z
 |.tp _::r,_,e,h=>by
  rcases List.mem_cons.mp h with z|z
  .cases z
  .exact kB (ws:=r) e z
theorem ku{ws:List W}{n i:Nat}{w:W}(e:(ws.map some++List.replicate n none)[i]? = some (some w)):ws[i]? = some w:=by
 by_cases h:i<ws.length
 .rw[List.getElem?_append_left (by simpa using h),List.getElem?_map] at e
  cases q:ws[i]? with
  |none=>rw[q] at e;cases e
  |some u=>rw[q] at e;cases e;rfl
 .rw[List.getElem?_append_right (by simpa using h)] at e
  have:=List.mem_of_getElem? e;rw[List.mem_replicate] at this;cases this.2
theorem dfn{P:Program}{w:World}{K:Frag}{mg:Str->Option Value}{base:Heap}{x qual:Str}{st:Stmt}{f:Addr}{fd:FuncData}{N ps:List Str}{k:Nat}{m:FS}(F:Fun K x qual st f fd)(S:FnScope N ps (a9 st))
  (hbody:∀(cdv:Value) (A:Around) (outer:List Env) (s:Shared) (H:Hp) (E:XK),Room k (A.deeper (envOfC qual (a9 st) s.heap.objs.size f cdv))->DSs (eF CX0 P w K mg base N qual (a9 st) f cdv A outer s H E).nox (cb st) m) :
  FnOk P w K mg base CX0 (k+1) f fd ps (spM K ps.length (aL N.length m)):=by
 refine F.ok S (fun vs H Q E h=>?_) (fun cdv A outer s H vs Q E hr h=>⟨_,(hbody cdv A outer s H E hr).pe,?_⟩)
 .obtain⟨O,ts,T,ws,x,T',hc,rw',hl,_⟩:=h
  rw[←hl];exact Paired.length rw'
 obtain⟨O,ts,T,ws,x,T',hc,rw',hl,e,q⟩:=h;unfold aL at e;split at e
 .rename_i hn
  obtain⟨⟨fl,ρ'⟩,T1,e1,e⟩:=aJ e;have hlen:vs.length=ws.length:=Paired.length rw';have noL:∀{i:Nat}{xs:PyData},(ws.map some++List.replicate (N.length-ws.length) none)[i]? = some (some (W.loc xs))->False:=fun {i xs} e=>kB hn (List.mem_of_getElem? (ku e));refine⟨O,H,[],ts,O,_,T,fl,ρ',T1,⟨hc,fun i u e=>?_,fun _ h=>h,hc.own,.refl _ _,fun i xs a e1 _=>(noL e1).elim,fun i j xs ys v e1 _ _ _=>(noL e1).elim,fun f hf=>absurd hf (by simp),by simp[L2.start,hlen]⟩,e1,?_⟩
  .obtain⟨v,h1,h2⟩:=mP rw' (ku e)
   refine⟨v,?_,h2⟩;unfold L2.start;have hi:i<vs.length:=(List.getElem?_eq_some_iff.mp h1).1;rw[List.getElem?_append_left (by simpa using hi),List.getElem?_map,h1];rfl
  .cases fl with
   |rt y=>cases e;exact fun v H' s1 c1 r1=>q v H' s1 c1 r1
   |nx=>
    cases e;exact fun O' σ' H' rs=>q _ _ rs.same rs.frzH .non
   |bk=>cases e
   |ct=>cases e
   |ro y=>cases e
 .cases e
def ar(m:FnM)(g:FA):FE:=fun ρ T=>bnd (g ρ T) fun ws T1=>bnd (m ws T1) fun x T2=>some (.d x,T2)
def fO(g:FA)(n:Nat):Prop:=∀ρ T ws T',g ρ T=some (ws,T')->ws.length=n
theorem c8:fO ah 0:=fun ρ T ws T' e=>by cases e;rfl
theorem bi{f:FE}{g:FA}{n:Nat}(h:fO g n):fO (ae f g) (n+1):=fun ρ T ws T' e=>by
 obtain⟨w1,T1,e1,e⟩:=aJ e;obtain⟨ws,T2,e2,e⟩:=aJ e;cases e;rw[List.length_cons,h _ _ _ _ e2]
theorem jC{X:Cx}{name:Str}{ps:List Str}{k:Nat}{m:FnM}{e:Expr}{es:List Expr}{g:FA}{p pos:Pos}(F:Fn X.prog X.w X.K X.mg X.base name ps k (spM X.K ps.length m))(hr:Room k X.A)(hg:Gl X name)(ha:DA X (e::es) g)(hl:fO g ps.length)(hdb:(name == ("__debug__" : Str))=false:=by decide)
  (he:starEach (e::es) X.env=(false,eval e X.env)::starEach es X.env:=by exact a8 rfl) (hpl:(backTo pos (starEach es X.env)).any (·.1)=false:=by exact bQ rfl):DE X (.Call (.Name name p) (e::es) [] pos) (ar m g):=by
 refine⟨?_⟩;refine bj (iV F hr hg ha.pe hdb he hpl) fun σ H Q=>?_;rintro⟨O,ts,ρ,T,w,T',hc,re,e,q⟩;obtain⟨ws,T1,e1,e⟩:=aJ e;obtain⟨x,T2,e2,e⟩:=aJ e;cases e;refine⟨O,ts,ρ,T,ws,T1,hc,re,e1,fun vs H1 s1 hc1 r1=>?_⟩;refine⟨O,ts,T1,ws,x,_,hc1,by rw[List.append_nil];exact r1,hl _ _ _ _ e1,e2,fun v H2 s2 hc2 r2=>q v H2 (s1.trans s2) hc2 r2⟩
noncomputable def iop(g:Int->Int->Option PyData):PyData->PyData->Option PyData
 |.int i,.int j=>g i j
 |_,_=>none
def ib:PyData->PyData->Option PyData:=iop fun i j=>some (.int (i-j))
def cO:PyData->PyData->Option PyData:=iop fun i j=>if 0<j then some (.int (i % j)) else none
def EM:PyData->PyData->Option PyData:=iop fun i j=>if 0<j/\j<1073741824 then some (.int (i / j)) else none
def fJ:PyData->PyData->Option PyData:=iop fun i j=>if 0<=j/\j<=1000000/\i.natAbs<2^64 then some (.int (i^j.toNat)) else none
def ltD:PyData->PyData->Option PyData:=iop fun i j=>some (.bool (decide (i<j)))
def leD:PyData->PyData->Option PyData:=iop fun i j=>some (.bool (decide (i<=j)))
def gtD:PyData->PyData->Option PyData:=iop fun i j=>some (.bool (decide (j<i)))
def geD:PyData->PyData->Option PyData:=iop fun i j=>some (.bool (decide (j<=i)))
theorem u9{g:Int->Int->Option PyData}{x y d:PyData}(e:iop g x y=some d):∃i j,x=.int i/\y=.int j/\g i j=some d:=by
 unfold iop at e;split at e
 .exact⟨_,_,rfl,rfl,e⟩
 .cases e
theorem lx{K:Frag}{C:Int->Int->Prop}{g:Int->Int->V}{gd:Int->Int->Option PyData}(h:∀i j d,gd i j=some d->C i j/\∀O H,Rep K O H (g i j) d):gD K (rI C g) (iop gd):=fun O ts H T v1 v2 x y d Q hc h1 h2 e q=>by
 obtain⟨i,j,rfl,rfl,e⟩:=u9 e;obtain⟨c,r⟩:=h i j d e;exact⟨i,j,h1.int,h2.int,c,q _ H (.refl _ _) hc (r O H)⟩
theorem jy{K:Frag}{g:Int->Int->V}{gd:Int->Int->Option PyData}(h:∀i j d,gd i j=some d->∀O H,Rep K O H (g i j) d):gD K (rI0 g) (iop gd):=fun O ts H T v1 v2 x y d Q hc h1 h2 e q=>by
 obtain⟨i,j,rfl,rfl,e⟩:=u9 e;exact⟨i,j,h1.int,h2.int,q _ H (.refl _ _) hc (h i j d e O H)⟩
section
variable {X:Cx}
theorem pA:OpD X (binaryOp .Sub) ib:=⟨_,C1,jy fun i j d e O H=>by cases e;exact .int _⟩
theorem gm:OpD X (binaryOp .Mod) cO:=⟨_,C5,lx fun i j d e=>by
 split at e
 .rename_i h;cases e;exact⟨h,fun _ _=>.int _⟩
 .cases e⟩
theorem jU:OpD X (binaryOp .Pow) fJ:=⟨_,C3,lx fun i j d e=>by
 split at e
 .rename_i h;cases e;exact⟨h,fun _ _=>.int _⟩
 .cases e⟩
theorem ig:OpD X (compareOp .Lt) ltD:=⟨_,Em,jy fun i j d e O H=>by cases e;exact .bl _⟩
theorem df:OpD X (compareOp .LtE) leD:=⟨_,En,jy fun i j d e O H=>by cases e;exact .bl _⟩
theorem i3:OpD X (compareOp .Gt) gtD:=⟨_,Eo,jy fun i j d e O H=>by cases e;exact .bl _⟩
theorem Fu:OpD X (compareOp .GtE) geD:=⟨_,Ep,jy fun i j d e O H=>by cases e;exact .bl _⟩
def aG:PyData->PyData->Option PyData
 |.int i,.int j=>some (.int (i+j))
 |.str x,.str y=>if x.length+y.length<=sizeLine then some (.str (x++y)) else none
 |.tuple xs,.tuple ys=>if xs.length+ys.length<=sizeLine then some (.tuple (xs++ys)) else none
 |.list xs,.list ys=>if xs.length+ys.length<=sizeLine then some (.list (xs++ys)) else none
 |_,_=>none
def Ec(K:Frag):R2:=fun x y H Q=>∃l b xs zs,x=.ref l/\y=.ref b/\SqL K H l xs/\SqL K H b zs/\xs.length+zs.length<=sizeLine/\∀p,H p=none->Q (.ref p) (upd H p (.lst (xs++zs)))
theorem tH:OpR X (binaryOp .Add) (Ec X.K):=by
 intro pins s σ H x y v u Q I rx ry h;obtain⟨l,b,xs,zs,rfl,rfl,hH,hB,hz,q⟩:=h;cases rx;cases ry;obtain⟨its,r,p1,_⟩:=I.list hH;obtain⟨its2,r2,p2,_⟩:=I.list hB;have hl:=r.length;have hl2:=r2.length;obtain⟨⟨cls,dd,data,sl⟩,ho,hc,n,hd⟩:=id p1.isList;obtain⟨⟨cls2,dd2,data2,sl2⟩,ho2,hc2,n2,hd2⟩:=id p2.isList;simp only at hc hd hc2 hd2;subst hc hd hc2 hd2
 have ea:its.toArray++its2.toArray=(its++its2).toArray:=by simp
 refine concat_meets ⟨_,ho,rfl⟩ ⟨_,ho2,rfl⟩ noFill_list_add seq_list_add PySem.F.slot_list_add PySem.F.entry_list_add (PySem.F.args_list_add_2 _ _) (list_addW l b its.toArray its2.toArray n n2 dd dd2 sl sl2 (by rw[List.size_toArray,List.size_toArray];omega)) ⟨ho,ho2,?_⟩;rw[ea];exact⟨.ref _,_,I.lnew (t':=s.toks) (r.append r2) (by rw[List.length_append];omega),rfl,q _ I.fresh⟩
theorem aV:OpD X (binaryOp .Add) aG:=by
 refine⟨_,op_add.or (op_add_str.or (op_catG.or tH)),fun O ts H T v1 v2 x y d Q hc h1 h2 e q=>?_⟩;unfold aG at e;split at e
 .cases e
  exact .inl ⟨_,_,h1.int,h2.int,q _ H (.refl _ _) hc (.int _)⟩
 .split at e
  .rename_i hz
   cases e;exact .inr (.inl ⟨_,_,h1.str,h2.str,hz,q _ H (.refl _ _) hc (.str _)⟩)
  .cases e
 .split at e
  .rename_i xs ys hz
   cases e;obtain⟨a,vs,rfl,t1,r1⟩:=h1.tup;obtain⟨b,us,rfl,t2,r2⟩:=h2.tup;refine .inr (.inr (.inl ⟨a,b,vs,us,rfl,rfl,t1.sq,t2.sq,by rw[r1.length,r2.length];exact hz,fun z=>?_,fun _ z=>?_,fun _ _ p hp=>?_⟩))
   .subst z
    cases r1;exact q _ H (.refl _ _) hc (.tup t2 r2)
   .subst z
    cases r2;rw[List.append_nil] at q;exact q _ H (.refl _ _) hc (.tup t1 r1)
   .exact q _ _ (.new hp _) (hc.new hp _) (hc.newT hp (r1.append r2))
  .cases e
 .split at e
  .rename_i xs ys hz
   cases e;obtain⟨a,vs,rfl,t1,r1⟩:=h1.lst;obtain⟨b,us,rfl,t2,r2⟩:=h2.lst;exact .inr (.inr (.inr ⟨a,b,vs,us,rfl,rfl,t1,t2,by rw[r1.length,r2.length];exact hz,fun p hp=>q _ _ (.new hp _) (hc.new hp _) (hc.newL hp (r1.append r2))⟩))
  .cases e
 .cases e
theorem xi:fillsNumberSlot (.type "tuple") "mul"=pure false:=PySem.fillsNumberSlot_seq (id:="tuple.__mul__") (r:=some (.builtin "tuple.__rmul__")) PySem.F.slot_tuple_mul.lookup (by decide +kernel) PySem.F.slot_tuple_rmul.lookup (by decide +kernel)
theorem xF:seqRepeat? (.type "tuple")=pure (some (.builtin "tuple.__mul__")):=by
 unfold seqRepeat?;rw[PySem.seqSlot_of (T:="tuple") (name:="__mul__") (id:="tuple.__mul__") PySem.F.slot_tuple_mul.lookup (by decide +kernel),PySem.seqSlot_of (T:="tuple") (name:="__rmul__") (id:="tuple.__rmul__") PySem.F.slot_tuple_rmul.lookup (by decide +kernel)];rfl
theorem xp(a:Int)(t:Tok)(l:Addr)(items:Array Value)(n:Nat)(dd:Option Addr)(sl:Array (Option Value)) :
  Meets (Builtin.«int.__rmul__» ⟨[.int a t,.ref l],[]⟩) (fun _ R s=>s.heap.get? l=some { cls:=.type "tuple",dict:=dd,data:=.seq items n,slots:=sl }/\R (.ok (.ret Value.notImplemented)) s):=.of_wp fun prog w A R s h=>by obtain⟨hp,g,d,tk,os⟩:=s;obtain⟨hl,h⟩:=h;wp_walk;exact⟨_,rfl,h⟩
theorem yi(l:Addr)(items:Array Value)(n:Nat)(dd:Option Addr)(sl:Array (Option Value))(k:Int)(t:Tok)(h1:2<=k)(h2:k<=1000)(h3:items.isEmpty=false)(h4:items.size<=1000) :
  Meets (Builtin.«tuple.__mul__» ⟨[.ref l,.int k t],[]⟩) (fun _ R s=>s.heap.get? l=some { cls:=.type "tuple",dict:=dd,data:=.seq items n,slots:=sl }/\R (.ok (.ret (Value.ref s.heap.objs.size))) { s with heap:=s.heap.push { cls:=Value.type "tuple",data:=Data.seq (List.foldl (fun x1 x2=>x1++x2) #[] (List.replicate k.toNat items)) },toks:=s.toks }):=
 .of_wp fun prog w A R s h=>by
  obtain⟨hp,g,d,tk,os⟩:=s;obtain⟨hl,h⟩:=h
  have hc0:¬(decide (k < -(2^63))||decide (k>=2^63))=true:=by simp;omega
  have hc1:¬(items.isEmpty||k == 1)=true:=by rw[h3];simp;omega
  have hc2:¬(decide (k<=0)||items.isEmpty)=true:=by rw[h3];simp;omega
  have hm:items.size*k.toNat<=1000*1000:=Nat.mul_le_mul h4 (by omega)
  have hm':(items.size:Int)*k<=1000000:=by
   have e:((items.size*k.toNat:Nat):Int)=(items.size:Int)*k:=by rw[Int.natCast_mul,Int.toNat_of_nonneg (by omega)]
   omega
  have hc3:¬(items.size:Int)*k>(2^63-1) / 8:=by
   have:(1000000:Int)<=(2^63-1) / 8:=by decide
   omega
  have hc4:¬Builtin.Tuple.tupleTooMany ((items.size:Int)*k)=true:=by
   unfold Builtin.Tuple.tupleTooMany
   have:sizeLine=16777216:=by decide
   simp;omega
  have ht:IsTup hp l items:=⟨_,hl,rfl,n,rfl⟩;wp_walk;rw[if_neg hc0];dsimp only;refine wpAny_bind (tupleItemsOf_ ht ?_);rw[if_neg hc1,if_neg hc2,if_neg hc3,if_neg hc4]
  have fit:sizeOk (.seq (List.foldl (fun x1 x2=>x1++x2) #[] (List.replicate k.toNat items))):=by
   show (List.foldl (fun x1 x2=>x1++x2) #[] (List.replicate k.toNat items)).size<=sizeLine;have q:=foldl_rep items.toList k.toNat [];rw[List.nil_append] at q
   have q':List.foldl (fun x1 x2=>x1++x2) #[] (List.replicate k.toNat items)=(List.replicate k.toNat items.toList).flatten.toArray:=by simpa using q
   rw[q',List.size_toArray,len_rep]
   have:sizeLine=16777216:=by decide
   rw[Array.length_toList,Nat.mul_comm];omega
  first
  |exact wpAny_bind (m:=Builtin.Tuple.tupleExact _) (wpAny_newObj_type (wpAny_pure ⟨_,rfl,h⟩) fit)
  |exact wpAny_bind (m:=Builtin.Tuple.tupleExact _) (wpAny_newObj_type (wpAny_bind (wpAny_pure (wpAny_pure ⟨_,rfl,h⟩))) fit)
theorem Bs:OpR X (binaryOp .Mult) (fun x y H Q=>∃a k xs,x=.ref a/\y=.int k/\SqT X.K H a xs/\2<=k/\k<=1000/\xs≠[]/\xs.length<=1000/\∀p,H p=none->Q (.ref p) (upd H p (.tup (List.replicate k.toNat xs).flatten))):=by
 intro pins s σ H x y v u Q I rx ry h;obtain⟨a,k,xs,rfl,rfl,hq,h1,h2,h3,h4,q⟩:=h;cases rx;obtain⟨t,rfl⟩:=ry;obtain⟨its,r,p1,_⟩:=I.tuple hq;have hl:=r.length;have hv:its≠[]:=fun z=>h3 (r.nil_iff.mp z);obtain⟨⟨cls,dd,data,sl⟩,ho,hc,n,hd⟩:=id p1;simp only at hc hd;subst hc hd
 have hnew:List.foldl (fun x1 x2=>x1++x2) #[] (List.replicate k.toNat its.toArray)=(List.replicate k.toNat its).flatten.toArray:=by
  have q:=foldl_rep its k.toNat [];rw[List.nil_append] at q;exact q
 have he:its.toArray.isEmpty=false:=by
  cases its with
  |nil=>exact absurd rfl hv
  |cons _ _=>simp
 refine wpAny_binaryOp_repeat_ref (T:="tuple") (U:="int") (by decide) ⟨_,ho,rfl⟩ (fun s'=>typeIs_int s' k t) xi F.fills_int_mul F.slot_int_rmul xF F.slot_int_index.lookup
  (call_meets F.slot_int_rmul (typeIs_int s k t) F.entry_int_rmul (F.args_int_rmul_2 _ _) (xp k t a its.toArray n dd sl)
   ⟨ho,rfl,⟨_,ho,rfl⟩,call_meets PySem.F.slot_tuple_mul ⟨_,ho,rfl⟩ PySem.F.entry_tuple_mul (PySem.F.args_tuple_mul_2 _ _) (yi a its.toArray n dd sl k t h1 h2 he (by rw[List.size_toArray];omega)) ⟨ho,?_⟩⟩)
 rw[hnew];refine⟨.ref s.heap.objs.size,_,I.laid (t':=s.toks) (o:=.tup (List.replicate k.toNat xs).flatten) (fun b ob q=>Heap.get?_push_of_some _ q) (Nat.le_refl _) ?_,rfl,q _ (I.hok.fresh (Nat.le_refl _))⟩;refine⟨?_,_,r.rep k.toNat,IsTup.new _ _⟩;rw[len_rep];have:k.toNat*xs.length<=1000*1000:=Nat.mul_le_mul (by omega) h4
 have:sizeLine=16777216:=by decide
 omega
def bA:PyData->PyData->Option PyData
 |.int i,.int j=>if (-(2^64)<i/\i<2^64)\/(-(2^64)<j/\j<2^64) then some (.int (i*j)) else none
 |.str z,.int k=>if 0<=k/\k<=2000/\z.length<=1000 then some (.str (Txt.mul z k)) else none
 |.tuple xs,.int k=>if 2<=k/\k<=1000/\xs.isEmpty=false/\xs.length<=1000 then some (.tuple (List.replicate k.toNat xs).flatten) else none
 |_,_=>none
theorem dF:OpD X (binaryOp .Mult) bA:=by
 refine⟨_,op_mul.or (op_mulS.or Bs),fun O ts H T v1 v2 x y d Q hc h1 h2 e q=>?_⟩;unfold bA at e;split at e
 .split at e
  .rename_i hz
   cases e;exact .inl ⟨_,_,h1.int,h2.int,hz,q _ H (.refl _ _) hc (.int _)⟩
  .cases e
 .split at e
  .rename_i hz
   cases e;exact .inr (.inl ⟨_,_,h1.str,h2.int,hz.1,hz.2.1,hz.2.2,q _ H (.refl _ _) hc (.str _)⟩)
  .cases e
 .split at e
  .rename_i xs k hz
   cases e;obtain⟨a,vs,rfl,t1,r1⟩:=h1.tup;exact .inr (.inr ⟨a,_,vs,rfl,h2.int,t1.sq,hz.1,hz.2.1,fun z=>by subst z;cases r1;exact absurd hz.2.2.1 (by simp),by rw[r1.length];exact hz.2.2.2,fun p hp=>q _ _ (.new hp _) (hc.new hp _) (hc.newT hp (r1.rep _))⟩)
  .cases e
 .cases e
def eqS:PyData->PyData->Option Bool
 |.int i,.int j=>some (decide (i=j))
 |.str x,.str y=>some (decide (x=y))
 |.bool a,.bool b=>some (decide (a=b))
 |.none,.none=>some true
 |.none,.int _=>some false | .int _,.none=>some false | .none,.bool _=>some false | .bool _,.none=>some false | .none,.str _=>some false | .str _,.none=>some false
 |.int _,.str _=>some false | .str _,.int _=>some false | .bool _,.str _=>some false | .str _,.bool _=>some false
 |_,_=>none
theorem vh{K:Frag}{O:Addr->Prop}{H:Hp}{v1 v2:V}{x y:PyData}{b:Bool}(h1:Vw K O H v1 x)(h2:Vw K O H v2 y)(e:eqS x y=some b):pR v1 v2=true/\decide (v1=v2)=b:=by
 unfold eqS at e;split at e
 all_goals first|(cases e;done)|skip
 .cases h1.int;cases h2.int;cases e;exact⟨rfl,by simp⟩
 .cases h1.str;cases h2.str;cases e;exact⟨rfl,by simp⟩
 .cases h1.bl;cases h2.bl;cases e;exact⟨rfl,by simp⟩
 .cases h1.non;cases h2.non;cases e;exact⟨rfl,by simp⟩
 .cases h1.non;cases h2.int;cases e;exact⟨rfl,by simp⟩
 .cases h1.int;cases h2.non;cases e;exact⟨rfl,by simp⟩
 .cases h1.non;cases h2.bl;cases e;exact⟨rfl,by simp⟩
 .cases h1.bl;cases h2.non;cases e;exact⟨rfl,by simp⟩
 .cases h1.non;cases h2.str;cases e;exact⟨rfl,by simp⟩
 .cases h1.str;cases h2.non;cases e;exact⟨rfl,by simp⟩
 .cases h1.int;cases h2.str;cases e;exact⟨rfl,by simp⟩
 .cases h1.str;cases h2.int;cases e;exact⟨rfl,by simp⟩
 .cases h1.bl;cases h2.str;cases e;exact⟨rfl,by simp⟩
 .cases h1.str;cases h2.bl;cases e;exact⟨rfl,by simp⟩
def eqD(x y:PyData):Option PyData:=(eqS x y).map .bool
def neD(x y:PyData):Option PyData:=(eqS x y).map fun b=>.bool (!b)
theorem aU:OpD X (compareOp .Eq) eqD:=⟨_,Er,fun O ts H T v1 v2 x y d Q hc h1 h2 e q=>by
 unfold eqD at e;obtain⟨b,e1,rfl⟩:=Option.map_eq_some_iff.mp e;obtain⟨k1,k2⟩:=vh h1 h2 e1
 exact⟨k1,by rw[k2];exact q _ H (.refl _ _) hc (.bl _)⟩⟩
theorem wU:OpD X (compareOp .NotEq) neD:=⟨_,El,fun O ts H T v1 v2 x y d Q hc h1 h2 e q=>by
 unfold neD at e;obtain⟨b,e1,rfl⟩:=Option.map_eq_some_iff.mp e;obtain⟨k1,k2⟩:=vh h1 h2 e1
 exact⟨k1,by rw[k2];exact q _ H (.refl _ _) hc (.bl _)⟩⟩
def isNone:PyData->Bool
 |.none=>true
 |_=>false
theorem rG{K:Frag}{O:Addr->Prop}{H:Hp}{v:V}{x:PyData}(h:Vw K O H v x):decide (v=.non)=isNone x:=by
 cases h with
 |rep h=>cases h <;> rfl
 |raw _ _=>rfl
 |rawD _ _=>rfl
def isD:PyData->PyData->Option PyData
 |x,.none=>some (.bool (isNone x))
 |_,_=>none
theorem Ft:OpD X (compareOp .Is) isD:=⟨_,C6,fun O ts H T v1 v2 x y d Q hc h1 h2 e q=>by
 unfold isD at e;split at e
 .cases e
  exact⟨h2.non,by rw[rG h1];exact q _ H (.refl _ _) hc (.bl _)⟩
 .cases e⟩
def iP:PyData->PyData->Option PyData
 |x,.none=>some (.bool (!isNone x))
 |.bool a,.bool b=>some (.bool (a != b))
 |_,_=>none
theorem Bx:OpD X (compareOp .IsNot) iP:=⟨_,op_notN.or yZ,fun O ts H T v1 v2 x y d Q hc h1 h2 e q=>by
 unfold iP at e;split at e
 .cases e
  exact .inl ⟨h2.non,by rw[rG h1];exact q _ H (.refl _ _) hc (.bl _)⟩
 .cases e
  exact .inr ⟨_,_,h1.bl,h2.bl,q _ H (.refl _ _) hc (.bl _)⟩
 .cases e⟩
def cK:PyData->Bool
 |.none=>true | .bool _=>true | .int _=>true | .str _=>true
 |_=>false
def eqF:PyData->PyData->Bool
 |.none,.none=>true
 |.bool a,.bool b=>a == b
 |.bool a,.int b=>(if a then 1 else 0) == b
 |.int a,.bool b=>a == (if b then 1 else 0)
 |.int a,.int b=>a == b
 |.str a,.str b=>a == b
 |_,_=>false
def i5(y x:Str):Bool:=!(Builtin.Str.occurrences y x 0 y.length 1).isEmpty
def inS:PyData->PyData->Option Bool
 |.str x,.str y=>some (i5 y x)
 |x,.list ys=>if cK x&&ys.all cK then some (ys.any fun y=>eqF y x) else none
 |x,.tuple ys=>if cK x&&ys.all cK then some (ys.any fun y=>eqF y x) else none
 |_,_=>none
theorem oo{K:Frag}{O:Addr->Prop}{H:Hp}{v:V}{x:PyData}(h:Rep K O H v x)(e:cK x=true):eM v=true:=by cases h <;> first|rfl|cases e
theorem DG{K:Frag}{O:Addr->Prop}{H:Hp}{v u:V}{x y:PyData}(h:Rep K O H v x)(g:Rep K O H u y)(ex:cK x=true)(ey:cK y=true):eqV v u=eqF x y:=by cases h <;> cases g <;> first|rfl|cases ex|cases ey
theorem nF{K:Frag}{O:Addr->Prop}{H:Hp}:∀{vs:List V}{xs:List PyData},Reps K O H vs xs->xs.all cK=true->vs.all eM=true
 |_,_,.nil,_=>rfl
 |_,_,.cons r t,e=>by
  rw[List.all_cons,Bool.and_eq_true] at e;rw[List.all_cons,oo r e.1,nF t e.2];rfl
theorem oF{K:Frag}{O:Addr->Prop}{H:Hp}{v:V}{x:PyData}(h:Rep K O H v x)(ex:cK x=true):∀{vs:List V}{xs:List PyData},Reps K O H vs xs->xs.all cK=true->(vs.any fun y=>eqV y v)=xs.any fun y=>eqF y x
 |_,_,.nil,_=>rfl
 |_,_,.cons r t,e=>by
  rw[List.all_cons,Bool.and_eq_true] at e;rw[List.any_cons,List.any_cons,DG r h e.1 ex,oF h ex t e.2]
theorem Vw.flat{K:Frag}{O:Addr->Prop}{H:Hp}{v:V}{x:PyData}(h:Vw K O H v x)(e:cK x=true):Rep K O H v x:=by
 cases h with
 |rep h=>exact h
 |raw _ _=>cases e
 |rawD _ _=>cases e
def inD(x y:PyData):Option PyData:=(inS x y).map .bool
def ft(x y:PyData):Option PyData:=(inS x y).map fun b=>.bool (!b)
theorem ly{K:Frag}(neg:Bool):gD K (fun x y H Q=>(∃i j,x=.str i/\y=.str j/\Q (.bl (if neg then !(i5 j i) else i5 j i)) H)\/rIn K neg x y H Q) (fun x y=>(inS x y).map fun b=>.bool (if neg then !b else b)):=fun O ts H T v1 v2 x y d Q hc h1 h2 e q=>by
 obtain⟨b,e1,rfl⟩:=Option.map_eq_some_iff.mp e;unfold inS at e1;split at e1
 .cases e1
  exact .inl ⟨_,_,h1.str,h2.str,q _ H (.refl _ _) hc (.bl _)⟩
 .split at e1
  .rename_i hf
   cases e1;rw[Bool.and_eq_true] at hf;obtain⟨a,vs,rfl,t,r⟩:=h2.lst;have r1:=h1.flat hf.1;refine .inr ⟨a,vs,rfl,.inl t,oo r1 hf.1,nF r hf.2,?_⟩;have z:inV v1 vs=_:=oF r1 hf.1 r hf.2;rw[z];exact q _ H (.refl _ _) hc (.bl _)
  .cases e1
 .split at e1
  .rename_i hf
   cases e1;rw[Bool.and_eq_true] at hf;obtain⟨a,vs,rfl,t,r⟩:=h2.tup;have r1:=h1.flat hf.1;refine .inr ⟨a,vs,rfl,.inr t.sq,oo r1 hf.1,nF r hf.2,?_⟩;have z:inV v1 vs=_:=oF r1 hf.1 r hf.2;rw[z];exact q _ H (.refl _ _) hc (.bl _)
  .cases e1
 .cases e1
theorem pS:OpD X (compareOp .In) inD:=⟨_,op_in_str.or rA,ly false⟩
theorem nW:OpD X (compareOp .NotIn) ft:=⟨_,op_notin_str.or qd,ly true⟩
def eS:PyData->Option PyData
 |.int i=>some (.int (-i))
 |_=>none
theorem lN{a:Expr}{fa:FE}{pos:Pos}(ha:DE X a fa):DE X (.UnaryOp .USub a pos) (fUn eS fa):=ES Cn (fun O ts H T v x d Q hc h e q=>by
 unfold eS at e;split at e
 .cases e
  exact⟨_,h.int,q _ H (.refl _ _) hc (.int _)⟩
 .cases e) ha
def ixD:PyData->PyData->Option PyData
 |.list xs,.int i=>atI xs i
 |.tuple xs,.int i=>atI xs i
 |.str z,.int i=>if z.length<=sizeLine then (atI z.cps.toList i).map fun c=>.str ⟨#[c]⟩ else none
 |_,_=>none
theorem tE{K:Frag}{O:Addr->Prop}{H:Hp}{vs:List V}{xs:List PyData}{i:Int}{d:PyData}(r:Reps K O H vs xs)(e:atI xs i=some d):∃v,atI vs i=some v/\Rep K O H v d:=by
 unfold atI at e ⊢;rw[r.length]
 cases h:ixN xs.length i with
 |none=>rw[h] at e;cases e
 |some j=>
  rw[h] at e;exact r.getD e
theorem au:IxD X ixD:=⟨_,Dq,fun O ts H T v1 v2 x y d Q hc h1 h2 e q=>by
 unfold ixD at e;split at e
 .obtain⟨a,vs,rfl,t,r⟩:=h1.lst
  obtain⟨v,k1,k2⟩:=tE r e;exact .inl ⟨a,vs,_,v,rfl,h2.int,t,k1,q _ H (.refl _ _) hc k2⟩
 .obtain⟨a,vs,rfl,t,r⟩:=h1.tup
  obtain⟨v,k1,k2⟩:=tE r e;exact .inr (.inl ⟨a,vs,_,v,rfl,h2.int,t.sq,k1,q _ H (.refl _ _) hc k2⟩)
 .split at e
  .rename_i hz
   obtain⟨c,k1,rfl⟩:=Option.map_eq_some_iff.mp e;exact .inr (.inr ⟨_,_,c,h1.str,h2.int,hz,k1,q _ H (.refl _ _) hc (.str _)⟩)
  .cases e
 .cases e⟩
end
theorem xg{prog:Program}{w:World}{A:Around}{E:Value->Shared->Prop}{s:Shared}{t sl:Addr}{items:Array Value}{vl vu:Value}{lo hi:Option Int}{Q:Value->Shared->Prop}(ht:IsTup s.heap t items)(hs:s.heap.IsSliceOf sl vl vu .none)(pl:IsPart vl lo)(pu:IsPart vu hi)
  (hw:HT.sIx items.size 0 lo=0/\HT.sIx items.size items.size hi=items.size) (h:Q (.ref t) s):wpAny (model prog w) A (getItem (.ref t) (.ref sl)) Q E s:=by
 obtain⟨os,hos,hcs,hds⟩:=id hs;have hTs:s.TypeIs (.ref sl) "slice":=⟨os,hos,hcs⟩;unfold getItem
 try with_reducible refine wpAny_holding ?_
 first|refine wpAny_bind (wpAny_pure ?_)|skip
 refine wpAny_bind (wpAny_sequenceKey ht.typeIs (by decide) ?_)
 refine wpAny_bind (wpAny_callSpecial?_slot (name:=Str.ofString "__getitem__") ht.typeIs PyProof.Rows.slot_tuple_getitem
  (wpAny_call_entry PyProof.Rows.slot_tuple_getitem ht.typeIs entry_tuple_getitem ?_ (args_tuple_getitem _ _)))
 show wpAny _ _ (Builtin.Tuple.tupleItemsOf (.ref t) >>= _) _ _ s;refine wpAny_bind (tupleItemsOf_ ht ?_);refine wpAny_bind (wpAny_typeOf hTs ?_);rw[if_pos (by decide)];refine wpAny_bind (HT.p9 hs pl pu ?_)
 have hyes:((((HT.sIx items.size 0 lo:Nat):Int) == 0&&(1:Int) == 1&&(HT.sIx items.size items.size hi-HT.sIx items.size 0 lo) == items.size)=true):=by
  rw[hw.1,hw.2];simp
 show wpAny _ _ (if (((HT.sIx items.size 0 lo:Nat):Int) == 0&&(1:Int) == 1&&(HT.sIx items.size items.size hi-HT.sIx items.size 0 lo) == items.size)=true then _ else _) _ _ s;rw[if_pos hyes];refine wpAny_bind (m:=Builtin.Tuple.tupleIsExact (.ref t)) (wpAny_bind (wpAny_typeOf ht.typeIs (wpAny_pure ?_)))
 first
 |exact wpAny_bind (wpAny_rule (wpAny_bind (wpAny_pure ⟨_,rfl,wpAny_pure h⟩)))
 |(simp only[beq_self_eq_true,if_true];exact wpAny_bind (wpAny_rule (wpAny_pure ⟨_,rfl,wpAny_pure h⟩)))
def bV{α:Type}(xs:List α)(lo hi:Option Int):List α:=(xs.drop (HT.sIx xs.length 0 lo)).take (HT.sIx xs.length xs.length hi-HT.sIx xs.length 0 lo)
theorem Reps.cut{K:Frag}{O:Addr->Prop}{H:Hp}{vs:List V}{ds:List PyData}(r:Reps K O H vs ds)(lo hi:Option Int):Reps K O H (fM vs lo hi) (bV ds lo hi):=by
 unfold fM bV;rw[r.length];exact(r.drop _).take _
theorem zC{α:Type}{xs:List α}{lo hi:Option Int}(h:HT.sIx xs.length 0 lo=0/\HT.sIx xs.length xs.length hi=xs.length):bV xs lo hi=xs:=by
 unfold bV;rw[h.1,h.2];simp
section
variable {X:Cx}
theorem sl_tupA:SlR X (fun x lo hi H Q=>∃a xs,x=.ref a/\SqT X.K H a xs/\((HT.sIx xs.length 0 lo=0/\HT.sIx xs.length xs.length hi=xs.length)->Q (.ref a) H) /\
  (¬(HT.sIx xs.length 0 lo=0/\HT.sIx xs.length xs.length hi=xs.length)->∀p,H p=none->Q (.ref p) (upd H p (.tup (fM xs lo hi))))):=by
 intro pins s σ H x v vl vu lo hi sl Q I rx hs pl pu h;obtain⟨a,xs,rfl,hx,q1,q2⟩:=h
 by_cases hw:HT.sIx xs.length 0 lo=0/\HT.sIx xs.length xs.length hi=xs.length
 .cases rx
  obtain⟨its,r,ht,hz⟩:=I.tuple hx
  have hlen:its.toArray.size=xs.length:=by rw[List.size_toArray];exact r.length.symm
  refine⟨"tuple",_,PyProof.Rows.slot_tuple_getitem.lookup,ht.typeIs,?_⟩;exact xg ht hs pl pu (by rw[hlen];exact hw) ⟨.ref a,H,I,rfl,q1 hw⟩
 .exact CB pins s σ H _ v vl vu lo hi sl Q I rx hs pl pu ⟨a,xs,rfl,hx,hw,q2 hw⟩
def jH(x:PyData)(lo hi:Option Int):Option PyData:=match x with
 |.list xs=>some (.list (bV xs lo hi))
 |.tuple xs=>some (.tuple (bV xs lo hi))
 |.str z=>if z.length<=sizeLine then some (.str (Txt.slice z lo hi)) else none
 |_=>none
abbrev FO:=Rho->Tp->Option (Option Int×Tp)
def cZ:FO:=fun _ T=>some (none,T)
def fP(f:FE):FO:=fun ρ T=>bnd (f ρ T) fun w T1=>match w with
 |.d (.int i)=>some (some i,T1)
 |_=>none
inductive LiftOP(K:Frag)(f:FO)(σ:L2.St)(H:Hp)(Q:Option Int->Hp->Prop):Prop where
 |mk (O:Addr->Prop) (ts:List Addr) (ρ:Rho) (T:Tp) (o:Option Int) (T':Tp) (hc:HC K O ts H T) (re:RelE K O ts H σ ρ) (e:f ρ T=some (o,T')) (q:∀H',SameX ts H H'->HC K O ts H' T'->Q o H'):LiftOP K f σ H Q
def ED(K:Frag)(f:FO):TO:=fun σ H Q=>LiftOP K f σ H Q
structure DO(X:Cx)(e:Option Expr)(f:FO):Prop where
 pe:PO X e (ED X.K f)
theorem uI{e:Option Expr}{t t':TO}(h:PO X e t)(i:∀σ H Q,t' σ H Q->t σ H Q):PO X e t':=fun pins s σ H Q I q=>h pins s σ H Q I (i σ H Q q)
theorem f7:DO X none cZ:=by
 refine⟨?_⟩;refine uI Bm fun σ H Q=>?_;rintro⟨O,ts,ρ,T,o,T',hc,re,e,q⟩;cases e;exact q H (.refl _ _) hc
theorem fZ{e:Expr}{f:FE}(h:DE X e f):DO X (some e) (fP f):=by
 refine⟨?_⟩;refine uI (Bl h.pe) fun σ H Q=>?_;rintro⟨O,ts,ρ,T,o,T',hc,re,e,q⟩;obtain⟨w1,T1,e1,e⟩:=aJ e;refine⟨O,ts,ρ,T,w1,T1,hc,re,e1,fun v1 H1 s1 hc1 r1=>?_⟩;split at e
 .cases e
  cases (show Rep X.K O H1 v1 _ from r1);exact⟨_,rfl,q H1 s1 hc1⟩
 .cases e
def fSl(f:FE)(l u:FO):FE:=fun ρ T=>bnd (f ρ T) fun w T1=>bnd (l ρ T1) fun lo T2=>bnd (u ρ T2) fun hi T3=>op1 (fun x=>jH x lo hi) T3 w
theorem gr{e:Expr}{lo hi:Option Expr}{f:FE}{l u:FO}{pos p2:Pos}(he:DE X e f)(hl:DO X lo l)(hu:DO X hi u):DE X (.Subscript e (.Slice lo hi none p2) pos) (fSl f l u):=by
 refine⟨?_⟩;refine bj (z9 (sl_list.or (sl_tupA.or CC)) he.pe hl.pe hu.pe) fun σ H Q=>?_;rintro⟨O,ts,ρ,T,w,T',hc,re,e,q⟩;obtain⟨w1,T1,e1,e⟩:=aJ e;obtain⟨o1,T2,e2,e⟩:=aJ e;obtain⟨o2,T3,e3,e⟩:=aJ e;obtain⟨x,d,h1,h3,rfl,rfl⟩:=jK e;refine⟨O,ts,ρ,T,w1,T1,hc,re,e1,fun v1 H1 s1 hc1 r1=>?_⟩;refine⟨O,ts,ρ,T1,o1,T2,hc1,re.mono hc s1,e2,fun H2 s2 hc2=>?_⟩;refine⟨O,ts,ρ,T2,o2,T',hc2,re.mono hc (s1.trans s2),e3,fun H3 s3 hc3=>?_⟩;have vw:=hc3.view (r1.mono hc1 (s2.trans s3)) h1;have q':∀v H',SameX ts H3 H'->HC X.K O ts H' T'->Rep X.K O H' v d->Q v H':=fun v H' s c r=>q v H' (s1.trans (s2.trans (s3.trans s))) c r;clear q
 cases x with
 |list xs=>
  cases h3;obtain⟨a,vs,rfl,t,r⟩:=vw.lst;exact .inl ⟨a,vs,rfl,t,fun p hp=>q' _ _ (.new hp _) (hc3.new hp _) (hc3.newL hp (r.cut _ _))⟩
 |tuple xs=>
  cases h3;obtain⟨a,vs,rfl,t,r⟩:=vw.tup;refine .inr (.inl ⟨a,vs,rfl,t.sq,fun hw=>?_,fun hw p hp=>?_⟩)
  .rw[r.length] at hw
   rw[zC hw] at q';exact q' _ H3 (.refl _ _) hc3 vw.tupR
  .exact q' _ _ (.new hp _) (hc3.new hp _) (hc3.newT hp (r.cut _ _))
 |str z=>
  have h3':(if z.length<=sizeLine then some (PyData.str (Txt.slice z o1 o2)) else none)=some d:=h3;split at h3'
  .rename_i hz
   cases h3';exact .inr (.inr ⟨z,vw.str,hz,q' _ H3 (.refl _ _) hc3 (.str _)⟩)
  .cases h3'
 |_=>cases h3
end
inductive Kd where
 |non|bl|int|str|tup|lst|dct
 deriving DecidableEq
def Kd.name:Kd->String
 |.non=>"NoneType" | .bl=>"bool" | .int=>"int" | .str=>"str" | .tup=>"tuple" | .lst=>"list" | .dct=>"dict"
def kd:PyData->Kd
 |.none=>.non | .bool _=>.bl | .int _=>.int | .str _=>.str | .list _=>.lst | .tuple _=>.tup | .dict _=>.dct
def bU(a b:Kd):Bool:=decide (a=b)||(decide (a=.bl)&&decide (b=.int))
def FD(t c:String):Option Bool:=if (Value.type t == Value.type c)=true then some true else if PySem.W.kitMeta c=true then (fastBuiltinMro t).map (·.contains (.type c)) else none
theorem gT(a b:Kd):b≠.non->FD a.name b.name=some (bU a b):=by cases a <;> cases b <;> first|(intro h;exact absurd rfl h)|(intro _;decide +kernel)
section
variable {X:Cx}
theorem AN:CallR X (.builtin "isinstance") (fun xs H Q=>∃(x:V) (c:Kd) (O:Addr->Prop) (d:PyData),xs=[x,.ty c.name]/\Vw X.K O H x d/\c≠.non/\Q (.bl (bU (kd d) c)) H):=by
 intro pins s σ H xs us Q I r h;obtain⟨x,c,O,d,rfl,vw,hc,q⟩:=h;obtain⟨u,w',rfl,ru,rw'⟩:=vals2 r;cases (show w'=Value.type c.name from rw');have fin:∀tk,EP X pins σ Q (.bool (bU (kd d) c)) { s with toks:=tk }:=fun tk=>⟨.bl _,H,I.tok _,rfl,q⟩
 cases d with
 |none=>cases vw.non;exact kF I ru .non (show PySem.W.kitOne X.K (.type (Kd.name .non)) (.type c.name)=some _ from gT .non c hc) fin
 |bool b=>cases vw.bl;exact kF I ru (.bl b) (show PySem.W.kitOne X.K (.type (Kd.name .bl)) (.type c.name)=some _ from gT .bl c hc) fin
 |int i=>cases vw.int;exact kF I ru (.int i) (show PySem.W.kitOne X.K (.type (Kd.name .int)) (.type c.name)=some _ from gT .int c hc) fin
 |str z=>cases vw.str;exact kF I ru (.str z) (show PySem.W.kitOne X.K (.type (Kd.name .str)) (.type c.name)=some _ from gT .str c hc) fin
 |list ds=>
  obtain⟨a,vs,rfl,t,r⟩:=vw.lst;cases (show u=Value.ref a from ru);obtain⟨its,_,pl,_⟩:=I.list t;obtain⟨o,n,e,c1,_⟩:=pl;exact PySem.W.kia_one PySem.W.kitx_list I.kIn ⟨o,e,c1⟩ (show PySem.W.kitOne X.K (.type (Kd.name .lst)) (.type c.name)=some _ from gT .lst c hc) (fun z=>nomatch z) fin
 |tuple ds=>
  obtain⟨a,vs,rfl,t,r⟩:=vw.tup;cases (show u=Value.ref a from ru);obtain⟨its,_,pl,_⟩:=I.tuple t.sq;obtain⟨o,e,c1,_⟩:=pl;exact PySem.W.kia_one PySem.W.kitx_tuple I.kIn ⟨o,e,c1⟩ (show PySem.W.kitOne X.K (.type (Kd.name .tup)) (.type c.name)=some _ from gT .tup c hc) (fun z=>nomatch z) fin
 |dict ds=>
  obtain⟨a,vs,rfl,t,r⟩:=vw.dct;cases (show u=Value.ref a from ru);obtain⟨_,_,_,_,o,_,_,e,c1,_⟩:=dU I.hok t;exact PySem.W.kia_one PySem.W.kitx_dict I.kIn ⟨o,e,c1.1⟩ (show PySem.W.kitOne X.K (.type (Kd.name .dct)) (.type c.name)=some _ from gT .dct c hc) (fun z=>nomatch z) fin
def br(c:Kd)(x:PyData):Option PyData:=some (.bool (bU (kd x) c))
theorem bN{e:Expr}{f:FE}{p p' pos:Pos}{T:Str}(c:Kd)(hi:X.mg "isinstance"=none)(he:DE X e f)(hm:X.mg T=none)(hb:bootBuiltins T=some (.type c.name))(hcn:c≠.non:=by decide)(hg:Gl X "isinstance":=by rfl)(hT:Gl X T:=by rfl)(hn:T≠"__name__":=by decide)(hdb:(T == ("__debug__" : Str))=false:=by decide)
  (hs:starEach [e,.Name T p] X.env=(false,eval e X.env)::starEach [.Name T p] X.env:=by exact a8 rfl) (hs2:starEach [.Name T p] X.env=(false,eval (.Name T p) X.env)::starEach [] X.env:=by exact a8 rfl)
  (hpl:(backTo pos (starEach [.Name T p] X.env)).any (·.1)=false:=by exact bQ rfl):DE X (.Call (.Name "isinstance" p') [e,.Name T p] [] pos) (fUn (br c) f):=by
 refine⟨?_⟩;refine bj (js AN hg hi PyProof.Rows.boot_isinstance (cT he.pe (cT (Br (v:=.ty c.name) hT hm hb rfl hn hdb) dB hs2) hs) (by decide) (by decide) hs hpl) fun σ H Q=>?_;rintro⟨O,ts,ρ,T,w,T',hc,re,e,q⟩;obtain⟨w1,T1,e1,e⟩:=aJ e;obtain⟨x,d,h1,h3,rfl,rfl⟩:=jK e;cases h3;refine⟨O,ts,ρ,T,w1,T',hc,re,e1,fun v1 H1 s1 hc1 r1=>?_⟩;exact⟨v1,c,O,x,rfl,hc1.view r1 h1,hcn,q _ H1 s1 hc1 (.bl _)⟩
def aY:List PyData->Option PyData
 |[.list xs]=>some (.int xs.length)
 |[.tuple xs]=>some (.int xs.length)
 |[.str z]=>if z.length<=sizeLine then some (.int z.length) else none
 |[.dict kvs]=>some (.int kvs.length)
 |_=>none
theorem cH{K:Frag}{O:Addr->Prop}{H:Hp}{vs:List V}{x:PyData}(h:Vws K O H vs [x]):∃v,vs=[v]/\Vw K O H v x:=by cases h with|cons h t=>cases t;exact⟨_,rfl,h⟩
theorem Fb{K:Frag}{O:Addr->Prop}{H:Hp}{vs:List V}{x y:PyData}(h:Vws K O H vs [x,y]):∃v u,vs=[v,u]/\Vw K O H v x/\Vw K O H u y:=by cases h with|cons h t=>cases t with|cons h' t=>cases t;exact⟨_,_,rfl,h,h'⟩
theorem sr{K:Frag}{O:Addr->Prop}{H:Hp}:∀{kvs:List (Key×V)}{ds:List (PyData×PyData)},RepK K O H kvs ds->kvs.length=ds.length
 |_,_,.nil=>rfl
 |_,_,.cons _ t=>congrArg (· + 1) (sr t)
theorem zG:CallR X (.builtin "len") (fun xs H Q=>∃a kvs,xs=[V.ref a]/\Rd H a (.dK kvs)/\Q (.int kvs.length) H):=by
 intro pins s σ H xs us Q I r h;obtain⟨a,kvs,rfl,ha,q⟩:=h;obtain⟨u,rfl,ru⟩:=vals1 r;cases ru;exact EW I ha fun t s' I'=>⟨.int kvs.length,H,I',⟨t,rfl⟩,q⟩
theorem bw:dX X (.builtin "len") aY:=⟨_,call_len_seq.or (call_len_str.or zG),fun O ts H T vs xs d Q hc h e q=>by
 unfold aY at e;split at e
 .cases e
  obtain⟨v,rfl,g⟩:=cH h;obtain⟨a,vs,rfl,t,r⟩:=g.lst;exact .inl ⟨a,vs,rfl,.inl t,by rw[r.length];exact q _ H (.refl _ _) hc (.int _)⟩
 .cases e
  obtain⟨v,rfl,g⟩:=cH h;obtain⟨a,vs,rfl,t,r⟩:=g.tup;exact .inl ⟨a,vs,rfl,.inr t.sq,by rw[r.length];exact q _ H (.refl _ _) hc (.int _)⟩
 .split at e
  .rename_i hz
   cases e;obtain⟨v,rfl,g⟩:=cH h;cases g.str;exact .inr (.inl ⟨_,rfl,hz,q _ H (.refl _ _) hc (.int _)⟩)
  .cases e
 .cases e
  obtain⟨v,rfl,g⟩:=cH h;obtain⟨a,kvs,rfl,t,r⟩:=g.dct;exact .inr (.inr ⟨a,kvs,rfl,t,by rw[sr r];exact q _ H (.refl _ _) hc (.int _)⟩)
 .cases e⟩
def my:List PyData->Option PyData
 |[.int i]=>some (.int (if i<0 then -i else i))
 |_=>none
theorem EZ:dX X (.builtin "abs") my:=⟨_,AQ,fun O ts H T vs xs d Q hc h e q=>by
 unfold my at e;split at e
 .cases e
  obtain⟨v,rfl,g⟩:=cH h;cases g.int;exact⟨_,rfl,q _ H (.refl _ _) hc (.int _)⟩
 .cases e⟩
def EB:List PyData->Option PyData
 |[.int i,.int j]=>some (.int (if j>i then j else i))
 |_=>none
def lX:List PyData->Option PyData
 |[.int i,.int j]=>some (.int (if j<i then j else i))
 |_=>none
theorem EY(hc:X.calm=true:=by rfl):dX X (.builtin "min") lX:=⟨_,zF hc,fun O ts H T vs xs d Q hc h e q=>by
 unfold lX at e;split at e
 .cases e
  obtain⟨v,u,rfl,g,g'⟩:=Fb h;cases g.int;cases g'.int;exact⟨_,_,rfl,q _ H (.refl _ _) hc (.int _)⟩
 .cases e⟩
def hU:List PyData->Option (List Bool)
 |[]=>some []
 |.bool b::r=>(hU r).map (b::·)
 |_=>none
def fE:List PyData->Option (List Int)
 |[]=>some []
 |.int b::r=>(fE r).map (b::·)
 |_=>none
def b9:List PyData->Option (List Str)
 |[]=>some []
 |.str b::r=>(b9 r).map (b::·)
 |_=>none
theorem tf{K:Frag}{O:Addr->Prop}{H:Hp}:∀{vs:List V}{xs:List PyData}{bs:List Bool},Reps K O H vs xs->hU xs=some bs->vs=bs.map V.bl
 |_,_,_,.nil,e=>by cases e;rfl
 |_,x::r,bs,.cons h t,e=>by
  cases x with
  |bool b=>
   obtain⟨cs,e1,rfl⟩:=Option.map_eq_some_iff.mp (show (hU r).map (b::·)=some bs from e);cases h;rw[tf t e1];rfl
  |_=>cases e
theorem sJ{K:Frag}{O:Addr->Prop}{H:Hp}:∀{vs:List V}{xs:List PyData}{bs:List Int},Reps K O H vs xs->fE xs=some bs->vs=bs.map V.int
 |_,_,_,.nil,e=>by cases e;rfl
 |_,x::r,bs,.cons h t,e=>by
  cases x with
  |int b=>
   obtain⟨cs,e1,rfl⟩:=Option.map_eq_some_iff.mp (show (fE r).map (b::·)=some bs from e);cases h;rw[sJ t e1];rfl
  |_=>cases e
theorem iB{K:Frag}{O:Addr->Prop}{H:Hp}:∀{vs:List V}{xs:List PyData}{bs:List Str},Reps K O H vs xs->b9 xs=some bs->vs=bs.map V.str
 |_,_,_,.nil,e=>by cases e;rfl
 |_,x::r,bs,.cons h t,e=>by
  cases x with
  |str b=>
   obtain⟨cs,e1,rfl⟩:=Option.map_eq_some_iff.mp (show (b9 r).map (b::·)=some bs from e);cases h;rw[iB t e1];rfl
  |_=>cases e
def d0:List PyData->Option PyData
 |[.list xs]=>(hU xs).map fun bs=>.bool (bs.all id)
 |_=>none
theorem j7(hc:X.calm=true:=by rfl):dX X (.builtin "all") d0:=⟨_,AO hc,fun O ts H T vs xs d Q hc h e q=>by
 unfold d0 at e;split at e
 .obtain⟨bs,e1,rfl⟩:=Option.map_eq_some_iff.mp e
  obtain⟨v,rfl,g⟩:=cH h;obtain⟨a,vs,rfl,t,r⟩:=g.lst;rw[tf r e1] at t;exact⟨a,bs,rfl,t,q _ H (.refl _ _) hc (.bl _)⟩
 .cases e⟩
def ms:List PyData->Option PyData
 |[.list xs]=>(fE xs).map fun bs=>.int bs.sum
 |_=>none
theorem EX(hc:X.calm=true:=by rfl):dX X (.builtin "sum") ms:=⟨_,AM hc,fun O ts H T vs xs d Q hc h e q=>by
 unfold ms at e;split at e
 .obtain⟨bs,e1,rfl⟩:=Option.map_eq_some_iff.mp e
  obtain⟨v,rfl,g⟩:=cH h;obtain⟨a,vs,rfl,t,r⟩:=g.lst;rw[sJ r e1] at t;exact⟨a,bs,rfl,t,q _ H (.refl _ _) hc (.int _)⟩
 .cases e⟩
def EA:PyData->PyData->Option PyData
 |.list xs,.int d=>(fE xs).map fun bs=>.int (K1.ij d bs)
 |_,_=>none
def gy:List PyData->Option PyData
 |[.int i]=>if i.natAbs.log2<1920 then some (.str (toString i)) else none
 |_=>none
theorem ml:dX X (.type "str") gy:=⟨_,call_str_int,fun O ts H T vs xs d Q hc h e q=>by
 unfold gy at e;split at e
 .split at e
  .rename_i hz
   cases e;obtain⟨v,rfl,g⟩:=cH h;cases g.int;exact⟨_,rfl,hz,q _ H (.refl _ _) hc (.str _)⟩
  .cases e
 .cases e⟩
def bz:List PyData->Option PyData
 |[.list xs]=>some (.tuple xs)
 |[.tuple xs]=>some (.tuple xs)
 |_=>none
theorem fq:dX X (.type "tuple") bz:=⟨_,xB,fun O ts H T vs xs d Q hc h e q=>by
 unfold bz at e;split at e
 .cases e
  obtain⟨v,rfl,g⟩:=cH h;obtain⟨a,vs,rfl,t,r⟩:=g.lst;exact⟨a,vs,rfl,.inl ⟨t,fun p hp=>q _ _ (.new hp _) (hc.new hp _) (hc.newT hp r)⟩⟩
 .cases e
  obtain⟨v,rfl,g⟩:=cH h;obtain⟨a,vs,e1,t,r⟩:=g.tup;subst e1;exact⟨a,vs,rfl,.inr ⟨t.sq,q _ H (.refl _ _) hc (.tup t r)⟩⟩
 .cases e⟩
def eh:List PyData->Option PyData
 |[.list xs]=>some (.list xs)
 |[.tuple xs]=>some (.list xs)
 |_=>none
theorem oY:dX X (.type "list") eh:=⟨_,xO,fun O ts H T vs xs d Q hc h e q=>by
 unfold eh at e;split at e
 .cases e
  obtain⟨v,rfl,g⟩:=cH h;obtain⟨a,vs,rfl,t,r⟩:=g.lst;exact⟨a,vs,rfl,.inl t,fun p hp=>q _ _ (.new hp _) (hc.new hp _) (hc.newL hp r)⟩
 .cases e
  obtain⟨v,rfl,g⟩:=cH h;obtain⟨a,vs,rfl,t,r⟩:=g.tup;exact⟨a,vs,rfl,.inr t.sq,fun p hp=>q _ _ (.new hp _) (hc.new hp _) (hc.newL hp r)⟩
 .cases e⟩
theorem mt_joinG:MtR X "str.join" (fun x vs H Q=>∃(z:Str) (l:Addr) (ys:List Str),x=.str z/\vs=[.ref l]/\SqL X.K H l (ys.map V.str)/\(ys.map (·.length)).sum+ys.length*z.length<=16777216/\Q (.str (Str.join z ys)) H):=by
 intro pins s σ H x vs v us Q I rx rv h;obtain⟨z,l,ys,rfl,rfl,hq,hz,q⟩:=h;obtain⟨t,rfl⟩:=rx;obtain⟨u,rfl,ru⟩:=vals1 rv;cases ru;obtain⟨its,rw',pl,_⟩:=I.list hq;refine join_list (ys:=ys) pl.isList (by simpa using qv rw') hz fun t' k=>⟨.str _,H,I.tok _,⟨t',?_⟩,q⟩;show Value.str (Builtin.Str.glued z ys) t'=_;rw[StrLaws.glued_eq_join]
def jY:PyData->PyData->Option PyData
 |.str z,.list xs=>match b9 xs with
  |some ys=>if (ys.map (·.length)).sum+ys.length*z.length<=16777216 then some (.str (Str.join z ys)) else none
  |none=>none
 |_,_=>none
theorem uh{o e:Expr}{fo fe:FE}{apos cpos:Pos}(ho:DE X o fo)(he:DE X e fe)
  (hbase:attributeBase o "join" X.env (eval o X.env)=eval o X.env:=by rfl)
  (hfew:((backTo cpos (starEach [e] X.env)).all (fun x=>!x.1)&&(backToKw cpos (keywordEach [] X.env)).all (fun x=>x.1.isSome)
   && decide (([e]:List Expr).length+([]:List Keyword).length+(if ([]:List Keyword).isEmpty then 0 else 1)<30))=true:=by exact mx rfl)
  (hline:(apos.endLine == cpos.line)=true:=by rfl) (hse:starEach [e] X.env=(false,eval e X.env)::starEach [] X.env:=by exact a8 rfl) (hplain:(backTo cpos (starEach [] X.env)).any (·.1)=false:=by exact bQ rfl) :
  DE X (.Call (.Attribute o "join" apos) [e] [] cpos) (ag jY fo fe):=by
 refine⟨?_⟩;refine bj (jT PySem.F.plainAttrs_str PySem.F.slot_str_join PySem.F.type_str_join mt_joinG ho.pe (cT he.pe dB hse) hbase hfew hline hse hplain) fun σ H Q=>?_;rintro⟨O,ts,ρ,T,w,T',hc,re,e,q⟩;obtain⟨w1,T1,e1,e⟩:=aJ e;obtain⟨w2,T2,e2,e⟩:=aJ e;obtain⟨x,y,d,h1,h2,h3,rfl,rfl⟩:=jJ e;unfold jY at h3;split at h3
 .rename_i z xs
  split at h3
  .rename_i ys hy
   split at h3
   .rename_i hz
    cases h3;refine⟨O,ts,ρ,T,w1,T1,hc,re,e1,fun v1 H1 s1 hc1 r1=>?_⟩
    have ev:v1=.str z:=by
     cases w1 with
     |d x=>cases h1;cases (show Rep X.K O H1 v1 _ from r1);rfl
     | tp k=>exact(by
       have h1':(T'[k]?).bind i2=some (PyData.str z):=h1
       cases hk:T'[k]? with
       |none=>rw[hk] at h1';cases h1'
       |some xs=>
        rw[hk] at h1';have e2:(if isO xs=true then none else some (PyData.list xs))=some (PyData.str z):=h1'
        split at e2 <;> cases e2)
     |loc zs=>cases zs <;> cases h1
    subst ev;refine⟨rfl,O,ts,ρ,T1,w2,T',hc1,re.mono hc s1,e2,fun v2 H2 s2 hc2 r2=>?_⟩;obtain⟨a,vs,rfl,t,r⟩:=(hc2.view r2 h2).lst;rw[iB r hy] at t;exact⟨z,a,ys,rfl,rfl,t,hz,q _ H2 (s1.trans s2) hc2 (.str _)⟩
   .cases h3
  .cases h3
 .cases h3
end
mutual
def iW:PyData->Bool
 |.list _=>false
 |.tuple ds=>lB ds
 |.dict kvs=>lC kvs
 |.none | .bool _ | .int _ | .str _=>true
def lB:List PyData->Bool
 |[]=>true
 |d::r=>iW d&&lB r
def lC:List (PyData×PyData)->Bool
 |[]=>true
 |(_,v)::r=>iW v&&lC r
end
section
variable {X:Cx}{pins:List (Addr×Obj)}{σ:L2.St}{H:Hp}{s:Shared}{O:Addr->Prop}
theorem ze{h:Heap}{k:Key}{v:Value}(e:ej k v=true):Reads h v (cQ k) []:=by
 rcases dJ e with⟨i,t,rfl,rfl⟩|⟨x,t,rfl,rfl⟩
 .exact .int i t
 .exact .str x t
mutual
theorem Rep.reads(I:Inv X pins σ H s):∀{v:V}{d:PyData}{u:Value},Rep X.K O H v d->RelV v u->∃as,Reads s.heap u d as/\(iW d=true->sysModules∉as)
 |_,_,_,.non,r=>by cases r;exact⟨_,.none,fun _=>by simp⟩
 |_,_,_,.bl b,r=>by cases r;exact⟨_,.bool b,fun _=>by simp⟩
 |_,_,_,.int i,r=>by obtain⟨t,rfl⟩:=r;exact⟨_,.int i t,fun _=>by simp⟩
 |_,_,_,.str x,r=>by obtain⟨t,rfl⟩:=r;exact⟨_,.str x t,fun _=>by simp⟩
 |_,_,_,.tup (a:=a) (vs:=vs) h rs,r=>by
  cases r;obtain⟨its,rv,⟨o,e,c,n,dd⟩,_⟩:=I.tuple h.sq;obtain⟨as,q,f⟩:=Reps.reads I rs rv;exact⟨as,.tuple e c dd (by simpa using q),f⟩
 |_,_,_,.lst (a:=a) (vs:=vs) h rs,r=>by
  cases r;obtain⟨its,rv,pl,_⟩:=I.list h.sq;obtain⟨o,n,e,c,_,dd⟩:=pl;obtain⟨as,q,f⟩:=Reps.reads I rs rv;exact⟨_,.list e c dd (by simpa using q),fun z=>by cases z⟩
 |_,_,_,.dct (a:=a) (kvs:=kvs) (ds:=ds) _ h rk,r=>by
  cases r;obtain⟨z,y,vs,kv,o,es,ep,e,ed,dd,_,ek,_⟩:=(show ObjOk X.prog X.w H s.heap a (.dK kvs) from(I.hok a _ h).2);obtain⟨bs,q1,q2,f⟩:=RepK.reads I rk kv ek;refine⟨_,.dict (kvs:=ds) (as:=[]) (bs:=bs) e ed.1 dd q1 q2,fun zz hm=>?_⟩
  rcases List.mem_cons.mp (by simpa using hm:sysModules∈a::bs) with q|q
  .rw[q] at y
   simp at y
  .exact f zz q
theorem Reps.reads(I:Inv X pins σ H s):∀{vs:List V}{ds:List PyData}{us:List Value},Reps X.K O H vs ds->Vals vs us->∃as,ReadsAll s.heap us ds as/\(lB ds=true->sysModules∉as)
 |_,_,_,.nil,r=>by cases r;exact⟨_,.nil,fun _=>by simp⟩
 |_,_,_,.cons (d:=d) (ds:=ds) q t,r=>by
  cases r with
  |cons r1 r2=>
   obtain⟨as,h1,f1⟩:=Rep.reads I q r1;obtain⟨bs,h2,f2⟩:=Reps.reads I t r2;refine⟨as++bs,.cons h1 h2,fun z=>?_⟩;have z':(iW d&&lB ds)=true:=z;rw[Bool.and_eq_true] at z';intro hm
   rcases List.mem_append.mp hm with hm|hm
   .exact f1 z'.1 hm
   .exact f2 z'.2 hm
theorem RepK.reads(I:Inv X pins σ H s):∀{kvs:List (Key×V)}{ds:List (PyData×PyData)}{vs:List (Key×Value)}{es:List DictEntry},RepK X.K O H kvs ds->KV kvs vs->Pairs (bq X.prog X.w) es vs ->
  ∃bs,ReadsAll s.heap (es.map (·.key)) (ds.map (·.1)) []/\ReadsAll s.heap (es.map (·.val)) (ds.map (·.2)) bs/\(lC ds=true->sysModules∉bs)
 |_,_,_,_,.nil,r,ek=>by
  cases r;cases ek;exact⟨[],.nil,.nil,fun _=>by simp⟩
 |_,_,_,_,.cons (k:=k) (d:=d) (ds:=ds) q t,r,ek=>by
  cases r with
  |cons r1 r2=>
   cases ek with
   |cons e1 e1' e2=>
    obtain⟨as,h1,f1⟩:=Rep.reads I q r1.2;obtain⟨bs,h2,h3,f2⟩:=RepK.reads I t r2 e2;rw[←e1'] at h1;have k1:=ze (h:=s.heap) (show ej _ _=true from e1);rw[←r1.1] at k1;refine⟨as++bs,.cons (as:=[]) (bs:=[]) k1 h2,.cons h1 h3,fun z=>?_⟩;have z':(iW d&&lC ds)=true:=z;rw[Bool.and_eq_true] at z';intro hm
    rcases List.mem_append.mp hm with hm|hm
    .exact f1 z'.1 hm
    .exact f2 z'.2 hm
end
end
def gq(d:PyData):Bool:=d.showable&&d.leavesShort 200&&decide (d.depth<=60)&&decide (d.weight<=60000)&&(!d.hasDict||iW d)
theorem shown_fits{d:PyData}(h1:d.leavesShort 200=true)(h2:d.weight<=60000):d.shown.length<=sizeLine:=by
 have q:=PyData.shown_le 200 (by decide) d h1
 have e:sizeLine=16777216:=by decide
 have:(200+2)*d.weight<=202*60000:=Nat.mul_le_mul_left _ h2;omega
section
variable {X:Cx}
theorem zE{k:Nat}(hr:Room k X.A):CallR X (.builtin "repr") (fun xs H Q=>∃O x d,xs=[x]/\Rep X.K O H x d/\gq d=true/\Q (.str d.shown) H):=by
 intro pins s σ H xs us Q I r h;obtain⟨O,x,d,rfl,rp,hg,q⟩:=h;unfold gq at hg;rw[Bool.and_eq_true,Bool.and_eq_true,Bool.and_eq_true,Bool.and_eq_true] at hg;obtain⟨⟨⟨⟨g1,g2⟩,g3⟩,g4⟩,g5⟩:=hg;have g3:=of_decide_eq_true g3;have g4:=of_decide_eq_true g4;obtain⟨u,rfl,ru⟩:=vals1 r;have hz:=shown_fits g2 g4;have fin:∀h' t k',(∀b o,s.heap.get? b=some o->h'.get? b=some o)->EP X pins σ Q (.str d.shown t) { s with heap:=h',toks:=k' }:=fun h' t k' kk=>⟨.str d.shown,H,I.kept kk,⟨t,rfl⟩,q⟩
 have big:∀a,u=.ref a->wpAny (model X.prog X.w) X.A (call (.builtin "repr") [u]) (EP X pins σ Q) X.xe s:=fun a e=>by
  obtain⟨as,rd,f⟩:=rp.reads I ru;subst e;refine repr_of_reads' rd g1 (fun z=>f ?_) hr.gd ?_ (fun _ _ e=>e) (fun h' u tk kk=>fin h' u tk kk) hz
  .rw[z] at g5
   simpa using g5
  .have h2:=hr.un
   omega
 cases rp with
 |non=>cases ru;exact PySem.P.repr_of_none (fin _ _ _ fun _ _ e=>e)
 |bl b=>cases ru;exact PySem.P.repr_of_bool (fin _ _ _ fun _ _ e=>e)
 |int i=>
  obtain⟨t,rfl⟩:=ru;exact PySem.P.repr_of_int (of_decide_eq_true g1) (fin _ _ _ fun _ _ e=>e)
 |str x=>
  obtain⟨t,rfl⟩:=ru;exact PySem.P.repr_of_str (fin _ _ _ fun _ _ e=>e) hz
 |tup _ _=>exact big _ ru
 |lst _ _=>exact big _ ru
 |dct _ _ _=>exact big _ ru
def jR(T:Tp)(w:W):Option (W×Tp):=match w with
 |.d x=>if gq x=true then some (.d (.str x.shown),T) else none
 |_=>none
def iY(f:FE):FE:=fun ρ T=>bnd (f ρ T) fun w T1=>jR T1 w
theorem lb{k:Nat}{e:Expr}{f:FE}{p pos:Pos}(hr:Room k X.A)(hm:X.mg "repr"=none)(he:DE X e f)(hg:Gl X "repr":=by rfl)(hse:starEach [e] X.env=(false,eval e X.env)::starEach [] X.env:=by exact a8 rfl)(hpl:(backTo pos (starEach [] X.env)).any (·.1)=false:=by exact bQ rfl) :
  DE X (.Call (.Name "repr" p) [e] [] pos) (iY f):=by
 refine⟨?_⟩;refine bj (js (zE hr) hg hm boot_repr (cT he.pe dB hse) (by decide) (by decide) hse hpl) fun σ H Q=>?_;rintro⟨O,ts,ρ,T,w,T',hc,re,e,q⟩;obtain⟨w1,T1,e1,e⟩:=aJ e;refine⟨O,ts,ρ,T,w1,T1,hc,re,e1,fun v1 H1 s1 hc1 r1=>?_⟩;unfold jR at e;split at e
 .split at e
  .rename_i x hx
   cases e;exact⟨O,v1,x,rfl,r1,hx,q _ H1 s1 hc1 (.str _)⟩
  .cases e
 .cases e
end
structure Df(K:Frag)(name:Str)(st:Stmt):Prop where
 ex:∃(f:Addr) (oc:Value) (od an:Option Addr) (sl:Array (Option Value)) (kV dc pm cd ct:Value),PySem.W.nsIn K mainGlobals name=some (some (.ref f)) /\
  K.lookup f=some ⟨oc,od,.func (PySem.W.fnOf name name (dA st) (cb st) (a9 st) .none kV dc pm an cd ct),sl⟩/\PySem.W.codeIn K cd name=true/\PySem.W.keepIn K (.ref f)=true
theorem ER{K:Frag}{name:Str}{st:Stmt}{f:Addr}{oc:Value}{od an:Option Addr}{sl:Array (Option Value)}{kV dc pm cd ct:Value}(a:PySem.W.nsIn K mainGlobals name=some (some (.ref f)))
  (l:K.lookup f=some ⟨oc,od,.func (PySem.W.fnOf name name (dA st) (cb st) (a9 st) .none kV dc pm an cd ct),sl⟩) (c:PySem.W.codeIn K cd name=true) (k:PySem.W.keepIn K (.ref f)=true):Df K name st:=⟨f,oc,od,an,sl,kV,dc,pm,cd,ct,a,l,c,k⟩
theorem Df.fn{P:Program}{w:World}{K:Frag}{mg:Str->Option Value}{base h:Heap}{name:Str}{st:Stmt}{ps:List Str}{k:Nat}{sp:Sp}(d:Df K name st)(X:K.In h)(G:h.Ns mainGlobals mg)
  (hb:∀(kV doc pm:Value) (an:Option Addr) (cdv ct:Value) (us:List Value),us.length=ps.length->bindArgs (PySem.W.fnOf name name (dA st) (cb st) (a9 st) .none kV doc pm an cdv ct) ⟨us,[]⟩=pure (ps.zip us))
  (ok:∀f fd,Fun K name name st f fd->FnOk P w K mg base CX0 k f fd ps sp):Fn P w K mg base name ps k sp:=by
 obtain⟨f,oc,od,an,sl,kV,dc,pm,cd,ct,a,l,c,kp⟩:=d.ex;have F:=vb (st:=st) l c kp;exact⟨f,_,ok f _ F,F.binds hb,kp,PySem.W.mg_of X G a⟩
theorem BQ{P:Program}{w:World}{K:Frag}{mg:Str->Option Value}{base:Heap}{k n:Nat}{f:Addr}{fd:FuncData}{ps:List Str}:FnOk P w K mg base CX0 k f fd ps (spM K n fun _ _=>none):=by
 have no:∀vs H Q E,¬spM K n (fun _ _=>none) vs H Q E:=fun vs H Q E h=>by
  obtain⟨O,ts,T,ws,x,T',_,_,_,e,_⟩:=h;cases e
 exact⟨fun vs H Q E h=>absurd h (no vs H Q E),fun A outer s H args us vs Q E _ _ _ _ h=>absurd h (no vs H Q E)⟩
def lS(K:Frag):Sp:=fun vs H Q _=>∃(a:Addr) (ns:List Int),vs=[.ref a]/\SqL K H a (ns.map V.int)/\ns.length<=63/\∀H',Q (.bl true) H'
def bI(ns:List Int):PyData:=.list (ns.map .int)
theorem rh{K:Frag}{O:Addr->Prop}{H:Hp}:∀ns:List Int,Reps K O H (ns.map V.int) (ns.map PyData.int)
 |[]=>.nil
 |_::r=>.cons (.int _) (rh r)
section
variable {α β:Type}{ρ:Rho}{T:Tp}{f g:FE}{c c':FT}{s s':FS}{a:FA}{w w':W}{x y:PyData}
@[simp] theorem oT{b:α}{k:α->Tp->Option β}:bnd (some (b,T)) k=k b T:=rfl
@[simp] theorem Iu{k:α->Tp->Option β}:bnd none k=none:=rfl
@[simp] theorem Iv{p:Prop}[Decidable p]{u v:Option (α×Tp)}{k:α->Tp->Option β}:bnd (if p then u else v) k=if p then bnd u k else bnd v k:=by split <;> rfl
@[simp] theorem JZ{N:Nat}{ws:List W}:aL N s ws T=if dR ws=true then bu (s (ws.map some++List.replicate (N-ws.length) none) T) else none:=rfl
@[simp] theorem Gc:dR []=true:=rfl
@[simp] theorem Gb{r:List W}:dR (.d x::r)=dR r:=rfl
@[simp] theorem Ga{i:Nat}{r:List W}:dR (.tp i::r)=dR r:=rfl
@[simp] theorem Il{r:Rho}:bu (some ((.rt x,r),T))=some (x,T):=rfl
@[simp] theorem Im{r:Rho}:bu (some ((.nx,r),T))=some (.none,T):=rfl
@[simp] theorem Io{p:Prop}[Decidable p]{u v:Option ((Fl×Rho)×Tp)}:bu (if p then u else v)=if p then bu u else bu v:=by split <;> rfl
def ic(s':FS)(p:Fl×Rho)(T:Tp):Option ((Fl×Rho)×Tp):=match p with
 |(.nx,ρ1)=>s' ρ1 T
 |(fl,ρ1)=>some ((fl,ρ1),T)
@[simp] theorem DC:ak s s' ρ T=bnd (s ρ T) (ic s'):=rfl
@[simp] theorem Hm{ρ1:Rho}:ic s' (.nx,ρ1) T=s' ρ1 T:=rfl
@[simp] theorem Hl{ρ1:Rho}:ic s' (.rt x,ρ1) T=some ((.rt x,ρ1),T):=rfl
@[simp] theorem Hq{ρ1:Rho}:ic s' (.bk,ρ1) T=some ((.bk,ρ1),T):=rfl
@[simp] theorem Ho{ρ1:Rho}:ic s' (.ct,ρ1) T=some ((.ct,ρ1),T):=rfl
@[simp] theorem HD:aD ρ T=some ((.nx,ρ),T):=rfl
def ifK(s s':FS)(ρ:Rho)(b:Bool)(T1:Tp):Option ((Fl×Rho)×Tp):=if b=true then s ρ T1 else s' ρ T1
@[simp] theorem J3:fIf c s s' ρ T=bnd (c ρ T) (ifK s s' ρ):=rfl
@[simp] theorem JG{b:Bool}:ifK s s' ρ b T=if b=true then s ρ T else s' ρ T:=rfl
def wK(ρ:Rho):W->Tp->Option ((Fl×Rho)×Tp):=fun w T1=>match w with
 |.d x=>some ((.rt x,ρ),T1)
 |_=>none
@[simp] theorem Ja:ay f ρ T=bnd (f (bO ρ) T) (wK ρ):=rfl
@[simp] theorem Hu:wK ρ (.d x) T=some ((.rt x,ρ),T):=rfl
@[simp] theorem Ij:bO []=[]:=rfl
@[simp] theorem Ig{r:Rho}:bO (none::r)=none::bO r:=rfl
@[simp] theorem Ii{r:Rho}:bO (some (.d x)::r)=some (.d x)::bO r:=rfl
@[simp] theorem Ie{i:Nat}{r:Rho}:bO (some (.tp i)::r)=some (.tp i)::bO r:=rfl
@[simp] theorem Ih{x:PyData}{r:Rho}:bO (some (.loc x)::r)=some (.d x)::bO r:=rfl
def pQ(i:Nat)(ρ:Rho):W->Tp->Option ((Fl×Rho)×Tp):=fun w T1=>match w with
 |.d x=>some ((.nx,ρ.set i (some (.d x))),T1)
 |.tp k=>some ((.nx,ρ.set i (some (.tp k))),T1)
 |.loc _=>none
@[simp] theorem ve{i:Nat}:aE i f ρ T=bnd (f ρ T) (pQ i ρ):=rfl
@[simp] theorem Hk{i:Nat}:pQ i ρ (.d x) T=some ((.nx,ρ.set i (some (.d x))),T):=rfl
@[simp] theorem Hh{i k:Nat}:pQ i ρ (.tp k) T=some ((.nx,ρ.set i (some (.tp k))),T):=rfl
def vL(i:Nat)(ρ:Rho)(T:Tp):Option (List PyData)->Option ((Fl×Rho)×Tp)
 |some xs=>if xs.length<=1000 then some ((.nx,ρ.set i (some (.loc (.list xs)))),T) else none
 |none=>none
@[simp] theorem Hi{i:Nat}:eN i a ρ T=bnd (a ρ T) fun ws T1=>vL i ρ T1 (et ws):=rfl
@[simp] theorem Gv{i:Nat}{xs:List PyData}:vL i ρ T (some xs)=if xs.length<=1000 then some ((.nx,ρ.set i (some (.loc (.list xs)))),T) else none:=rfl
def w8(i:Nat)(ρ:Rho)(x:PyData)(T:Tp)(o:Option (Option W)):Option ((Fl×Rho)×Tp):=match o with
 |some (some (.loc (.list xs)))=>if xs.length<sizeLine then some ((.nx,ρ.set i (some (.loc (.list (xs++[x]))))),T) else none
 |_=>none
def w6(i:Nat)(ρ:Rho):W->Tp->Option ((Fl×Rho)×Tp):=fun w T1=>match w with
 | .d x=>(match ρ[i]? with
  |some (some (.loc (.list xs)))=>if xs.length<sizeLine then some ((.nx,ρ.set i (some (.loc (.list (xs++[x]))))),T1) else none
  | _=>none)
 |_=>none
@[simp] theorem JR{i:Nat}:dZ i f ρ T=bnd (f ρ T) (w6 i ρ):=rfl
@[simp] theorem Iy{i:Nat}:w6 i ρ (.d x) T=w8 i ρ x T ρ[i]?:=rfl
@[simp] theorem Iz{i:Nat}{xs:List PyData}:w8 i ρ x T (some (some (.loc (.list xs))))=if xs.length<sizeLine then some ((.nx,ρ.set i (some (.loc (.list (xs++[x]))))),T) else none:=rfl
@[simp] theorem JX{l u:FO}:fSl f l u ρ T=bnd (f ρ T) fun w T1=>bnd (l ρ T1) fun lo T2=>bnd (u ρ T2) fun hi T3=>op1 (fun x=>jH x lo hi) T3 w:=rfl
@[simp] theorem Jh:cZ ρ T=some (none,T):=rfl
def pK:W->Tp->Option (Option Int×Tp):=fun w T1=>match w with
 |.d (.int i)=>some (some i,T1)
 |_=>none
@[simp] theorem Kq:fP f ρ T=bnd (f ρ T) pK:=rfl
@[simp] theorem JY{i:Int}:pK (.d (.int i)) T=some (some i,T):=rfl
@[simp] theorem IZ{z:Str}{lo hi:Option Int}:jH (.str z) lo hi=if z.length<=sizeLine then some (.str (Txt.slice z lo hi)) else none:=rfl
@[simp] theorem IY{xs:List PyData}{lo hi:Option Int}:jH (.tuple xs) lo hi=some (.tuple (bV xs lo hi)):=rfl
@[simp] theorem I0{xs:List PyData}{lo hi:Option Int}:jH (.list xs) lo hi=some (.list (bV xs lo hi)):=rfl
@[simp] theorem Hb{o:W}{r:Rho}:aa 0 (some o::r) T=some (o,T):=rfl
@[simp] theorem fh{i:Nat}{o:Option W}{r:Rho}:aa (i+1) (o::r) T=aa i r T:=rfl
@[simp] theorem Ha{o:Option W}{r:Rho}:aa 1 (o::r) T=aa 0 r T:=fh
@[simp] theorem G9{o:Option W}{r:Rho}:aa 2 (o::r) T=aa 1 r T:=fh
@[simp] theorem G8{o:Option W}{r:Rho}:aa 3 (o::r) T=aa 2 r T:=fh
@[simp] theorem G7{o:Option W}{r:Rho}:aa 4 (o::r) T=aa 3 r T:=fh
@[simp] theorem G6{o:Option W}{r:Rho}:aa 5 (o::r) T=aa 4 r T:=fh
@[simp] theorem G5{o:Option W}{r:Rho}:aa 6 (o::r) T=aa 5 r T:=fh
@[simp] theorem G4{o:Option W}{r:Rho}:aa 7 (o::r) T=aa 6 r T:=fh
@[simp] theorem G3{o:Option W}{r:Rho}:aa 8 (o::r) T=aa 7 r T:=fh
@[simp] theorem G0{o:Option W}{r:Rho}:aa 9 (o::r) T=aa 8 r T:=fh
@[simp] theorem Kr:fC x ρ T=some (.d x,T):=rfl
@[simp] theorem GZ:view T (.d x)=some x:=rfl
@[simp] theorem Gr{i:Nat}:view T (.tp i)=(T[i]?).bind i2:=rfl
@[simp] theorem Hr{xs:List PyData}:i2 xs=if isO xs=true then none else some (.list xs):=rfl
@[simp] theorem GY{xs r:List PyData}:isO (.list xs::r)=false:=rfl
@[simp] theorem Gs{xs:List PyData}:view T (.loc (.list xs))=some (.list xs):=rfl
@[simp] theorem ev_viewLD{xs:List (PyData×PyData)}:view T (.loc (.dict xs))=some (.dict xs):=rfl
noncomputable def mkD(T:Tp)(o:Option PyData):Option (W×Tp):=match o with
 |some d=>some (.d d,T)
 |none=>none
@[simp] theorem Jo:mkD T (some x)=some (.d x,T):=rfl
@[simp] theorem HG:mkD T none=none:=rfl
@[simp] theorem HH{p:Prop}[Decidable p]{u v:Option PyData}:mkD T (if p then u else v)=if p then mkD T u else mkD T v:=by split <;> rfl
def wZ(o:PyData->PyData->Option PyData)(g:FE)(ρ:Rho)(w1:W)(T1:Tp):Option (W×Tp):=bnd (g ρ T1) fun w2 T2=>op2 o T2 w1 w2
@[simp] theorem DF{o:PyData->PyData->Option PyData}:ag o f g ρ T=bnd (f ρ T) (wZ o g ρ):=rfl
@[simp] theorem Iw{o:PyData->PyData->Option PyData}:wZ o g ρ w T=bnd (g ρ T) fun w2 T2=>op2 o T2 w w2:=rfl
@[simp] theorem Jf{o:PyData->PyData->Option PyData}:op2 o T (.d x) (.d y)=mkD T (o x y):=rfl
@[simp] theorem Hy{o:PyData->PyData->Option PyData}{zs xs:List PyData}{r:Tp}:op2 o ((.list zs::xs)::r) (.tp 0) (.d y)=mkD ((.list zs::xs)::r) (o (.list (.list zs::xs)) y):=rfl
@[simp] theorem JW{o:PyData->Option PyData}:fUn o f ρ T=bnd (f ρ T) fun w1 T1=>op1 o T1 w1:=rfl
@[simp] theorem Jg{o:PyData->Option PyData}:op1 o T (.d x)=mkD T (o x):=rfl
@[simp] theorem JQ{b:Bool}:asB (.d (.bool b))=some b:=rfl
def wD:W->Tp->Option (Bool×Tp):=fun w T1=>match asB w with
 |some b=>some (b,T1)
 |none=>none
@[simp] theorem IT:aC f ρ T=bnd (f ρ T) wD:=rfl
@[simp] theorem Hc{b:Bool}:wD (.d (.bool b)) T=some (b,T):=rfl
@[simp] theorem IU:aS f ρ T=bnd (f ρ T) fun w T1=>mr T1 w:=rfl
def wF(T:Tp)(o:Option Bool):Option (Bool×Tp):=match o with
 |some b=>some (b,T)
 |none=>none
@[simp] theorem Hf:mr T (.d x)=wF T (mq x):=rfl
@[simp] theorem Hd{b:Bool}:wF T (some b)=some (b,T):=rfl
@[simp] theorem He{b:Bool}:mq (.bool b)=some b:=rfl
def wo(c':FT)(ρ:Rho)(b:Bool)(T1:Tp):Option (Bool×Tp):=if b=true then c' ρ T1 else some (false,T1)
@[simp] theorem IB:cX c c' ρ T=bnd (c ρ T) (wo c' ρ):=rfl
@[simp] theorem GW{b:Bool}:wo c' ρ b T=if b=true then c' ρ T else some (false,T):=rfl
def wO(c':FT)(ρ:Rho)(b:Bool)(T1:Tp):Option (Bool×Tp):=if b=true then some (true,T1) else c' ρ T1
@[simp] theorem Jd:dh c c' ρ T=bnd (c ρ T) (wO c' ρ):=rfl
@[simp] theorem Hx{b:Bool}:wO c' ρ b T=if b=true then some (true,T) else c' ρ T:=rfl
@[simp] theorem HA:bL c ρ T=bnd (c ρ T) fun b T1=>some (!b,T1):=rfl
@[simp] theorem Gu:bv ρ T=some (true,T):=rfl
def xa(g:FE)(ρ:Rho)(w:W)(T:Tp):Option (W×Tp):=match asB w with
 |some b=>if b=true then g ρ T else some (.d (.bool false),T)
 |none=>none
@[simp] theorem IA:cj f g ρ T=bnd (f ρ T) (xa g ρ):=rfl
@[simp] theorem IC{b:Bool}:xa g ρ (.d (.bool b)) T=if b=true then g ρ T else some (.d (.bool false),T):=rfl
def orK(g:FE)(ρ:Rho)(w:W)(T:Tp):Option (W×Tp):=match asB w with
 |some b=>if b=true then some (.d (.bool true),T) else g ρ T
 |none=>none
@[simp] theorem Jc:FN f g ρ T=bnd (f ρ T) (orK g ρ):=rfl
@[simp] theorem Je{b:Bool}:orK g ρ (.d (.bool b)) T=if b=true then some (.d (.bool true),T) else g ρ T:=rfl
def wV(w:W)(T:Tp):Option (W×Tp):=match asB w with
 |some b=>some (.d (.bool (!b)),T)
 |none=>none
@[simp] theorem Hz:mh f ρ T=bnd (f ρ T) wV:=rfl
@[simp] theorem HB{b:Bool}:wV (.d (.bool b)) T=some (.d (.bool (!b)),T):=rfl
def wX(f g:FE)(ρ:Rho)(b:Bool)(T1:Tp):Option (W×Tp):=if b=true then f ρ T1 else g ρ T1
@[simp] theorem JH:bW c f g ρ T=bnd (c ρ T) (wX f g ρ):=rfl
@[simp] theorem Ic{b:Bool}:wX f g ρ b T=if b=true then f ρ T else g ρ T:=rfl
def chK(o':PyData->PyData->Option PyData)(h:FE)(ρ:Rho)(w2 w:W)(T:Tp):Option (W×Tp):=match asB w with
 |some b=>if b=true then bnd (h ρ T) fun w3 T4=>op2 o' T4 w2 w3 else some (.d (.bool false),T)
 |none=>none
@[simp] theorem GT{o o':PyData->PyData->Option PyData}{h:FE}:dQ o o' f g h ρ T=bnd (f ρ T) fun w1 T1=>bnd (g ρ T1) fun w2 T2=>bnd (op2 o T2 w1 w2) (chK o' h ρ w2):=rfl
@[simp] theorem JO{o':PyData->PyData->Option PyData}{h:FE}{b:Bool}:chK o' h ρ w (.d (.bool b)) T=if b=true then bnd (h ρ T) fun w3 T4=>op2 o' T4 w w3 else some (.d (.bool false),T):=rfl
@[simp] theorem Ji:ah ρ T=some ([],T):=rfl
def wj(a:FA)(ρ:Rho)(w:W)(T1:Tp):Option (List W×Tp):=bnd (a ρ T1) fun ws T2=>some (w::ws,T2)
@[simp] theorem Iq:ae f a ρ T=bnd (f ρ T) (wj a ρ):=rfl
@[simp] theorem GS:wj a ρ w T=bnd (a ρ T) fun ws T2=>some (w::ws,T2):=rfl
@[simp] theorem F4:views T []=some []:=rfl
def j6(x:PyData)(o:Option (List PyData)):Option (List PyData):=match o with
 |some xs=>some (x::xs)
 |none=>none
@[simp] theorem GQ{xs:List PyData}:j6 x (some xs)=some (x::xs):=rfl
@[simp] theorem Gq{r:List W}:views T (.d x::r)=j6 x (views T r):=rfl
@[simp] theorem F3{xs:List PyData}{r:List W}:views T (.loc (.list xs)::r)=j6 (.list xs) (views T r):=rfl
@[simp] theorem Gp:et []=some []:=rfl
@[simp] theorem GP{r:List W}:et (.d x::r)=j6 x (et r):=rfl
def sqK(mk:List PyData->PyData)(T:Tp):Option (List PyData)->Option (W×Tp)
 |some xs=>if xs.length<=1000 then some (.d (mk xs),T) else none
 |none=>none
@[simp] theorem Hn{mk:List PyData->PyData}:ao mk a ρ T=bnd (a ρ T) fun ws T1=>sqK mk T1 (et ws):=rfl
@[simp] theorem IX{mk:List PyData->PyData}{xs:List PyData}:sqK mk T (some xs)=if xs.length<=1000 then some (.d (mk xs),T) else none:=rfl
def cbK(o:List PyData->Option PyData)(T:Tp)(v:Option (List PyData)):Option (W×Tp):=match v with
 | some xs=>(match o xs with
  |some d=>some (.d d,T)
  | none=>none)
 |none=>none
@[simp] theorem J8{o:List PyData->Option PyData}:fCB o a ρ T=bnd (a ρ T) fun ws T1=>cbK o T1 (views T1 ws):=rfl
@[simp] theorem JP{o:List PyData->Option PyData}{xs:List PyData}:cbK o T (some xs)=mkD T (o xs):=rfl
@[simp] theorem Ir{m:FnM}:ar m a ρ T=bnd (a ρ T) fun ws T1=>bnd (m ws T1) fun x T2=>some (.d x,T2):=rfl
@[simp] theorem BR{it:FI}:bM it c f ρ T=bnd (it ρ T) fun ds T1=>bnd (bE c f ρ ds T1) fun ys T2=>some (.d (.list ys),T2):=rfl
def itK(T:Tp)(o:Option (List PyData)):Option (List PyData×Tp):=match o with
 |some xs=>some (xs,T)
 |none=>none
def itW:W->Tp->Option (List PyData×Tp):=fun w T1=>match w with
 | .d x=>(match g9 x with
  |some xs=>some (xs,T1)
  | none=>none)
 |_=>none
@[simp] theorem HY:aZ f ρ T=bnd (f ρ T) itW:=rfl
@[simp] theorem JC:itW (.d x) T=itK T (g9 x):=rfl
@[simp] theorem JD{xs:List PyData}:itK T (some xs)=some (xs,T):=rfl
@[simp] theorem Gm{xs:List PyData}:g9 (.list xs)=some xs:=rfl
@[simp] theorem Gn{ds:List (PyData×PyData)}:g9 (.dict ds)=some (ds.map (·.1)):=rfl
@[simp] theorem Gj{xs:List PyData}:g9 (.tuple xs)=some xs:=rfl
@[simp] theorem Gk{z:Str}:g9 (.str z)=if z.length<=sizeLine then some (signs z) else none:=rfl
def wJ:W->Tp->Option (List PyData×Tp):=fun w T1=>match w with
 |.d (.int j)=>if gk j=true then some (cy 0 j.toNat,T1) else none
 |_=>none
@[simp] theorem Ht:fF f ρ T=bnd (f ρ T) wJ:=rfl
@[simp] theorem Hs{j:Int}:wJ (.d (.int j)) T=if gk j=true then some (cy 0 j.toNat,T) else none:=rfl
@[simp] theorem JK{i:Nat}{it:FI}:bc i it s ρ T=bnd (it ρ T) fun ds T1=>forL i s ds ρ T1:=rfl
@[simp] theorem IW{i j:Int}:ib (.int i) (.int j)=some (.int (i-j)):=rfl
@[simp] theorem Jn{i j:Int}:cO (.int i) (.int j)=if 0<j then some (.int (i % j)) else none:=rfl
@[simp] theorem Ik{i j:Int}:EM (.int i) (.int j)=if 0<j/\j<1073741824 then some (.int (i / j)) else none:=rfl
@[simp] theorem Jb{i j:Int}:fJ (.int i) (.int j)=if 0<=j/\j<=1000000/\i.natAbs<2^64 then some (.int (i^j.toNat)) else none:=rfl
@[simp] theorem J0{i j:Int}:ltD (.int i) (.int j)=some (.bool (decide (i<j))):=rfl
@[simp] theorem J1{i j:Int}:leD (.int i) (.int j)=some (.bool (decide (i<=j))):=rfl
@[simp] theorem J4{i j:Int}:gtD (.int i) (.int j)=some (.bool (decide (j<i))):=rfl
@[simp] theorem J7{i j:Int}:geD (.int i) (.int j)=some (.bool (decide (j<=i))):=rfl
@[simp] theorem IG{i j:Int}:aG (.int i) (.int j)=some (.int (i+j)):=rfl
@[simp] theorem IE{u v:Str}:aG (.str u) (.str v)=if u.length+v.length<=sizeLine then some (.str (u++v)) else none:=rfl
@[simp] theorem ID{u v:List PyData}:aG (.tuple u) (.tuple v)=if u.length+v.length<=sizeLine then some (.tuple (u++v)) else none:=rfl
@[simp] theorem IF{u v:List PyData}:aG (.list u) (.list v)=if u.length+v.length<=sizeLine then some (.list (u++v)) else none:=rfl
@[simp] theorem HF{i j:Int}:bA (.int i) (.int j)=if (-(2^64)<i/\i<2^64)\/(-(2^64)<j/\j<2^64) then some (.int (i*j)) else none:=rfl
@[simp] theorem HE{z:Str}{k:Int}:bA (.str z) (.int k)=if 0<=k/\k<=2000/\z.length<=1000 then some (.str (Txt.mul z k)) else none:=rfl
@[simp] theorem JM{i j:Int}:eqD (.int i) (.int j)=some (.bool (decide (i=j))):=rfl
@[simp] theorem JL{i j:Str}:eqD (.str i) (.str j)=some (.bool (decide (i=j))):=rfl
@[simp] theorem JN{i j:Bool}:eqD (.bool i) (.bool j)=some (.bool (decide (i=j))):=rfl
@[simp] theorem Jl{i j:Int}:neD (.int i) (.int j)=some (.bool (!decide (i=j))):=rfl
@[simp] theorem Jk{i j:Str}:neD (.str i) (.str j)=some (.bool (!decide (i=j))):=rfl
@[simp] theorem Jm{i j:Bool}:neD (.bool i) (.bool j)=some (.bool (!decide (i=j))):=rfl
@[simp] theorem J2:isD x .none=some (.bool (isNone x)):=by cases x <;> rfl
@[simp] theorem GN{i j:Bool}:iP (.bool i) (.bool j)=some (.bool (i != j)):=rfl
@[simp] theorem Jj{i:Int}:eS (.int i)=some (.int (-i)):=rfl
@[simp] theorem JE{k:Kd}:br k x=some (.bool (bU (kd x) k)):=rfl
@[simp] theorem JB{xs:List PyData}{i:Int}:ixD (.list xs) (.int i)=atI xs i:=rfl
@[simp] theorem Jz{xs:List PyData}{i:Int}:ixD (.tuple xs) (.int i)=atI xs i:=rfl
@[simp] theorem JA{z:Str}{i:Int}:ixD (.str z) (.int i)=if z.length<=sizeLine then (atI z.cps.toList i).map (fun c=>.str ⟨#[c]⟩) else none:=rfl
@[simp] theorem HP{xs:List PyData}:aY [.list xs]=some (.int xs.length):=rfl
@[simp] theorem HL{xs:List PyData}:aY [.tuple xs]=some (.int xs.length):=rfl
@[simp] theorem HM{z:Str}:aY [.str z]=if z.length<=sizeLine then some (.int z.length) else none:=rfl
@[simp] theorem JT{i:Int}:my [.int i]=some (.int (if i<0 then -i else i)):=rfl
@[simp] theorem Jq{i j:Int}:EB [.int i,.int j]=some (.int (if j>i then j else i)):=rfl
@[simp] theorem Jp{i j:Int}:lX [.int i,.int j]=some (.int (if j<i then j else i)):=rfl
@[simp] theorem F6{xs:List PyData}:bz [.list xs]=some (.tuple xs):=rfl
@[simp] theorem F5{xs:List PyData}:bz [.tuple xs]=some (.tuple xs):=rfl
@[simp] theorem GD{xs:List PyData}:eh [.list xs]=some (.list xs):=rfl
@[simp] theorem GC{xs:List PyData}:eh [.tuple xs]=some (.list xs):=rfl
@[simp] theorem Jv{i:Int}:kd (.int i)=.int:=rfl
@[simp] theorem Jx{i:Bool}:kd (.bool i)=.bl:=rfl
@[simp] theorem Js{i:Str}:kd (.str i)=.str:=rfl
@[simp] theorem Jr{i:List PyData}:kd (.tuple i)=.tup:=rfl
@[simp] theorem Ju{i:List PyData}:kd (.list i)=.lst:=rfl
@[simp] theorem Jw{i:List (PyData×PyData)}:kd (.dict i)=.dct:=rfl
@[simp] theorem Jt:kd .none=.non:=rfl
end
theorem d9{e:FE}{ρ:Rho}{T:Tp}{g:PyData->PyData}:∀{ds:List PyData},(∀d∈ds,e (some (.d d)::ρ) T=some (.d (g d),T))->bE bv e ρ ds T=some (ds.map g,T)
 |[],_=>rfl
 |d::r,h=>by
  have ih:=d9 (ds:=r) fun x hx=>h x (List.mem_cons_of_mem _ hx);have h0:=h d List.mem_cons_self;unfold bE;simp[h0,ih]
theorem qi{c:FT}{ρ:Rho}{T:Tp}{p:PyData->Bool}:∀{ds:List PyData},(∀d∈ds,c (some (.d d)::ρ) T=some (p d,T))->bE c (aa 0) ρ ds T=some (ds.filter p,T)
 |[],_=>rfl
 |d::r,h=>by
  have ih:=qi (ds:=r) fun x hx=>h x (List.mem_cons_of_mem _ hx);have h0:=h d List.mem_cons_self;unfold bE
  cases hp:p d with
  |false=>simp[h0,hp,ih]
  |true=>simp[h0,hp,ih]
theorem qQ{α:Type}(p:α->Bool):∀l:List α,hU (l.map fun d=>.bool (p d))=some (l.map p)
 |[]=>rfl
 |d::r=>by
  show (hU (r.map fun d=>.bool (p d))).map (p d::·)=_;rw[qQ p r];rfl
theorem mW{α:Type}(p:α->Int):∀l:List α,fE (l.map fun d=>.int (p d))=some (l.map p)
 |[]=>rfl
 |d::r=>by
  show (fE (r.map fun d=>.int (p d))).map (p d::·)=_;rw[mW p r];rfl
theorem kr{α:Type}(p:α->Str):∀l:List α,b9 (l.map fun d=>.str (p d))=some (l.map p)
 |[]=>rfl
 |d::r=>by
  show (b9 (r.map fun d=>.str (p d))).map (p d::·)=_;rw[kr p r];rfl
@[simp] theorem JS{α:Type}(p:α->Bool)(l:List α):d0 [.list (l.map fun d=>.bool (p d))]=some (.bool (l.all p)):=by
 show (hU _).map (fun bs=>PyData.bool (bs.all id))=_;rw[qQ,Option.map_some,List.all_map];rfl
@[simp] theorem IV{α:Type}(p:α->Int)(l:List α):ms [.list (l.map fun d=>.int (p d))]=some (.int (l.map p).sum):=by
 show (fE _).map (fun bs=>PyData.int bs.sum)=_;rw[mW,Option.map_some]
@[simp] theorem HI{α:Type}(p:α->Int)(l:List α)(k:Int):EA (.list (l.map fun d=>.int (p d))) (.int k)=some (.int (K1.ij k (l.map p))):=by
 show (fE _).map (fun bs=>PyData.int (K1.ij k bs))=_;rw[mW,Option.map_some]
def jG(y:Str):PyData->Bool
 |.str z=>i5 y z
 |_=>false
theorem Av(y:Str)(c:Nat):i5 y ⟨#[c]⟩=decide (c∈y.cps.toList):=StrLaws.found_one ..
@[simp] theorem JF{x y:Str}:inD (.str x) (.str y)=some (.bool (i5 y x)):=rfl
theorem q8{x:Str}{d:PyData}(h:d∈D.signs x):∃c,c∈x.cps.toList/\d=.str ⟨#[c]⟩:=by
 obtain⟨c,hc,rfl⟩:=List.mem_map.mp h;exact⟨c,hc,rfl⟩
section
variable {X:Cx}
def A3:PyData->PyData->Option PyData
 |.str z,.str y=>some (.bool (Txt.startswith z y))
 |_,_=>none
theorem zH:CallR X (.type "int") (fun xs H Q=>∃x n,xs=[.str x]/\PySem.intText? x=some n/\x.length<=640/\Q (.int n) H):=by
 intro pins s σ H xs us Q I r h;obtain⟨x,n,rfl,hn,hl,q⟩:=h;obtain⟨u,rfl,ru⟩:=vals1 r;obtain⟨t,rfl⟩:=ru;exact PySem.W.KIN.call_text hn hl ⟨.int n,H,I.tok _,⟨_,rfl⟩,q⟩
def intD:List PyData->Option PyData
 |[.int i]=>some (.int i)
 |[.bool b]=>some (.int (if b then 1 else 0))
 |[.str x]=>if x.length<=640 then (PySem.intText? x).map .int else none
 |_=>none
theorem wm:dX X (.type "int") intD:=⟨_,call_int1.or zH,fun O ts H T vs xs d Q hc h e q=>by
 unfold intD at e;split at e
 .cases e
  obtain⟨v,rfl,g⟩:=cH h;cases g.int;exact .inl (.inl ⟨_,rfl,q _ H (.refl _ _) hc (.int _)⟩)
 .cases e
  obtain⟨v,rfl,g⟩:=cH h;cases g.bl;exact .inl (.inr ⟨_,rfl,q _ H (.refl _ _) hc (.int _)⟩)
 .split at e
  .rename_i hz
   obtain⟨n,e1,rfl⟩:=Option.map_eq_some_iff.mp e;obtain⟨v,rfl,g⟩:=cH h;cases g.str;exact .inr ⟨_,n,rfl,e1,hz,q _ H (.refl _ _) hc (.int _)⟩
  .cases e
 .cases e⟩
end
@[simp] theorem F7{z y:Str}:A3 (.str z) (.str y)=some (.bool (Txt.startswith z y)):=rfl
@[simp] theorem HZ{x:Str}:intD [.str x]=if x.length<=640 then (PySem.intText? x).map .int else none:=rfl
@[simp] theorem H8{i:Int}:intD [.int i]=some (.int i):=rfl
@[simp] theorem Ia{b:Bool}:intD [.bool b]=some (.int (if b then 1 else 0)):=rfl
def eqG(x y:PyData):Option PyData:=if SeqAt.shaped x=true/\SeqAt.shaped y=true then some (.bool (PyData.eqv x y)) else none
def neG(x y:PyData):Option PyData:=if SeqAt.shaped x=true/\SeqAt.shaped y=true then some (.bool (!PyData.eqv x y)) else none
section
variable {X:Cx}
theorem Vw.reads{pins:List (Addr×Obj)}{σ:L2.St}{H:Hp}{s:Shared}{O:Addr->Prop}{v:V}{d:PyData}{u:Value}(I:Inv X pins σ H s)(h:Vw X.K O H v d)(r:RelV v u):∃as,Reads s.heap u d as:=by
 cases h with
 |rep h=>obtain⟨as,rd,_⟩:=h.reads I r;exact⟨as,rd⟩
 |raw h hs=>
  cases r;obtain⟨its,rv,pl,_⟩:=I.list (SqL.of h);obtain⟨o,n,e,c,_,dd⟩:=pl;obtain⟨as,rd,_⟩:=hs.reads I rv;exact⟨_,.list e c dd (by simpa using rd)⟩
 |rawD h rk=>
  cases r;obtain⟨z,y,vs,kv,o,es,ep,e,ed,dd,_,ek,_⟩:=(show ObjOk X.prog X.w H s.heap _ (.dK _) from I.hok _ _ h);obtain⟨bs,q1,q2,f⟩:=RepK.reads I rk kv ek;exact⟨_,.dict (as:=[]) (bs:=bs) e ed.1 dd q1 q2⟩
theorem C8{k:Nat}(hr:Room k X.A):OpR X (compareOp .Eq) (fun x y H Q=>∃O d1 d2,Vw X.K O H x d1/\Vw X.K O H y d2/\SeqAt.shaped d1=true/\SeqAt.shaped d2=true/\Q (.bl (PyData.eqv d1 d2)) H):=by
 intro pins s σ H x y v u Q I rx ry h;obtain⟨O,d1,d2,h1,h2,s1,s2,q⟩:=h;obtain⟨as,r1⟩:=h1.reads I rx;obtain⟨bs,r2⟩:=h2.reads I ry;exact SeqAt.compareEq_shaped r1 r2 s1 s2 (by have:=hr.un;omega) ⟨.bl _,H,I,rfl,q⟩
theorem C4{k:Nat}(hr:Room k X.A):OpR X (compareOp .NotEq) (fun x y H Q=>∃O d1 d2,Vw X.K O H x d1/\Vw X.K O H y d2/\SeqAt.shaped d1=true/\SeqAt.shaped d2=true/\Q (.bl (!PyData.eqv d1 d2)) H):=by
 intro pins s σ H x y v u Q I rx ry h;obtain⟨O,d1,d2,h1,h2,s1,s2,q⟩:=h;obtain⟨as,r1⟩:=h1.reads I rx;obtain⟨bs,r2⟩:=h2.reads I ry;exact SeqAt.compareNe_shaped r1 r2 s1 s2 (by have:=hr.un;omega) ⟨.bl _,H,I,rfl,q⟩
theorem Et{k:Nat}(hr:Room k X.A):OpD X (compareOp .Eq) eqG:=⟨_,C8 hr,fun O ts H T v1 v2 x y d Q hc h1 h2 e q=>by
 unfold eqG at e;split at e
 .rename_i h
  cases e;exact⟨O,x,y,h1,h2,h.1,h.2,q _ H (.refl _ _) hc (.bl _)⟩
 .cases e⟩
theorem pB{k:Nat}(hr:Room k X.A):OpD X (compareOp .NotEq) neG:=⟨_,C4 hr,fun O ts H T v1 v2 x y d Q hc h1 h2 e q=>by
 unfold neG at e;split at e
 .rename_i h
  cases e;exact⟨O,x,y,h1,h2,h.1,h.2,q _ H (.refl _ _) hc (.bl _)⟩
 .cases e⟩
open Classical in
def kc(h:Heap)(x:PyData)(v:Value):Bool:=if e:∃p:PyData×List Addr,Reads h v p.1 p.2 then PyData.eqv e.choose.1 x else false
theorem t4{h:Heap}{x d:PyData}{v:Value}{as:List Addr}(r:Reads h v d as):kc h x v=PyData.eqv d x:=by
 have e:∃p:PyData×List Addr,Reads h v p.1 p.2:=⟨(d,as),r⟩;unfold kc;rw[dif_pos e];have:=(PySem.Reads.unique e.choose_spec d as r).1;rw[this]
theorem sP{h:Heap}{x:PyData}:∀{vs:List Value}{ds:List PyData}{as:List Addr},ReadsAll h vs ds as->vs.any (kc h x)=ds.any fun d=>PyData.eqv d x
 |_,_,_,.nil=>rfl
 |_,_,_,.cons r rs=>by rw[List.any_cons,List.any_cons,t4 r,sP rs]
theorem readsAll_mem{h:Heap}:∀{vs:List Value}{ds:List PyData}{as:List Addr}{v:Value},ReadsAll h vs ds as->v∈vs->∃d bs,d∈ds/\Reads h v d bs
 |_,_,_,_,.cons r rs,hm=>by
  rcases List.mem_cons.mp hm with z|z
  .subst z;exact⟨_,_,List.mem_cons_self,r⟩
  .obtain⟨d,bs,h1,h2⟩:=readsAll_mem rs z
   exact⟨d,bs,List.mem_cons_of_mem _ h1,h2⟩
def inG:PyData->PyData->Option PyData
 |x,.tuple ys=>if SeqAt.shaped x=true/\ys.all SeqAt.shaped=true then some (.bool (ys.any fun y=>PyData.eqv y x)) else none
 |_,_=>none
theorem C7{k:Nat}(hr:Room k X.A):OpR X (compareOp .In) (fun x y H Q=>∃O d1 a vs ds,Vw X.K O H x d1/\y=.ref a/\SqT X.K H a vs/\Reps X.K O H vs ds/\SeqAt.shaped d1=true/\ds.all SeqAt.shaped=true/\Q (.bl (ds.any fun y=>PyData.eqv y d1)) H):=by
 intro pins s σ H x y v u Q I rx ry h;obtain⟨O,d1,a,vs,ds,h1,rfl,h2,h3,s1,s2,q⟩:=h;cases ry;obtain⟨as,r1⟩:=h1.reads I rx;obtain⟨its,rv,p1,_⟩:=I.tuple h2;obtain⟨bs,r2,_⟩:=h3.reads I rv;refine SeqAt.in_tupleAt (kc s.heap d1) p1 (fun y hy=>?_) ?_
 .obtain⟨d,cs,hd,rd⟩:=readsAll_mem r2 (by simpa using hy)
  rw[t4 rd];have sd:=List.all_eq_true.mp s2 d hd;refine SeqAt.eqAt_reads d d1 _ s y v _ _ rd r1 (SeqAt.canLay_of_shaped sd) (SeqAt.canLay_of_shaped s1) (SeqAt.room_of_shaped sd ?_);have:=hr.un;show X.A.in1.units+64<cLine
  have e:X.A.in1.units<=X.A.units+1:=by simp[Around.in1]
  omega
 .have e:its.toArray.any (kc s.heap d1)=ds.any fun y=>PyData.eqv y d1:=by
   rw[←sP r2];simp
  rw[e];exact⟨.bl _,H,I,rfl,q⟩
theorem vQ{k:Nat}(hr:Room k X.A):OpD X (compareOp .In) inG:=⟨_,C7 hr,fun O ts H T v1 v2 x y d Q hc h1 h2 e q=>by
 unfold inG at e;split at e
 .split at e
  .rename_i h
   cases e;obtain⟨a,vs,rfl,t,r⟩:=h2.tup;exact⟨O,x,a,vs,_,h1,rfl,t.sq,r,h.1,h.2,q _ H (.refl _ _) hc (.bl _)⟩
  .cases e
 .cases e⟩
end
theorem y8(l:Addr)(items:Array Value)(n:Nat)(b:Addr)(items2:Array Value)(n2:Nat)(dd:Option Addr)(sl:Array (Option Value))(hc0:¬(!items.isEmpty&&Builtin.List.listTooLong (items.size+items2.size))=true)(hc1:items.size<=sizeLine)(hs2:items.size+items2.size<=sizeLine+1) :
  Meets (Builtin.«list.extend» ⟨[.ref l,.ref b],[]⟩) (fun _ R s=>s.heap.get? l=some { cls:=.type "list",dict:=none,data:=.seq items n,slots:=#[] }/\s.heap.get? b=some { cls:=.type "list",dict:=dd,data:=.seq items2 n2,slots:=sl }/\R (.ok (.ret Value.none)) { s with heap:=s.heap.update l (Obj.mapSeq fun x=>x++items2),toks:=s.toks }):=
 .of_wp fun prog w A R s h=>by
  obtain⟨hp,g,d,tk,os⟩:=s;obtain⟨hl,hb,h⟩:=h;have f1:=AutoSeq1.idx_int;have f2:=AutoSeq1.sub_tuple_tuple;have f3:=AutoSeq1.sub_list_list;have f4:=AutoSeq1.sub_tuple_list;have f5:=AutoSeq1.sub_list_tuple
  have hz':(items++items2).size<=sizeLine+1:=by rw[Array.size_append];exact hs2
  wp_walk using(wpAny_updateSeq hl rfl (hz:=hc1) (_hz':=hz')),wpAny_loadPart' hl,wpAny_loadPart' hb;exact⟨_,rfl,h⟩
section
variable {X:Cx}
theorem Dg:MtM X "list.extend" (fun x vs H Q=>∃l b xs zs,x=.ref l/\vs=[.ref b]/\H l=some (.lst xs)/\SqL X.K H b zs/\xs.length+zs.length<=sizeLine/\Q .non (upd H l (.lst (xs++zs)))):=by
 intro pins s σ H x vs v us Q I rx rv h;obtain⟨l,b,xs,zs,rfl,rfl,hH,hB,hz,q⟩:=h;cases rx;obtain⟨u,rfl,ru⟩:=rv.one;cases ru;obtain⟨z,its,n,r,hl,e⟩:=I.lstM hH;obtain⟨its2,r2,pl,_⟩:=I.list hB;obtain⟨⟨cls2,dd2,data2,sl2⟩,n2,e2,c2,_,d2⟩:=pl;simp only at c2 d2;subst c2 d2;have hl2:=r2.length
 have hsz:its.toArray.size+its2.toArray.size<=sizeLine:=by rw[List.size_toArray,List.size_toArray];omega
 have hlong:¬(!its.toArray.isEmpty&&Builtin.List.listTooLong (its.toArray.size+its2.toArray.size))=true:=by
  rw[Ah hsz,Bool.and_false];exact Bool.false_ne_true
 refine call_meets F.slot_list_extend ⟨_,e,rfl⟩ F.entry_list_extend (F.args_list_extend_2 _ _)
  (y8 l its.toArray n b its2.toArray n2 dd2 sl2 hlong (by rw[List.size_toArray];omega) (by omega)) ⟨e,e2,?_⟩
 refine⟨.non,_,I.lset (its':=its++its2) hH e (by simp) (r.append r2) ?_,rfl,q⟩;rw[List.length_append];omega
variable {pos:Pos}{e:Expr}{fe:FE}
def fL(i:Nat)(f:FE):FS:=fun ρ T=>bnd (f ρ T) fun w T1=>match w,ρ[i]? with
 |.d (.list ys),some (some (.loc (.list xs)))=>if xs.length+ys.length<=sizeLine then some ((.nx,ρ.set i (some (.loc (.list (xs++ys))))),T1) else none
 |_,_=>none
theorem vi{i:Nat}{x:Str}{p apos:Pos}(he:DE X e fe)(hN:X.N[i]? = some x:=by rfl)(hv:Vis X.env.scope x:=by first|exact Or.inl rfl|exact Or.inr (Or.inl rfl)|exact Or.inr (Or.inr rfl))(hd:(x == ("__debug__" : Str))=false:=by decide)
  (hcd:(x == ("__classdict__" : Str))=false:=by decide) {cpos:Pos}
  (hbase:attributeBase (.Name x p) "extend" X.env (eval (.Name x p) X.env)=eval (.Name x p) X.env:=by rfl)
  (hfew:((backTo cpos (starEach [e] X.env)).all (fun x=>!x.1)&&(backToKw cpos (keywordEach [] X.env)).all (fun x=>x.1.isSome)
   && decide (([e]:List Expr).length+([]:List Keyword).length+(if ([]:List Keyword).isEmpty then 0 else 1)<30))=true:=by exact mx rfl)
  (hline:(apos.endLine == cpos.line)=true:=by rfl) (hse:starEach [e] X.env=(false,eval e X.env)::starEach [] X.env:=by exact a8 rfl) (hplain:(backTo cpos (starEach [] X.env)).any (·.1)=false:=by exact bQ rfl)
  (hs:swapsWith (.Call (.Attribute (.Name x p) "extend" apos) [e] [] cpos) none pos.line X.env=pure false:=by rfl) :
  DS X (.Expr (.Call (.Attribute (.Name x p) "extend" apos) [e] [] cpos) pos) (fL i fe):=by
 refine⟨?_⟩;refine cc (nR (jT PySem.F.plainAttrs_list PySem.F.slot_list_extend PySem.F.type_list_extend Dg (pv i hN hv hd hcd) (cT he.pe dB hse) hbase hfew hline hse hplain) hs) fun D σ H=>?_;rintro⟨O₀,H₀,F,ts,O,ρ,T,fl,ρ',T',rs,e,q⟩;obtain⟨w,T1,e1,e⟩:=aJ e;split at e
 .rename_i ys xs h1
  split at e
  .rename_i h2
   cases e;obtain⟨v,k1,a,rfl,k2,k3,vs,k4,k5⟩:=rs.re i _ h1;refine⟨_,k1,.inl ⟨rfl,vs,SqL.of k4⟩,O,ts,ρ,T,_,_,rs.hc,rs.re,e1,fun u H1 s1 hc1 r1=>?_⟩;have rs1:=rs.step s1 hc1;have r1':Rep X.K O H1 u (.list ys):=r1
   cases r1' with
   |lst t r=>
    rename_i b us;exact⟨a,b,vs,us,rfl,rfl,s1 _ _ k3 k4,t.sq,by rw[k5.length,r.length];exact h2,q O _ _ (rs1.put (us:=[]) h1 k1 ((k5.mono (rs.hc.le s1)).append r))⟩
  .cases e
 .cases e
end
section
variable {X:Cx}{pos:Pos}{e:Expr}{f:FE}{x:Str}{p:Pos}{B:List (Str×Int)}
end
end D
namespace L2
open PySem PySem.Spec PyProof.Rows
open K1 (jz ij)
section
variable {prog:Program}{w:World}{A:Around}{R:Result->Shared->Prop}{it S:Addr}{fp wr:List Addr}{P:Nat->Value->Prop}{St:Nat->Heap->Prop}{ns:List Int}{kw:List (Str×Value)}
end
section
variable {X:Cx}
end
end L2
namespace D
open PySem PySem.Spec PyProof.Rows L2
section
variable {X:Cx}{pos:Pos}{e:Expr}{f:FE}{x:Str}{p:Pos}
variable {B:List (Str×Int)}
def kW:List Value->List Str->Bool
 |[],[]=>true
 |.str x _::r,y::s=>decide (x=y)&&kW r s
 |_,_=>false
def iA(look:Addr->Option Obj)(a:Addr)(ss:List Str):Bool:=match look a with
 |some ⟨.type n,_,.seq its _,_⟩=>decide (n="tuple")&&kW its.toList ss
 |_=>false
def xb(K:Frag)(mg:Str->Option Value)(x:Str)(ss:List Str):Prop:=∃a,mg x=some (.ref a)/\iA (fun b=>K.lookup b) a ss=true
theorem qY:∀{vs:List Value}{ss:List Str},kW vs ss=true->Vals (ss.map V.str) vs
 |[],[],_=>.nil
 |.str x t::r,y::s,h=>by
  have h':(decide (x=y)&&kW r s)=true:=h;rw[Bool.and_eq_true] at h';exact .cons ⟨t,by rw[of_decide_eq_true h'.1]⟩ (qY h'.2)
theorem mQ{K:Frag}{O:Addr->Prop}{H:Hp}:∀ss:List Str,Reps K O H (ss.map V.str) (ss.map PyData.str)
 |[]=>.nil
 |x::r=>.cons (.str x) (mQ r)
theorem AI{ss:List Str}(hg:Gl X x)(ht:xb X.K X.mg x ss)(hz:ss.length<=sizeLine:=by decide)(hd:(x == ("__debug__" : Str))=false:=by decide):DE X (.Name x p) (fC (.tuple (ss.map PyData.str))):=by
 obtain⟨a,hx,hl⟩:=ht;refine⟨?_⟩;refine bj (nU (v:=.ref a) hg hx rfl hd) (gY fun O H=>?_);unfold iA at hl;split at hl
 .rename_i n dd its c sl hk
  rw[Bool.and_eq_true] at hl;have rv:=qY hl.2;have hn:=of_decide_eq_true hl.1;subst hn;refine .tup (vs:=ss.map V.str) (.inr (.inr ⟨_,its,c,hk,rfl,rfl,?_,rv⟩)) (mQ ss);have:=rv.length;rw[List.length_map] at this;have e2:its.toList.length=its.size:=Array.length_toList;omega
 .cases hl
def pO(o:Obj)(ss:List Str):Bool:=iA (fun _=>some o) 0 ss
theorem yO{K:Frag}{a:Addr}{o:Obj}{ss:List Str}(h:K.lookup a=some o)(g:pO o ss=true):iA (fun b=>K.lookup b) a ss=true:=by
 unfold pO iA at g;unfold iA;dsimp only;rw[h];exact g
end
mutual
def aW:PyData->Bool
 |.tuple ds=>bh ds
 |.list _=>false
 |.dict _=>false
 |_=>true
def bh:List PyData->Bool
 |[]=>true
 |d::r=>aW d&&bh r
end
section
variable {K:Frag}{O:Addr->Prop}{H:Hp}
theorem TupAt.own(hm:∀b,O b->Mut (H b)){a:Addr}{vs:List V}(t:TupAt K (fun _=>False) H a vs):TupAt K O H a vs:=by
 rcases t with⟨_,t⟩|t
 .refine .inl ⟨fun z=>?_,t⟩
  rcases hm a z with⟨us,e⟩|⟨us,e⟩|⟨C,dx,us,e⟩ <;> rcases t with t|⟨o,t⟩ <;> (rw[e] at t;cases t)
 .exact .inr t
mutual
theorem Rep.own(hm:∀b,O b->Mut (H b)):∀{v:V}{d:PyData},Rep K (fun _=>False) H v d->aW d=true->Rep K O H v d
 |_,_,.non,_=>.non
 |_,_,.bl b,_=>.bl b
 |_,_,.int i,_=>.int i
 |_,_,.str x,_=>.str x
 |_,_,.tup t r,h=>.tup (t.own hm) (Reps.own hm r (by simpa[aW] using h))
 |_,_,.lst t r,h=>by simp[aW] at h
 |_,_,.dct n t r,h=>by simp[aW] at h
theorem Reps.own(hm:∀b,O b->Mut (H b)):∀{vs:List V}{ds:List PyData},Reps K (fun _=>False) H vs ds->bh ds=true->Reps K O H vs ds
 |_,_,.nil,_=>.nil
 |_,_,.cons (d:=d) (ds:=ds) r t,h=>by
  have h':(aW d&&bh ds)=true:=by simpa[bh] using h
  rw[Bool.and_eq_true] at h';exact .cons (Rep.own hm r h'.1) (Reps.own hm t h'.2)
end
end
def ka:List W->Bool
 |[]=>true
 |.tp _::_=>false
 |.loc (.dict _)::_=>false
 |_::r=>ka r
theorem pT{K:Frag}{O:Addr->Prop}{ts:List Addr}{H:Hp}:∀{vs:List V}{ws:List W},gx K O ts H vs ws->ka ws=true->gx K (fun _=>False) [] H vs (ws.map i6)
 |_,[],.nil,_=>.nil
 |_,.d x::r,.cons h t,e=>.cons (show Rep K (fun _=>False) H _ x from Rep.mono (fun a o n e=>⟨fun z=>z,e⟩) h) (pT t e)
 |_,.tp _::_,.cons _ _,e=>by cases e
 |_,.loc x::r,.cons h t,e=>by
  have le:Le O H (fun _=>False) H:=fun a o n e=>⟨fun z=>z,e⟩;obtain⟨a,rfl,_,_,h3⟩:=h
  cases x with
  |list xs=>obtain⟨vs,h1,h2⟩:=h3;exact .cons (.lst (.inl ⟨fun z=>z,.inl h1⟩) (h2.mono le)) (pT t e)
  |dict xs=>cases e
  |_=>cases h3
def eJ(m:FnM)(g:FA):FE:=fun ρ T=>bnd (g ρ T) fun ws T1=>if ka ws=true then (match m (ws.map i6) [] with
 |some (x,_)=>if aW x=true then some (.d x,T1) else none
 | none=>none) else none
theorem kR{X:Cx}{name:Str}{ps:List Str}{k:Nat}{m:FnM}{e:Expr}{es:List Expr}{g:FA}{p pos:Pos}(F:Fn X.prog X.w X.K X.mg X.base name ps k (spM X.K ps.length m))(hr:Room k X.A)(hg:Gl X name)(ha:DA X (e::es) g)(hl:fO g ps.length)(hdb:(name == ("__debug__" : Str))=false:=by decide)
  (he:starEach (e::es) X.env=(false,eval e X.env)::starEach es X.env:=by exact a8 rfl) (hpl:(backTo pos (starEach es X.env)).any (·.1)=false:=by exact bQ rfl):DE X (.Call (.Name name p) (e::es) [] pos) (eJ m g):=by
 refine⟨?_⟩;refine bj (iV F hr hg ha.pe hdb he hpl) fun σ H Q=>?_;rintro⟨O,ts,ρ,T,w,T',hc,re,e,q⟩;obtain⟨ws,T1,e1,e⟩:=aJ e;split at e
 .rename_i hn
  split at e
  .rename_i x T2 e2
   split at e
   .rename_i hx
    cases e;refine⟨O,ts,ρ,T,ws,_,hc,re,e1,fun vs H1 s1 hc1 r1=>?_⟩;refine⟨fun _=>False,[],[],ws.map i6,x,T2,⟨fun b hb=>(by cases hb),fun b hb=>hb.elim,List.nodup_nil,rfl,fun i a xs e1 _=>by simp at e1⟩,by rw[List.append_nil];exact pT r1 hn,by rw[List.length_map];exact hl _ _ _ _ e1,e2,fun v H2 s2 hc2 r2=>?_⟩;have s2':SameX ts H1 H2:=fun b o _ q=>s2 b o (by simp) q
    have hm:∀b,O b->Mut (H2 b):=fun b hb=>by
     exact(hc1.trk b hb).to fun u z=>s2 b _ (by simp) z
    have hc2':=hc1.step s2' fun b hb=>by
     obtain⟨u,z⟩:=(hc1.trk b (hc1.own b hb)).ex;rw[z];exact s2 b _ (by simp) z
    exact q v H2 (s1.trans s2') hc2' (Rep.own hm r2 hx)
   .cases e
  .cases e
 .cases e
def av(ds:List (PyData×PyData))(s:Str):Option PyData:=match ds with
 |[]=>none
 |(.str k,d)::r=>if k=s then some d else av r s
 |_::r=>av r s
theorem gR{K:Frag}{O:Addr->Prop}{H:Hp}{s:Str}:∀{kvs:List (Key×V)}{ds:List (PyData×PyData)},RepK K O H kvs ds->(av ds s=none/\bt kvs (Sum.inr s:Key)=none)\/∃v d,av ds s=some d/\bt kvs (Sum.inr s:Key)=some v/\Rep K O H v d
 |_,_,.nil=>.inl ⟨rfl,rfl⟩
 |_,_,.cons (k:=.inl i) (v:=v) (d:=d) (kvs:=kvs) (ds:=ds) r t=>by
  have e:bt (((Sum.inl i:Key),v)::kvs) (Sum.inr s:Key)=bt kvs (Sum.inr s:Key):=by simp[bt,List.find?_cons]
  rw[e];show (av ds s=none/\_)\/∃v d,av ds s=some d/\_;exact gR (s:=s) t
 |_,_,.cons (k:=.inr k) (v:=v) (d:=d) (kvs:=kvs) (ds:=ds) r t=>by
  by_cases hk:k=s
  .subst hk
   exact .inr ⟨v,d,by show (if k=k then some d else av ds k)=some d;rw[if_pos rfl],by simp[bt,List.find?_cons],r⟩
  .have e:bt (((Sum.inr k:Key),v)::kvs) (Sum.inr s:Key)=bt kvs (Sum.inr s:Key):=by simp[bt,List.find?_cons,hk]
   have e2:av ((cQ (Sum.inr k:Key),d)::ds) s=av ds s:=by show (if k=s then some d else av ds s)=_;rw[if_neg hk]
   rw[e,e2];exact gR (s:=s) t
theorem DGet.rd{H:Hp}{a:Addr}{kvs:List (Key×V)}{k:Key}(e:Rd H a (.dK kvs)):DGet H a (kV k) (bt kvs k):=.inl ⟨kvs,k,e,rfl,rfl⟩
section
variable {X:Cx}{pos:Pos}{k:Nat}
theorem ma{k:Nat}{A:Around}(hr:Room k A):A.units+1<cLine:=by have:=hr.un;omega
end
section
variable {K:Frag}{O₀:Addr->Prop}{H₀:Hp}{F:List ((Addr->Prop)×Hp)}{ts:List Addr}{O:Addr->Prop}{H H1:Hp}{σ:L2.St}{ρ:Rho}{T T1:Tp}
end
section
variable {X:Cx}{pos:Pos}
def bD(ds:List (PyData×PyData))(s:Str)(x:PyData):List (PyData×PyData):=match ds with
 |[]=>[]
 |(.str k,d)::r=>if k=s then (.str k,x)::bD r s x else (.str k,d)::bD r s x
 |p::r=>p::bD r s x
theorem mS{K:Frag}{O:Addr->Prop}{H:Hp}{s:Str}{v:V}{x:PyData}(rx:Rep K O H v x):∀{kvs:List (Key×V)}{ds:List (PyData×PyData)},RepK K O H kvs ds->RepK K O H (kvs.map fun kv=>if kv.1=(Sum.inr s:Key) then (kv.1,v) else kv) (bD ds s x)
 |_,_,.nil=>.nil
 |_,_,.cons (k:=.inl i) r t=>by
  rw[List.map_cons];rw[if_neg (by intro z;cases z)];exact .cons (k:=.inl i) r (mS rx t)
 |_,_,.cons (k:=.inr k) (v:=u) (d:=d) (kvs:=kvs) (ds:=ds) r t=>by
  rw[List.map_cons];have ih:=mS (s:=s) rx t;show RepK K O H _ (if k=s then (.str k,x)::bD ds s x else (.str k,d)::bD ds s x)
  by_cases hk:k=s
  .rw[if_pos hk,if_pos (by rw[hk])]
   exact .cons (k:=.inr k) rx ih
  .rw[if_neg hk,if_neg (fun z=>hk (Sum.inr.inj z))]
   exact .cons (k:=.inr k) r ih
theorem sv{K:Frag}{O:Addr->Prop}{H:Hp}:∀{kvs:List (Key×V)}{ds:List (PyData×PyData)},RepK K O H kvs ds->kvs.length=ds.length
 |_,_,.nil=>rfl
 |_,_,.cons _ t=>congrArg (· + 1) (sv t)
theorem yJ{kvs:List (Key×V)}{k:Key}(h:(bt kvs k).isSome=true):(kvs.any fun kv=>decide (kv.1=k))=true:=by
 unfold bt at h;rw[Option.isSome_map] at h;rw[List.any_eq_true];obtain⟨p,hp⟩:=Option.isSome_iff_exists.mp h;exact⟨p,List.mem_of_find?_eq_some hp,by have:=List.find?_some hp;simpa using this⟩
end
section
variable {X:Cx}{pos:Pos}{e:Expr}{f:FE}{x:Str}{p:Pos}{B:List (Str×Str)}
end
section
variable {K:Frag}{O:Addr->Prop}{ts:List Addr}{H H':Hp}{T:Tp}{n:Nat}{a C:Addr}{ps:List PyData}
end
section
variable {X:Cx}{C:Addr}{o e:Expr}{f m:Str}{pos pos' apos:Pos}{fo fe:FE}
structure Mth(P:Program)(w:World)(K:Frag)(mg:Str->Option Value)(base:Heap)(C:Addr)(m:Str)(ps:List Str)(k:Nat)(sp:Sp):Prop where
 ex:∃f fd,FnOk P w K mg base CX0 k f fd ps sp/\Binds K fd ps []/\Meth K C m f
variable {ps:List Str}{k:Nat}{mm:FnM}{g:FA}{es:List Expr}{pl:Sem Bool}
end
section
variable {X:Cx}{C f:Addr}{e:Expr}{fe:FE}{fr:FS}{rest:List Stmt}{cn x:Str}{p pos pos' cpos:Pos}{ps:List Str}{k i:Nat}{m:FnM}{fd:FuncData}
end
end D
namespace L2
open PySem PySem.Spec PyProof.Rows
section
variable {X:Cx}
theorem xM:CallR X (.type "str") (fun xs H Q=>∃x,xs=[.str x]/\Q (.str x) H):=by
 intro pins s σ H xs us Q I r h;obtain⟨x,rfl,q⟩:=h;obtain⟨u,rfl,t,rfl⟩:=vals1 r;exact PySem.P.str_of_str ⟨.str x,H,I,⟨t,rfl⟩,q⟩
end
end L2
namespace D
open PySem PySem.Spec PyProof.Rows L2
section
variable {X:Cx}{pos:Pos}
def eA:List PyData->Option PyData
 |[.int i]=>if i.natAbs.log2<1920 then some (.str (toString i)) else none
 |[.str x]=>some (.str x)
 |_=>none
theorem vx:dX X (.type "str") eA:=⟨_,call_str_int.or xM,fun O ts H T vs xs d Q hc h e q=>by
 unfold eA at e;split at e
 .split at e
  .rename_i hz
   cases e;obtain⟨v,rfl,g⟩:=cH h;cases g.int;exact .inl ⟨_,rfl,hz,q _ H (.refl _ _) hc (.str _)⟩
  .cases e
 .cases e
  obtain⟨v,rfl,g⟩:=cH h;cases g.str;exact .inr ⟨_,rfl,q _ H (.refl _ _) hc (.str _)⟩
 .cases e⟩
def hW(i:Nat)(ρ:Rho)(x y:Option PyData)(T:Tp):Option ((Fl×Rho)×Tp):=match x,y with
 |some (.list xs),some (.list ys)=>if xs.length+ys.length<=sizeLine then some ((.nx,ρ.set i (some (.loc (.list (xs++ys))))),T) else none
 |_,_=>none
def eO(i:Nat)(fa fb:FE):FS:=fun ρ T=>bnd (fa ρ T) fun w1 T1=>bnd (fb ρ T1) fun w2 T2=>hW i ρ (view T2 w1) (view T2 w2) T2
theorem ud{i:Nat}{x:Str}{a b:Expr}{fa fb:FE}{pos' bpos:Pos}(hN:X.N.Nodup)(ha:DE X a fa)(hb:DE X b fb)(hi:X.N[i]? = some x:=by rfl)(hx:Loc X.env.scope x:=by first|exact Or.inl rfl|exact Or.inr rfl)(hs:swapsWith (.BinOp a .Add b bpos) (some (.Name x pos')) pos.line X.env=pure false:=by rfl)
  (hf:X.fn x=true\/X.env.scope.names.lookup x=some .local:=by first|exact .inl rfl|exact .inr rfl|assumption):DS X (.Assign [.Name x pos'] (.BinOp a .Add b bpos) pos) (eO i fa fb):=by
 refine⟨?_⟩;refine cc (gX hN hi hx (vO tH ha.pe hb.pe) hs hf) fun D σ H=>?_;rintro⟨O₀,H₀,F,ts,O,ρ,T,fl,ρ',T',rs,e,q⟩;obtain⟨w1,T1,e1,e⟩:=aJ e;obtain⟨w2,T2,e2,e⟩:=aJ e;refine⟨O,ts,ρ,T,w1,T1,rs.hc,rs.re,e1,fun v1 H1 s1 hc1 r1=>?_⟩;have rs1:=rs.step s1 hc1;refine⟨O,ts,ρ,T1,w2,T2,hc1,rs1.re,e2,fun v2 H2 s2 hc2 r2=>?_⟩;have rs2:=rs1.step s2 hc2;unfold hW at e;split at e
 .rename_i xs ys h1 h2
  split at e
  .rename_i hz
   cases e;obtain⟨a1,vs,rfl,t1,q1⟩:=(hc2.view (r1.mono hc1 s2) h1).lst;obtain⟨b1,us,rfl,t2,q2⟩:=(hc2.view r2 h2).lst;exact⟨a1,b1,vs,us,rfl,rfl,t1,t2,by rw[q1.length,q2.length];exact hz,fun p hp=>q _ _ _ (rs2.own hp (q1.append q2))⟩
  .cases e
 .cases e
structure Ini(P:Program)(w:World)(K:Frag)(mg:Str->Option Value)(base:Heap)(C:Addr)(ps:List Str)(k:Nat)(sp:Sp):Prop where
 ex:∃f fd,FnOk P w K mg base CX0 k f fd ps sp/\L2.Binds K fd ps []/\Mk K C f
structure DfM(K:Frag)(C:Addr)(name qual:Str)(st:Stmt):Prop where
 ex:∃(f:Addr) (oc:Value) (od an:Option Addr) (sl:Array (Option Value)) (kV dc pm cd ct:Value),PySem.W.findIn K (.ref C) name=some (some (.ref f)) /\
  K.lookup f=some ⟨oc,od,.func (PySem.W.fnOf name qual (dA st) (cb st) (a9 st) .none kV dc pm an cd ct),sl⟩/\PySem.W.codeIn K cd qual=true/\PySem.W.keepIn K (.ref f)=true/\PySem.W.isFn K (.ref f)=true
theorem qT{P:Program}{w:World}:∀{kvs:List (Key×V)}{vs:List (Key×Value)}{us:List Value},KV kvs vs->us.length=vs.length->(∀(j:Nat) (v:Value),us[j]? = some v->∃k x,vs[j]? = some (k,x)/\(bq P w).is k v=true)->Vals (kvs.map fun p=>kV p.1) us
 |[],[],[],_,_,_=>.nil
 |_::_,[],_,r,_,_=>by cases r
 |[],_::_,_,r,_,_=>by cases r
 |_,[],_::_,_,h,_=>by simp at h
 |_,_::_,[],_,h,_=>by simp at h
 |(k,v)::kvs,(k',x)::vs,u::us,r,h,f=>by
  cases r with
  |cons r1 r2=>
   refine .cons ?_ (qT (P:=P) (w:=w) r2 (by simpa using h) fun j v e=>?_)
   .obtain⟨k2,x2,e2,e3⟩:=f 0 u rfl
    cases e2;have:k=k':=r1.1;subst this;exact keyV e3
   .obtain⟨k2,x2,e2,e3⟩:=f (j+1) v (by simpa using e)
    exact⟨k2,x2,by simpa using e2,e3⟩
def hZ(ds:List (PyData×PyData)):List PyData:=ds.map (·.1)
theorem mR{K:Frag}{O:Addr->Prop}{H:Hp}{O':Addr->Prop}{H':Hp}:∀{kvs:List (Key×V)}{ds:List (PyData×PyData)},RepK K O H kvs ds->Reps K O' H' (kvs.map fun p=>kV p.1) (hZ ds)
 |_,_,.nil=>.nil
 |_,_,.cons (k:=k) _ t=>.cons (nP k) (mR t)
end
theorem uS:∀a b:List Nat,ltCps a b=false->ltCps b a=false->a=b
 |[],[],_,_=>rfl
 |[],_::_,h,_=>by simp[ltCps] at h
 |_::_,[],_,h=>by simp[ltCps] at h
 |x::r,y::t,h,g=>by
  simp[ltCps] at h g
  have:x=y:=by omega
  subst this;rw[uS r t (by simpa using h) (by simpa using g)]
theorem tO:∀a b:List Nat,ltCps a b=true->ltCps b a=false
 |[],[],h=>by simp[ltCps] at h
 |[],_::_,_=>rfl
 |_::_,[],h=>by simp[ltCps] at h
 |x::r,y::t,h=>by
  simp[ltCps] at h ⊢
  rcases h with h|h
  .omega
  .refine⟨by omega,fun e=>?_⟩
   exact tO r t h.2
theorem rD:∀a b c:List Nat,ltCps b a=false->ltCps c b=false->ltCps c a=false
 |a,[],c,h,g=>by
  cases a with
  |nil=>exact g
  |cons x r=>simp[ltCps] at h
 |[],b,c,h,g=>by cases c <;> rfl
 |x::r,y::t,[],h,g=>by simp[ltCps] at g
 |x::r,y::t,z::u,h,g=>by
  simp[ltCps] at h g ⊢;refine⟨by omega,fun e=>?_⟩;subst e
  by_cases q:z=y
  .subst q
   exact rD r t u (h.2 rfl) (g.2 rfl)
  .exfalso
   omega
def leS(a b:Str):Bool:=!ltCps b.cps.toList a.cps.toList
theorem BD(a b:Str):leS a b=true\/leS b a=true:=by
 unfold leS
 cases h:ltCps b.cps.toList a.cps.toList with
 |false=>exact .inl rfl
 |true=>
  refine .inr ?_
  cases g:ltCps a.cps.toList b.cps.toList with
  |false=>rfl
  |true=>
   exfalso;have:=tO _ _ h;rw[g] at this;cases this
theorem Am{a b:Str}(h:leS a b=true)(g:leS b a=true):a=b:=by
 unfold leS at h g;have:=uS a.cps.toList b.cps.toList (by simpa using g) (by simpa using h);cases a;cases b;simp at this;rw[this]
theorem rE{a b c:Str}(h:leS a b=true)(g:leS b c=true):leS a c=true:=by
 unfold leS at *;have:=rD a.cps.toList b.cps.toList c.cps.toList (by simpa using h) (by simpa using g);rw[this];rfl
def ik(x:Str):List Str->List Str
 |[]=>[x]
 |y::r=>if leS x y=true then x::y::r else y::ik x r
def bK:List Str->List Str
 |[]=>[]
 |x::r=>ik x (bK r)
theorem mX(x:Str):∀l:List Str,(ik x l).Perm (x::l)
 |[]=>.refl _
 |y::r=>by
  unfold ik;split
  .exact .refl _
  .exact((mX x r).cons y).trans (.swap _ _ _)
theorem gI:∀l:List Str,(bK l).Perm l
 |[]=>.refl _
 |x::r=>(mX x _).trans ((gI r).cons x)
theorem qk(x:Str):∀l:List Str,l.Pairwise (fun a b=>leS a b=true)->(ik x l).Pairwise (fun a b=>leS a b=true)
 |[],_=>by simp[ik]
 |y::r,h=>by
  obtain⟨h1,h2⟩:=List.pairwise_cons.mp h;unfold ik;split
  .rename_i hx
   refine List.pairwise_cons.mpr ⟨fun z hz=>?_,h⟩
   rcases List.mem_cons.mp hz with e|e
   .rw[e];exact hx
   .exact rE hx (h1 z e)
  .rename_i hx
   refine List.pairwise_cons.mpr ⟨fun z hz=>?_,qk x r h2⟩
   rcases List.mem_cons.mp ((mX x r).mem_iff.mp hz) with e|e
   .rw[e];exact(BD x y).resolve_left hx
   .exact h1 z e
theorem kf:∀l:List Str,(bK l).Pairwise (fun a b=>leS a b=true)
 |[]=>.nil
 |x::r=>qk x _ (kf r)
theorem mF:∀{a b:List Str},a.Perm b->a.Pairwise (fun a b=>leS a b=true)->b.Pairwise (fun a b=>leS a b=true)->a=b
 |[],b,p,_,_=>(List.nil_perm.mp p).symm
 |x::r,[],p,_,_=>absurd (List.perm_nil.mp p) (by simp)
 |x::r,y::t,p,h,g=>by
  obtain⟨h1,h2⟩:=List.pairwise_cons.mp h;obtain⟨g1,g2⟩:=List.pairwise_cons.mp g
  have e:x=y:=by
   rcases List.mem_cons.mp (p.mem_iff.mp List.mem_cons_self) with e|e
   .exact e
   .rcases List.mem_cons.mp (p.mem_iff.mpr List.mem_cons_self) with e' | e'
    .exact e'.symm
    .exact Am (h1 y e') (g1 x e)
  subst e;rw[mF (List.perm_cons _ |>.mp p) h2 g2]
theorem rc:∀(x:Str) (l:List Str),risingS x l=true->(x::l).Pairwise (fun a b=>leS a b=true)
 |x,[],_=>by simp
 |x,y::r,h=>by
  have h':leS x y=true/\risingS y r=true:=by
   unfold leS;simpa[risingS] using h
  have ih:=rc y r h'.2;refine List.pairwise_cons.mpr ⟨fun z hz=>?_,ih⟩
  rcases List.mem_cons.mp hz with e|e
  .rw[e];exact h'.1
  .exact rE h'.1 ((List.pairwise_cons.mp ih).1 z e)
theorem yk{l:List Str}(h:sortedS l=true):l.Pairwise (fun a b=>leS a b=true):=by
 cases l with
 |nil=>exact .nil
 |cons x r=>exact rc x r h
theorem se:∀{ss:List Str}{us:List Value},Vals (ss.map V.str) us->StrsAre us ss
 |[],_,h=>by cases h;exact .nil
 |x::r,_,h=>by
  cases h with
  |cons h1 h2=>
   obtain⟨t,rfl⟩:=h1;exact .cons x t (se h2)
theorem qu:∀{us:List Value}{ss:List Str},StrsAre us ss->Vals (ss.map V.str) us
 |_,_,.nil=>.nil
 |_,_,.cons y t r=>.cons ⟨t,rfl⟩ (qu r)
section
variable {X:Cx}{pos:Pos}
def lT(o:Option (List Str)):Option PyData:=match o with
 |some ss=>if ss.length<64 then some (.list ((bK ss).map .str)) else none
 |none=>none
end
theorem zp{prog:Program}{w:World}{A:Around}{E:Value->Shared->Prop}{s:Shared}{Q:Int->Shared->Prop}(h:Q (PySem.reduceHash 4238894112) { s with toks:=s.toks+1 }):wpAny (model prog w) A (pyHash .none) Q E s:=by
 show wpAny (model prog w) A (pyHashByItsType .none) Q E s;refine PySem.W.pyHash_slot (T:="NoneType") (by first|rfl|trivial|exact⟨_,rfl⟩|simp[Shared.TypeIs]) PySem.F.slot_NoneType_hash PySem.F.entry_NoneType_hash (PySem.F.args_NoneType_hash_1 _) rfl (.inl rfl) ?_;unfold PySem.Builtin.«NoneType.__hash__»;refine wpAny_bind ?_;unfold slotArgs;simp only[];rw[if_neg (by decide),if_neg (by decide)];refine wpAny_pure ?_;unfold retInt;refine wpAny_bind ?_
 first
  |exact wpAny_mkInt (wpAny_pure ⟨_,_,rfl,h⟩)
  |exact wpAny_mkInt (wpAny_ret ⟨_,_,rfl,h⟩)
def wR:Option Key->Value->Bool
 |none,.none=>true
 |none,_=>false
 |some k,v=>ej k v
def okH(w:World):Option Key->Int
 |none=>PySem.reduceHash 4238894112
 |some k=>wW w k
theorem d7{k:Option Key}{v:Value}(h:wR k v=true):(k=none/\v=.none)\/(∃i t,k=some (.inl i)/\v=.int i t)\/∃x t,k=some (.inr x)/\v=.str x t:=by
 cases k with
 |none=>cases v <;> first|exact .inl ⟨rfl,rfl⟩|cases h
 |some k=>
  rcases dJ (show ej k v=true from h) with⟨i,t,rfl,rfl⟩|⟨x,t,rfl,rfl⟩
  .exact .inr (.inl ⟨i,t,rfl,rfl⟩)
  .exact .inr (.inr ⟨x,t,rfl,rfl⟩)
theorem sS(k:Key):decide ((none:Option Key)=some k)=false:=decide_eq_false (fun q=>nomatch q)
theorem rK(k:Key):decide (some k=(none:Option Key))=false:=decide_eq_false (fun q=>nomatch q)
theorem kQ(a b:Key):decide (some a=some b)=decide (a=b):=by
 by_cases h:a=b
 .subst h;simp
 .rw[decide_eq_false h,decide_eq_false (fun q=>h (Option.some.inj q))]
def nV(prog:Program)(w:World):PySem.KeyKind prog w (Option Key) where
 is:=wR
 hash:=okH w
 inj:=fun v a b ha hb=>by
  rcases d7 ha with⟨rfl,rfl⟩|⟨i,t,rfl,rfl⟩|⟨x,t,rfl,rfl⟩
  .rcases d7 hb with⟨rfl,_⟩|⟨j,u,rfl,e⟩|⟨y,u,rfl,e⟩
   .rfl
   .exact nomatch e
   .exact nomatch e
  .rcases d7 hb with⟨rfl,e⟩|⟨j,u,rfl,e⟩|⟨y,u,rfl,e⟩
   .exact nomatch e
   .injection e with e1 _;rw[e1]
   .exact nomatch e
  .rcases d7 hb with⟨rfl,e⟩|⟨j,u,rfl,e⟩|⟨y,u,rfl,e⟩
   .exact nomatch e
   .exact nomatch e
   .injection e with e1 _;rw[e1]
 byValue:=fun k v h=>by
  rcases d7 h with⟨rfl,rfl⟩|⟨i,t,rfl,rfl⟩|⟨x,t,rfl,rfl⟩ <;> rfl
 pyHash:=fun hv h=>by
  rcases d7 hv with⟨rfl,rfl⟩|⟨i,t,rfl,rfl⟩|⟨x,t,rfl,rfl⟩
  .exact zp h
  .exact wpAny_pyHash_int h
  .exact wpAny_pyHash_str h
 eqBool:=fun hu hv h=>by
  rcases d7 hu with⟨rfl,rfl⟩|⟨i,t,rfl,rfl⟩|⟨x,t,rfl,rfl⟩
  .rcases d7 hv with⟨rfl,rfl⟩|⟨j,u,rfl,rfl⟩|⟨y,u,rfl,rfl⟩
   .rw[show decide ((none:Option Key)=none)=true by simp] at h;exact SeqAt.EqAt.same .none _ _ _ _ h
   .rw[sS] at h;exact SeqAt.EqAt.none_int j u _ _ _ _ h
   .rw[sS] at h;exact SeqAt.EqAt.none_str y u _ _ _ _ h
  .rcases d7 hv with⟨rfl,rfl⟩|⟨j,u,rfl,rfl⟩|⟨y,u,rfl,rfl⟩
   .rw[rK] at h;exact SeqAt.EqAt.int_none i t _ _ _ _ h
   .rw[kQ,uZ] at h;exact wpAny_eqBool_int h
   .rw[kQ,uY] at h;exact SeqAt.EqAt.int_str i t y u _ _ _ _ h
  .rcases d7 hv with⟨rfl,rfl⟩|⟨j,u,rfl,rfl⟩|⟨y,u,rfl,rfl⟩
   .rw[rK] at h;exact SeqAt.EqAt.str_none x t _ _ _ _ h
   .rw[kQ,uX] at h;exact SeqAt.EqAt.str_int x t j u _ _ _ _ h
   .rw[kQ,uW] at h;exact wpAny_eqBool_str h
 «strs»:=fun k x t v h=>by
  rcases d7 h with⟨rfl,e⟩|⟨i,u,rfl,e⟩|⟨y,u,rfl,e⟩
  .exact nomatch e
  .exact nomatch e
  .injection e with e1 _
   subst e1
   cases v <;> rfl
theorem rm{P:Program}{w:World}:∀{es:List DictEntry}{vs:List (Key×Value)},Pairs (bq P w) es vs->Pairs (nV P w) es (vs.map fun p=>(some p.1,p.2))
 |_,_,.nil=>.nil
 |_,_,.cons h1 h2 t=>.cons h1 h2 (rm t)
theorem AF{P:Program}{w:World}{h:Heap}{a:Addr}{vs:List (Key×Value)}(d:h.DictOf (bq P w) a vs):h.DictOf (nV P w) a (vs.map fun p=>(some p.1,p.2)):=by
 obtain⟨o,es,ep,e1,e2,e3,e4,e5,e6⟩:=d;refine⟨o,es,ep,e1,e2,e3,fun e he=>?_,rm e5,?_⟩
 .obtain⟨k,k1,k2⟩:=e4 e he
  exact⟨some k,k1,k2⟩
 .rw[List.map_map]
  show (vs.map fun p=>some p.1).Nodup
  have:(vs.map fun p=>some p.1)=(vs.map (·.1)).map some:=by rw[List.map_map];rfl
  rw[this];exact List.pairwise_map.mpr (List.Pairwise.imp (fun h q=>h (Option.some.inj q)) e6)
theorem rX:∀(vs:List (Key×Value)),valueAt (vs.map fun p=>((some p.1:Option Key),p.2)) none=none
 |[]=>rfl
 |p::r=>by
  have:=rX r;unfold valueAt at this ⊢;rw[List.map_cons,List.find?_cons];simpa using this
section
variable {X:Cx}
theorem yp:OpR X (compareOp .In) (fun x y H Q=>∃a kvs,x=.non/\y=.ref a/\Rd H a (.dK kvs)/\Q (.bl false) H):=by
 intro pins s σ H x y v u Q I rx ry h;obtain⟨a,kvs,rfl,rfl,e,q⟩:=h;cases (show v=Value.none from rx);cases (show u=Value.ref a from ry);obtain⟨z,hd,vs,rel,dd⟩:=dU I.hok e;refine wpAny_in_of (knd:=nV X.prog X.w) (k:=none) rfl hd (AF dd).mapOf ?_;rw[rX];exact⟨.bl false,H,I.tok _,rfl,q⟩
theorem C9{k:Nat}(hr:Room k X.A):OpR X (compareOp .In) (fun x y H Q=>∃a kvs s,x=.str s/\y=.ref a/\Rd H a (.dK kvs)/\Q (.bl (bt kvs (Sum.inr s:Key)).isSome) H):=by
 intro pins s σ H x y v u Q I rx ry h;obtain⟨a,kvs,z,rfl,rfl,e,q⟩:=h;cases (show u=Value.ref a from ry);exact FR (ma hr) I (DGet.rd (k:=Sum.inr z) e) (show RelV (kV (Sum.inr z)) v from rx) fun s' I'=>⟨.bl _,H,I',rfl,q⟩
theorem y0{k:Nat}(hr:Room k X.A):OpR X (compareOp .NotIn) (fun x y H Q=>∃a kvs s,x=.str s/\y=.ref a/\Rd H a (.dK kvs)/\Q (.bl (!(bt kvs (Sum.inr s:Key)).isSome)) H):=by
 intro pins s σ H x y v u Q I rx ry h;obtain⟨a,kvs,z,rfl,rfl,e,q⟩:=h;cases (show u=Value.ref a from ry);exact B2 (ma hr) I (DGet.rd (k:=Sum.inr z) e) (show RelV (kV (Sum.inr z)) v from rx) fun s' I'=>⟨.bl _,H,I',rfl,q⟩
theorem Dr{k:Nat}(hr:Room k X.A):IxR X (fun x y H Q=>∃a kvs s v,x=.ref a/\y=.str s/\Rd H a (.dK kvs)/\bt kvs (Sum.inr s:Key)=some v/\Q v H):=by
 intro value slice pins s σ H x y v u Q I rx ry h hs;obtain⟨a,kvs,z,v0,rfl,rfl,e,l,q⟩:=h;cases (show v=Value.ref a from rx)
 have g:DGet H a (kV (Sum.inr z)) (some v0):=by rw[←l];exact DGet.rd e
 unfold subscriptTail;refine wpAny_bind ?_;rw[getitemInPython_of_ne (qo I g).not_modules];refine wpAny_bind (wpAny_specialOf (qo I g) PySem.F.slot_dict_getitem.lookup ?_)
 have fin:wpAny (model X.prog X.w) X.A (subscripted slice false (Value.ref a) u) (fun r s₃=>wpAny (model X.prog X.w) X.A (letTemporaryGo value (Value.ref a) r >>= fun _=>pure r) (EP X pins σ Q) X.xe s₃) X.xe s:=by
  rw[hs];exact wpAny_operating (zB (ma hr) I g (show RelV (kV (Sum.inr z)) u from ry) fun w' s' I' rw'=>wpAny_bind (wpAny_letTemporaryGo (wpAny_pure ⟨v0,H,I',rw',q⟩)))
 first
  |exact wpAny_pure (wpAny_bind fin)
  |exact wpAny_bind (wpAny_pure (wpAny_bind fin))
  |exact wpAny_bind fin
def inK(s:PyData)(ds:List (PyData×PyData)):Option Bool:=match s with
 |.str s=>some (av ds s).isSome
 |.none=>some false
 |_=>none
def inB(x y:PyData):Option Bool:=match y with
 |.dict ds=>inK x ds
 |y=>inS x y
def inA(x y:PyData):Option PyData:=(inB x y).map .bool
def dP(x y:PyData):Option PyData:=match x,y with
 |.str s,.dict ds=>some (.bool (!(av ds s).isSome))
 |_,.dict _=>none
 |x,y=>(inS x y).map fun b=>.bool (!b)
theorem vR{k:Nat}(hr:Room k X.A):OpD X (compareOp .In) inA:=⟨_,(op_in_str.or rA).or ((C9 hr).or yp),fun O ts H T v1 v2 x y d Q hc h1 h2 e q=>by
 unfold inA at e
 by_cases hd:∃ds,y=.dict ds
 .obtain⟨ds,rfl⟩:=hd
  obtain⟨a,kvs,rfl,t,r⟩:=h2.dct;obtain⟨b,hb,rfl⟩:=Option.map_eq_some_iff.mp e;have hb':inK x ds=some b:=hb;unfold inK at hb';split at hb'
  .rename_i s
   cases hb';cases h1.str;refine .inr (.inl ⟨a,kvs,s,rfl,rfl,t,?_⟩)
   have e:(bt kvs (Sum.inr s:Key)).isSome=(av ds s).isSome:=by
    rcases gR (s:=s) r with⟨z1,z2⟩|⟨v,d,z1,z2,_⟩ <;> rw[z1,z2] <;> rfl
   rw[e];exact q _ H (.refl _ _) hc (.bl _)
  .cases hb'
   cases h1.non;exact .inr (.inr ⟨a,kvs,rfl,rfl,t,q _ H (.refl _ _) hc (.bl _)⟩)
  .cases hb'
 .have e':(inS x y).map .bool=some d:=by
   cases y with
   |dict ds=>exact absurd ⟨ds,rfl⟩ hd
   |_=>exact e
  exact .inl (ly false O ts H T v1 v2 x y d Q hc h1 h2 e' q)⟩
theorem jt{k:Nat}(hr:Room k X.A):OpD X (compareOp .NotIn) dP:=⟨_,(op_notin_str.or qd).or (y0 hr),fun O ts H T v1 v2 x y d Q hc h1 h2 e q=>by
 by_cases hd:∃ds,y=.dict ds
 .obtain⟨ds,rfl⟩:=hd
  obtain⟨a,kvs,rfl,t,r⟩:=h2.dct
  cases x with
  |str s=>
   cases e;cases h1.str;refine .inr ⟨a,kvs,s,rfl,rfl,t,?_⟩
   have e:(bt kvs (Sum.inr s:Key)).isSome=(av ds s).isSome:=by
    rcases gR (s:=s) r with⟨z1,z2⟩|⟨v,d,z1,z2,_⟩ <;> rw[z1,z2] <;> rfl
   rw[e];exact q _ H (.refl _ _) hc (.bl _)
  |_=>cases e
 .have e':((inS x y).map fun b=>.bool (!b))=some d:=by
   cases y with
   |dict ds=>exact absurd ⟨ds,rfl⟩ hd
   |_=>cases x <;> exact e
  exact .inl (ly true O ts H T v1 v2 x y d Q hc h1 h2 e' q)⟩
def ixA(x y:PyData):Option PyData:=match x,y with
 |.dict ds,.str s=>av ds s
 |.dict _,_=>none
 |x,y=>ixD x y
theorem bT{k:Nat}(hr:Room k X.A):IxD X ixA:=by
 obtain⟨r0,h0,s0⟩:=au (X:=X);refine⟨_,h0.or (Dr hr),fun O ts H T v1 v2 x y d Q hc h1 h2 e q=>?_⟩
 by_cases hd:∃ds,x=.dict ds
 .obtain⟨ds,rfl⟩:=hd
  obtain⟨a,kvs,rfl,t,r⟩:=h1.dct
  cases y with
  |str s=>
   have e':av ds s=some d:=e;cases h2.str
   rcases gR (s:=s) r with⟨z1,z2⟩|⟨v,d',z1,z2,rv⟩
   .rw[z1] at e';cases e'
   .rw[z1] at e'
    cases e';exact .inr ⟨a,kvs,s,v,rfl,rfl,t,z2,q _ H (.refl _ _) hc rv⟩
  |_=>cases e
 .refine .inl (s0 O ts H T v1 v2 x y d Q hc h1 h2 ?_ q)
  cases x with
  |dict ds=>exact absurd ⟨ds,rfl⟩ hd
  |_=>exact e
end
section
variable {X:Cx}{pins:List (Addr×Obj)}{σ:L2.St}{H H2:Hp}{s s2:Shared}
theorem As(I:Inv X pins σ H s){a:Addr}{kvs:List (Key×V)}{o:Obj}(e:H a=some (.dK kvs))(I2:Inv X pins σ H2 s2)(e2:H2 a=some (.frz o (.dK kvs))):Inv X pins σ (upd H2 a (.dK kvs)) s2:=by
 have U:∀{b:Addr}{u:HO},H2 b=some u->(∀o ks,u≠.frz o ks)->upd H2 a (.dK kvs) b=some u:=fun {b u} q n=>by
  rw[aP (fun z=>by subst z;rw[e2] at q;cases q;exact n _ _ rfl)];exact q
 have N:∀{b:Addr},H2 b=none->upd H2 a (.dK kvs) b=none:=fun {b} q=>by
  rw[aP (fun z=>by subst z;rw[e2] at q;cases q)];exact q
 have hok:HOk X.prog X.w (upd H2 a (.dK kvs)) s2.heap:=fun b u q=>by
  by_cases hb:b=a
  .subst hb
   rw[bC] at q;cases q;exact ObjOk.stay (I2.hok b _ e2).2 (fun _ _ _ q=>q) (fun c q=>U q (fun _ _ z=>nomatch z)) fun c xs q=>U q (fun _ _ z=>nomatch z)
  .rw[aP hb] at q
   exact(I2.hok b u q).stay (fun _ _ _ q=>q) (fun c q=>U q (fun _ _ z=>nomatch z)) fun c xs q=>U q (fun _ _ z=>nomatch z)
 refine⟨I2.ok,I2.os,I2.bare,⟨I2.base.keep,I2.base.slot,fun b ob q n hx=>N (I2.base.free b ob q n hx),I2.base.there,fun b xs q=>U (I2.base.tups b xs q) (fun _ _ z=>nomatch z),fun b ob u q=>?_,fun b ps q=>?_⟩,I2.loc,I2.cell,N I2.free,fun x c q=>N (I2.freeC x c q),fun p hp=>?_,hok,I2.len⟩
 .have h1:=I.base.frzs b ob u q
  rw[aP (fun z=>by subst z;rw[e] at h1;cases h1)];exact I2.base.frzs b ob u q
 .obtain⟨more,h1⟩:=I2.base.tbls b ps q
  exact⟨more,U h1 (fun _ _ z=>nomatch z)⟩
 .obtain⟨k1,k2,k3⟩:=I2.pin p hp
  exact⟨k1,N k2,k3⟩
end
inductive Ln(P:Hp->VK->Prop):Hp->VK->Prop where
 |done {H:Hp}{Q:VK}:P H Q->Ln P H Q
 |frz {H:Hp}{Q:VK}{a:Addr}{kvs:List (Key×V)}:H a=some (.dK kvs)->(∀o,Ln P (upd H a (.frz o (.dK kvs))) (fun v H2=>H2 a=some (.frz o (.dK kvs))/\Q v (upd H2 a (.dK kvs))))->Ln P H Q
theorem Eh{X:Cx}{e:Expr}{t:TE}(h:PE X e t):PE X e (fun σ H Q=>Ln (t σ) H Q):=fun pins s σ H Q I q=>by
 have key:∀{H:Hp}{Q:VK},Ln (t σ) H Q->Inv X pins σ H s->wpAny (model X.prog X.w) X.A (eval e X.env) (EP X pins σ Q) X.xe s:=by
  intro H Q q
  induction q with
  |done q=>exact fun I=>h pins s σ _ _ I q
  |frz ea _ ih=>
   intro I;obtain⟨o,I'⟩:=tX I ea;refine thn (ih o I') fun u s' ⟨v,H2,I2,r,e2,q2⟩=>?_;exact⟨v,_,As I ea I2 e2,r,q2⟩
 exact key q I
section
variable {K:Frag}
theorem TupAt.keep{H H':Hp}(h:∀b o,H b=some o->(∀ks,o≠.dK ks)->(∀ob ks,o≠.frz ob (.dK ks))->H' b=some o){a:Addr}{vs:List V}(t:TupAt K (fun _=>False) H a vs):TupAt K (fun _=>False) H' a vs:=by
 rcases t with⟨n,t|⟨o,t⟩⟩|t
 .exact .inl ⟨n,.inl (h _ _ t (fun _ z=>nomatch z) (fun _ _ z=>nomatch z))⟩
 .exact .inl ⟨n,.inr ⟨o,h _ _ t (fun _ z=>nomatch z) (fun _ _ z=>nomatch z)⟩⟩
 .exact .inr t
mutual
theorem Rep.keep{H H':Hp}(h:∀b o,H b=some o->(∀ks,o≠.dK ks)->(∀ob ks,o≠.frz ob (.dK ks))->H' b=some o):∀{v:V}{d:PyData},Rep K (fun _=>False) H v d->aW d=true->Rep K (fun _=>False) H' v d
 |_,_,.non,_=>.non
 |_,_,.bl b,_=>.bl b
 |_,_,.int i,_=>.int i
 |_,_,.str x,_=>.str x
 |_,_,.tup t r,e=>.tup (t.keep h) (Reps.keep h r (by simpa[aW] using e))
 |_,_,.lst t r,e=>by simp[aW] at e
 |_,_,.dct n t r,e=>by simp[aW] at e
theorem Reps.keep{H H':Hp}(h:∀b o,H b=some o->(∀ks,o≠.dK ks)->(∀ob ks,o≠.frz ob (.dK ks))->H' b=some o):∀{vs:List V}{ds:List PyData},Reps K (fun _=>False) H vs ds->bh ds=true->Reps K (fun _=>False) H' vs ds
 |_,_,.nil,_=>.nil
 |_,_,.cons (d:=d) (ds:=ds) r t,e=>by
  have e':(aW d&&bh ds)=true:=by simpa[bh] using e
  rw[Bool.and_eq_true] at e';exact .cons (Rep.keep h r e'.1) (Reps.keep h t e'.2)
end
end
def v6:W->Option W
 |.d x=>some (.d x)
 |.loc x=>some (.d x)
 |.tp _=>none
def cz(ρ:Rho):Rho:=ρ.map fun o=>o.bind v6
def Fz(O:Addr->Prop)(H0 H:Hp):Prop:=∀b,H b=H0 b\/∃kvs o,O b/\H0 b=some (.dK kvs)/\H b=some (.frz o (.dK kvs))
section
variable {K:Frag}{O:Addr->Prop}{ts:List Addr}{H0 H:Hp}{T:Tp}{σ:L2.St}{ρ:Rho}
theorem Al(re:RelE K O ts H0 σ ρ)(fz:Fz O H0 H)(all:∀(j:Nat) (a:Addr) (ds:List (PyData×PyData)),ρ[j]? = some (some (.loc (.dict ds)))->σ[j]? = some (some (.ref a))->∃o kvs,H a=some (.frz o (.dK kvs))):RelE K (fun _=>False) [] H σ (cz ρ):=by
 have le:Le O H0 (fun _=>False) H:=fun b o n e=>⟨fun z=>z,by
  rcases fz b with q|⟨_,_,q,_,_⟩
  .rw[q];exact e
  .exact absurd q n⟩
 intro i w e;unfold cz at e;rw[List.getElem?_map] at e
 cases hu:ρ[i]? with
 |none=>rw[hu] at e;cases e
 |some u=>
  cases u with
  |none=>rw[hu] at e;cases e
  |some u=>
   rw[hu] at e;have e':v6 u=some w:=Option.some.inj e;obtain⟨v,h1,h2⟩:=re i u hu
   cases u with
   |d x=>cases e';exact⟨v,h1,Rep.mono le h2⟩
   |tp k=>cases e'
   |loc x=>
    cases e';obtain⟨a,rfl,k1,k2,k3⟩:=h2;refine⟨_,h1,?_⟩
    cases x with
    |list xs=>
     obtain⟨vs,k3,k4⟩:=k3;refine .lst (.inl ⟨fun z=>z,.inl ?_⟩) (k4.mono le)
     rcases fz a with q|⟨_,_,_,q,_⟩
     .rw[q];exact k3
     .rw[k3] at q;cases q
    |dict ds=>
     obtain⟨kvs,k3,k4⟩:=k3;obtain⟨o,kvs',h3⟩:=all i a ds hu h1
     rcases fz a with q|⟨kvs2,o2,_,q,q2⟩
     .rw[q,k3] at h3;cases h3
     .rw[k3] at q
      cases q;exact .dct (fun z=>z) q2 (k4.mono le)
    |_=>cases k3
theorem kZ{P:Hp->VK->Prop}{x:PyData}(hx:aW x=true)(re:RelE K O ts H0 σ ρ)(fin:∀H Q,RelE K (fun _=>False) [] H σ (cz ρ)->(∀v H2,SameX [] H H2->Rep K (fun _=>False) H2 v x->Q v H2)->P H Q):∀(k:Nat) {H:Hp}{Q:VK},Fz O H0 H ->
  (∀(j:Nat) (a:Addr) (ds:List (PyData×PyData)),k<=j->ρ[j]? = some (some (.loc (.dict ds)))->σ[j]? = some (some (.ref a))->∃o kvs,H a=some (.frz o (.dK kvs)))->(∀v H2,SameX [] H H2->Rep K (fun _=>False) H2 v x->Q v H2)->Ln P H Q
 |0,H,Q,fz,all,q=>.done (fin H Q (Al re fz fun j a ds=>all j a ds (Nat.zero_le _)) q)
 |k+1,H,Q,fz,all,q=>by
  by_cases h:∃ds,ρ[k]? = some (some (.loc (.dict ds)))
  .obtain⟨ds,h⟩:=h
   obtain⟨v,h1,a,rfl,k1,k2,kvs,k3,k4⟩:=re k _ h
   rcases fz a with z|⟨kvs2,o2,_,z,z2⟩
   .rw[k3] at z
    refine .frz z fun o=>kZ hx re fin k (fun b=>?_) (fun j b es hj e1 e2=>?_) (fun v H2 s2 r=>?_)
    .by_cases hb:b=a
     .subst hb;exact .inr ⟨kvs,o,k1,k3,bC⟩
     .rw[aP hb];exact fz b
    .by_cases hb:b=a
     .subst hb;exact⟨o,kvs,bC⟩
     .rw[aP hb]
      by_cases hk:k=j
      .subst hk;rw[h1] at e2;cases e2;exact absurd rfl hb
      .exact all j b es (by omega) e1 e2
    .have ha:H2 a=some (.frz o (.dK kvs)):=s2 a _ (by simp) bC
     refine⟨ha,q v _ (fun b ob _ e=>?_) (Rep.keep (fun b ob e n1 n2=>?_) r hx)⟩
     .by_cases hb:b=a
      .subst hb;rw[z] at e;cases e;exact bC
      .rw[aP hb]
       exact s2 b ob (by simp) (by rw[aP hb];exact e)
     .have hb:b≠a:=fun z=>by subst z;rw[ha] at e;cases e;exact n2 _ _ rfl
      rw[aP hb];exact e
   .refine kZ hx re fin k fz (fun j b es hj e1 e2=>?_) q
    by_cases hk:k=j
    .subst hk;rw[h1] at e2;cases e2;exact⟨o2,kvs2,z2⟩
    .exact all j b es (by omega) e1 e2
  .refine kZ hx re fin k fz (fun j b es hj e1 e2=>?_) q
   by_cases hk:k=j
   .subst hk;exact absurd ⟨es,e1⟩ h
   .exact all j b es (by omega) e1 e2
end
def l5(T:Tp)(o:Option (W×Tp)):Option (W×Tp):=match o with
 |some (.d x,_)=>if aW x=true then some (.d x,T) else none
 |_=>none
def fG(f:FE):FE:=fun ρ T=>l5 T (f (cz ρ) [])
theorem ou{X:Cx}{e:Expr}{f:FE}(he:DE X e f):DE X e (fG f):=by
 refine⟨bj (Eh he.pe) fun σ H Q=>?_⟩;rintro⟨O,ts,ρ,T,w,T',hc,re,e,q⟩;unfold fG l5 at e;split at e
 .rename_i x T1 h1
  split at e
  .rename_i hx
   cases e;refine kZ hx re (fun H1 Q1 re1 q1=>⟨fun _=>False,[],cz ρ,[],.d x,T1,⟨fun b hb=>(by cases hb),fun b hb=>hb.elim,List.nodup_nil,rfl,fun i a xs e1 _=>by simp at e1⟩,re1,h1,fun v H2 s2 _ r2=>q1 v H2 s2 r2⟩) ρ.length (fun b=>.inl rfl) (fun j a ds hj e1 _=>?_) (fun v H2 s2 r2=>?_)
   .rw[List.getElem?_eq_none hj] at e1;cases e1
   .have s2':SameX ts H H2:=fun b o _ q=>s2 b o (by simp) q
    have hm:∀b,O b->Mut (H2 b):=fun b hb=>(hc.trk b hb).to fun u z=>s2 b _ (by simp) z
    have hc2:=hc.step s2' fun b hb=>by
     obtain⟨u,z⟩:=(hc.trk b (hc.own b hb)).ex;rw[z];exact s2 b _ (by simp) z
    exact q v H2 s2' hc2 (Rep.own hm r2 hx)
  .cases e
 .cases e
section
variable {X:Cx}{pos:Pos}{e:Expr}{fe:FE}
def cA(i:Nat):FS:=fun ρ T=>some ((.nx,ρ.set i (some (.loc (.dict [])))),T)
theorem fY{i:Nat}{x:Str}{pos' dpos:Pos}(hN:X.N.Nodup)(hi:X.N[i]? = some x:=by rfl)(hx:Loc X.env.scope x:=by first|exact Or.inl rfl|exact Or.inr rfl)
  (hs:swapsWith (.Dict [] [] dpos) (some (.Name x pos')) pos.line X.env=pure false:=by rfl) (hf:X.fn x=true\/X.env.scope.names.lookup x=some .local:=by first|exact .inl rfl|exact .inr rfl|assumption):DS X (.Assign [.Name x pos'] (.Dict [] [] dpos) pos) (cA i):=by
 refine⟨?_⟩;refine cc (gX hN hi hx Ac hs hf) fun D σ H=>?_;rintro⟨O₀,H₀,F,ts,O,ρ,T,fl,ρ',T',rs,e,q⟩;cases e;intro p hp;exact q _ _ _ (rs.ownO hp (.inr (.inl ⟨_,rfl⟩)) fun le=>⟨[],bC,.nil⟩)
theorem qO:CallR X (.type "dict") (fun xs H Q=>∃a kvs,xs=[V.ref a]/\Rd H a (.dK kvs)/\∀p,H p=none->Q (.ref p) (upd H p (.dK kvs))):=by
 intro pins s σ H xs us Q I r h;obtain⟨a,kvs,rfl,ha,q⟩:=h;obtain⟨u,rfl,ru⟩:=vals1 r;cases ru;exact AK I ha fun p s' hp I'=>⟨.ref p,_,I',rfl,q p hp⟩
def i8(o:Option PyData):Option (List (PyData×PyData)):=match o with
 |some (.dict ds)=>some ds
 |_=>none
def lz(i:Nat)(ρ:Rho)(o:Option (List (PyData×PyData)))(T:Tp):Option ((Fl×Rho)×Tp):=match o with
 |some ds=>some ((.nx,ρ.set i (some (.loc (.dict ds)))),T)
 |none=>none
def gh(i:Nat)(f:FE):FS:=fun ρ T=>bnd (f ρ T) fun w T1=>lz i ρ (i8 (view T1 w)) T1
theorem uj{o:Option PyData}{ds:List (PyData×PyData)}(h:i8 o=some ds):o=some (.dict ds):=by
 unfold i8 at h;split at h
 .cases h;rfl
 .cases h
theorem nG{i:Nat}{x:Str}{p pos' cpos:Pos}(hm:X.mg "dict"=none)(hN:X.N.Nodup)(he:DE X e fe)(hi:X.N[i]? = some x:=by rfl)(hx:Loc X.env.scope x:=by first|exact Or.inl rfl|exact Or.inr rfl)(hg:Gl X "dict":=by rfl)
  (hse:starEach [e] X.env=(false,eval e X.env)::starEach [] X.env:=by exact a8 rfl) (hpl:(backTo cpos (starEach [] X.env)).any (·.1)=false:=by exact bQ rfl)
  (hs:swapsWith (.Call (.Name "dict" p) [e] [] cpos) (some (.Name x pos')) pos.line X.env=pure false:=by rfl) (hf:X.fn x=true\/X.env.scope.names.lookup x=some .local:=by first|exact .inl rfl|exact .inr rfl|assumption) :
  DS X (.Assign [.Name x pos'] (.Call (.Name "dict" p) [e] [] cpos) pos) (gh i fe):=by
 refine⟨?_⟩;refine cc (gX hN hi hx (mU qO hg hm boot_dict (cT he.pe dB hse) (by decide) (by decide) hse hpl) hs hf) fun D σ H=>?_;rintro⟨O₀,H₀,F,ts,O,ρ,T,fl,ρ',T',rs,e,q⟩;obtain⟨w,T1,e1,e⟩:=aJ e;unfold lz at e;split at e
 .rename_i ds hd
  cases e;have hv:=uj hd;refine⟨O,ts,ρ,T,w,_,rs.hc,rs.re,e1,fun v H1 s1 hc1 r1=>?_⟩;obtain⟨a,kvs,rfl,t,r⟩:=(hc1.view r1 hv).dct;exact⟨a,kvs,rfl,t,fun p hp=>q _ _ _ ((rs.step s1 hc1).ownO (xs:=.dict ds) hp (.inr (.inl ⟨_,rfl⟩)) fun le=>⟨kvs,bC,r.mono le⟩)⟩
 .cases e
def wa(o:Option (List (PyData×PyData)))(T:Tp):Option (W×Tp):=match o with
 |some ds=>some (.d (.dict ds),T)
 |none=>none
def j4(f:FE):FE:=fun ρ T=>bnd (f ρ T) fun w T1=>wa (i8 (view T1 w)) T1
theorem BZ{p cpos:Pos}(hm:X.mg "dict"=none)(he:DE X e fe)(hg:Gl X "dict":=by rfl)
  (hse:starEach [e] X.env=(false,eval e X.env)::starEach [] X.env:=by exact a8 rfl) (hpl:(backTo cpos (starEach [] X.env)).any (·.1)=false:=by exact bQ rfl):DE X (.Call (.Name "dict" p) [e] [] cpos) (j4 fe):=by
 refine⟨?_⟩;refine bj (vP (mU qO hg hm boot_dict (cT he.pe dB hse) (by decide) (by decide) hse hpl)) fun σ H Q=>?_;rintro⟨O,ts,ρ,T,w,T',hc,re,e,q⟩;obtain⟨w1,T1,e1,e⟩:=aJ e;unfold wa at e;split at e
 .rename_i ds hd
  cases e;have hv:=uj hd;refine⟨O,ts,ρ,T,w1,T',hc,re,e1,fun v H1 s1 hc1 r1=>?_⟩;obtain⟨a,kvs,rfl,t,r⟩:=(hc1.view r1 hv).dct;refine⟨a,kvs,rfl,t,fun p hp=>.frz bC fun o=>.done ?_⟩;rw[AZ];exact q _ _ (s1.trans (.new hp _)) (hc1.new hp _) (.dct (hc1.fresh hp) bC (r.mono (hc1.leNew hp _)))
 .cases e
def putN(ds:List (PyData×PyData))(s:Str)(x:PyData):List (PyData×PyData):=if (av ds s).isSome=true then bD ds s x else ds++[(.str s,x)]
theorem RepK.app{K:Frag}{O:Addr->Prop}{H:Hp}{s:Str}{v:V}{x:PyData}(rx:Rep K O H v x):∀{kvs:List (Key×V)}{ds:List (PyData×PyData)},RepK K O H kvs ds->RepK K O H (kvs++[(Sum.inr s,v)]) (ds++[(.str s,x)])
 |_,_,.nil=>.cons (k:=Sum.inr s) rx .nil
 |_,_,.cons r t=>.cons r (RepK.app rx t)
theorem Bb{K:Frag}{O:Addr->Prop}{H:Hp}{s:Str}{v:V}{x:PyData}(rx:Rep K O H v x){kvs:List (Key×V)}{ds:List (PyData×PyData)}(r:RepK K O H kvs ds):RepK K O H (putK kvs (Sum.inr s) v) (putN ds s x):=by
 unfold putN
 rcases gR (s:=s) r with⟨z1,z2⟩|⟨v',d',z1,z2,_⟩
 .rw[z1,if_neg (by simp),zW v z2]
  exact r.app rx
 .rw[z1,if_pos (show (some d').isSome=true by rfl)]
  have hany:(kvs.any fun kv=>decide (kv.1=(Sum.inr s:Key)))=true:=yJ (by rw[z2];rfl);unfold putK;rw[if_pos hany];exact mS rx r
def lV(i:Nat)(ρ:Rho)(ds:List (PyData×PyData))(w k:W)(T:Tp):Option ((Fl×Rho)×Tp):=match w,k with
 |.d x,.d (.str s)=>if ds.length<=1000 then some ((.nx,ρ.set i (some (.loc (.dict (putN ds s x))))),T) else none
 |_,_=>none
def lU(i:Nat)(fk:FE)(ρ:Rho)(w:W)(T:Tp)(o:Option (Option W)):Option ((Fl×Rho)×Tp):=match o with
 |some (some (.loc (.dict ds)))=>bnd (fk ρ T) (lV i ρ ds w)
 |_=>none
def bG(i:Nat)(fk fv:FE):FS:=fun ρ T=>bnd (fv ρ T) fun w T1=>lU i fk ρ w T1 ρ[i]?
theorem dz{i:Nat}{x:Str}{kx:Expr}{fk fv:FE}{p pos':Pos}{k:Nat}(hr:Room k X.A)(hk:DE X kx fk)(he:DE X e fv)(hN:X.N[i]? = some x:=by rfl)(hv:Vis X.env.scope x:=by first|exact Or.inl rfl|exact Or.inr (Or.inl rfl)|exact Or.inr (Or.inr rfl))(hd:(x == ("__debug__" : Str))=false:=by decide)
  (hcd:(x == ("__classdict__" : Str))=false:=by decide) (hs:swapsWith e (some (.Subscript (.Name x p) kx pos')) pos.line X.env=pure false:=by rfl):DS X (.Assign [.Subscript (.Name x p) kx pos'] e pos) (bG i fk fv):=by
 refine⟨?_⟩;refine cc (Bj (ma hr) (pv i hN hv hd hcd) hk.pe he.pe hs) fun D σ H=>?_;rintro⟨O₀,H₀,F,ts,O,ρ,T,fl,ρ',T',rs,e,q⟩;obtain⟨w,T1,e1,e⟩:=aJ e;refine⟨O,ts,ρ,T,w,T1,rs.hc,rs.re,e1,fun v H1 s1 hc1 r1=>?_⟩;have rs1:=rs.step s1 hc1;unfold lU at e;split at e
 .rename_i ds c3
  obtain⟨wk,T3,e3,e⟩:=aJ e;unfold lV at e;split at e
  .rename_i xv s _
   split at e
   .rename_i c2
    cases e;obtain⟨u,k1,a,rfl,k2,k3,kvs,k4,k5⟩:=rs1.re i _ c3;refine⟨_,k1,O,ts,ρ,T1,_,_,rs1.hc,rs1.re,e3,fun y H3 s3 hc3 r3=>?_⟩;have rs3:=rs1.step s3 hc3;cases (show Rep X.K O H3 y (.str s) from r3);have k4':H3 a=some (.dK kvs):=s3 _ _ k3 k4;have k5':RepK X.K O H3 kvs ds:=k5.mono (hc1.le s3)
    have hlen:kvs.length<sizeLine:=by
     rw[sv k5'];exact Nat.lt_of_le_of_lt c2 (by decide)
    have rx:Rep X.K O H3 v xv:=RepW.mono (w:=.d xv) r1 hc1 s3;refine⟨a,_,rfl,DPut.k (k:=(Sum.inr s:Key)) k4' hlen,?_⟩;exact q O σ _ (rs3.putO c3 k1 (.inr (.inl ⟨_,rfl⟩)) fun le=>⟨_,bC,Bb (Rep.mono le rx) (k5'.mono le)⟩)
   .cases e
  .cases e
 .cases e
end
section
variable {K:Frag}{O₀:Addr->Prop}{H₀:Hp}{F:List ((Addr->Prop)×Hp)}{ts:List Addr}{O:Addr->Prop}{H:Hp}{σ:L2.St}{ρ:Rho}{T:Tp}
end
section
variable {X:Cx}{pos:Pos}{rest:List Stmt}{fr:FS}
end
theorem zy:entryFor table "dict_itemiterator.__iter__"=some PySem.Builtin.«dict_keyiterator.__iter__»:=by kernel_rfl
theorem yq(v:Value):Meets (PySem.Builtin.«dict_keyiterator.__iter__» { pos:=[v] }) (fun _ R s=>R (.ok (.ret v)) s):=by
 intro prog w A R s h;unfold PySem.Builtin.«dict_keyiterator.__iter__»;refine wpAny_bind ?_;unfold slotArgs;simp only[];rw[if_neg (by simp),if_neg (by simp)];exact wpAny_pure (wpAny_pure h)
def Iti(a:Addr)(o:Obj)(kvs:List (Key×V)):It:=⟨fun i H=>H a=some (.frz o (.dK kvs))/\i<kvs.length,fun i H x H'=>∃p k v,H p=none/\kvs[i]? = some (k,v)/\x=.ref p/\H'=upd H p (.tup [kV k,v]),fun i H=>H a=some (.frz o (.dK kvs))/\i=kvs.length⟩
theorem Do{kvs:List (Key×V)}{vs:List (Key×Value)}:∀{i:Nat},KV kvs vs->i<kvs.length->∃k v u,kvs[i]? = some (k,v)/\vs[i]? = some (k,u)/\RelV v u:=by
 intro i r h
 induction r generalizing i with
 |nil=>simp at h
 |cons r1 r2 ih=>
  cases i with
  |zero=>
   rename_i p q _ _;refine⟨p.1,p.2,q.2,rfl,?_,r1.2⟩;rw[r1.1];rfl
  |succ i=>
   obtain⟨k,v,u,h1,h2,h3⟩:=ih (i:=i) (by simpa using h);exact⟨k,v,u,by simpa using h1,by simpa using h2,h3⟩
theorem yh{P:Program}{w:World}{K:Frag}{elts:List Expr}{x1:Nat}{tpos:Pos}(a it:Addr)(o:Obj)(kvs:List (Key×V)) :
  Turn P w K (.Tuple elts x1 tpos) (Iti a o kvs) [it] it (fun i h=>∃ok ov,IsItemIter h it a i kvs.length (gC o) ok ov) where
 mem:=by simp
 obj:=fun i h st b hb=>by
  have e:b=it:=by simpa using hb
  subst e;obtain⟨ok,ov,st⟩:=st
  exact⟨_,st,fun v z=>by
   have z':Data.fields _=Data.cell v:=z
   cases z'⟩
 keep:=fun i h h' ⟨ok,ov,st⟩ k=>⟨ok,ov,k it (by simp) _ st⟩
 item:=by
  intro X hP hw hK hc i pins s σ H E I hf st hg;subst hP hw hK;obtain⟨ok,ov,st⟩:=st;obtain⟨hg1,hg2⟩:=hg;obtain⟨z,y,vs,kv,dd⟩:=gP I.hok hg1;obtain⟨f0,f1,f2,f3,f4,f5⟩:=hf it (by simp);have hl:=kv.length;obtain⟨k,v0,u0,q1,q2,q3⟩:=Do kv hg2;rw[hl] at st;refine wpAny_pyNext_items_item (knd:=bq X.prog X.w) st dd q2 fun key h' hk st' hT hsz hkeep=>?_;refine⟨.ref s.heap.objs.size,rfl,wpAny_letOwnedTupleGo_items st' fun h'' st'' hsb=>?_⟩;have hit:it<s.heap.objs.size:=Heap.lt_size st;have hne:s.heap.objs.size≠it:=Nat.ne_of_gt hit;have hn:H s.heap.objs.size=none:=I.hok.fresh (Nat.le_refl _);have T1:IsTup (s.heap.push { cls:=.type "tuple",data:=.seq #[key,u0] }) s.heap.objs.size #[key,u0]:=IsTup.new ..
  have I1:Inv X pins σ (upd H s.heap.objs.size (.tup [kV k,v0])) { s with heap:=s.heap.push { cls:=.type "tuple",data:=.seq #[key,u0] } }:=
   I.laid (t':=s.toks) (o:=.tup [kV k,v0]) (fun b ob e=>Heap.get?_push_of_some _ e) (Nat.le_refl _) ⟨by show 2<=sizeLine;decide,[key,u0],.cons (keyV hk) (.cons q3 .nil),T1⟩
  have K:∀b ob,b≠it->(s.heap.push { cls:=.type "tuple",data:=.seq #[key,u0] }).get? b=some ob->h''.get? b=some ob:=fun b ob hb e=>by
   by_cases hbs:b=s.heap.objs.size
   .subst hbs
    rw[Heap.get?_push_size _ (by rfl)] at e;cases e;exact(hsb.2 _ hb).trans hT
   .have e0:s.heap.get? b=some ob:=by
     rw[←Heap.get?_push_ne _ _ _ hbs];exact e
    exact(hsb.2 b hb).trans (hkeep b ob hb e0)
  have I2:Inv X pins σ (upd H s.heap.objs.size (.tup [kV k,v0])) { s with heap:=h'' }:=Inv.turned (s:={ s with heap:=s.heap.push { cls:=.type "tuple",data:=.seq #[key,u0] } }) (t':=s.toks) (h':=h'') (it:=it) I1 K (by rw[aP (Ne.symm hne)];exact f0) f1 f3 f4 f5;refine⟨.ref s.heap.objs.size,_,I2,rfl,⟨s.heap.objs.size,k,v0,hn,q1,rfl,rfl⟩,⟨_,_,by rw[hl];exact st''⟩,fun b hb=>?_⟩
  have e:b=it:=by simpa using hb
  subst e;rw[aP (Ne.symm hne)];exact f0
 done:=by
  intro X hP hw hK hc i pins s σ H E I hf st hg;subst hP hw hK;obtain⟨ok,ov,st⟩:=st;obtain⟨hg1,hg2⟩:=hg;obtain⟨z,y,vs,kv,dd⟩:=gP I.hok hg1;obtain⟨f0,f1,f2,f3,f4,f5⟩:=hf it (by simp);have hl:=kv.length;rw[hl] at st;exact wpAny_pyNext_items_end (knd:=bq X.prog X.w) (I.ok.hd hc) st dd (by rw[List.getElem?_eq_none_iff];omega) fun h' eb=>⟨rfl,I.turned (t':=s.toks) (fun b ob hb e=>eb b ob hb e) f0 f1 f3 f4 f5⟩
 self:=fun A i s Q E ⟨ok,ov,st⟩ h=>by
  have ty:s.TypeIs (.ref it) "dict_itemiterator":=⟨_,st,rfl⟩;refine wpAny_pyIter_slot ty PySem.F.slot_dict_itemiterator_iter ?_;exact call_meets PySem.F.slot_dict_itemiterator_iter ty zy (PySem.F.args_dict_itemiterator_iter_1 _) (yq _) ⟨"dict_itemiterator",_,ty,PySem.F.slot_dict_itemiterator_next.lookup,h⟩
section
variable {X:Cx}{pos:Pos}
def Dx(tl:TE):TI:=fun σ H R=>tl σ H fun x H1=>∃a o kvs,x=.ref a/\H1 a=some (.frz o (.dK kvs))/\(kvs.length<=sizeLine->R (Iti a o kvs) H1)
theorem z8{ob:Expr}{tl:TE}{elts:List Expr}{x1:Nat}{tpos apos cpos:Pos}(ho:PE X ob tl)(hbase:attributeBase ob "items" X.env (eval ob X.env)=eval ob X.env:=by rfl)(hline:(apos.endLine == cpos.line)=true:=by rfl) :
  PI X (.Tuple elts x1 tpos) (.Call (.Attribute ob "items" apos) [] [] cpos) (Dx tl):=by
 intro pins s σ H R I h;refine wpAny_Call_method0_late hbase hline (thn (ho pins s σ H _ I h) fun v s1 ⟨x,H1,I1,r1,a,o,kvs,ex,ha,q⟩=>?_);subst ex;cases (show v=Value.ref a from r1);obtain⟨z,y,vs,kv,dd⟩:=gP I1.hok ha;have dOf:=dd.dictOf;obtain⟨od,_,_,eo,ex,_⟩:=id dOf;refine⟨"dict","dict.items",PySem.F.plainAttrs_dict,PySem.F.slot_dict_items,PySem.F.type_dict_items,⟨od,eo,ex.1⟩,fun b e2=>by cases e2;exact⟨od,eo,ex.2.1⟩,Calls.callWith_builtin rfl (PySem.evalArgs_none ?_)⟩;refine call_meetsIn PySem.F.slot_dict_items ⟨od,eo,ex.1⟩ PySem.F.entry_dict_items (PySem.F.args_dict_items_1 _) (meets_dict_items (bq X.prog X.w) a y) ⟨⟨vs,dOf⟩,?_⟩;have I2:Inv X pins σ H1 { s1 with heap:=s1.heap.push { cls:=.type "dict_items",data:=.fields #[.ref a] } }:=I1.kept (t':=s1.toks) fun b ob e=>Heap.get?_push_of_some _ e;obtain⟨z2,y2,vs2,kv2,dd2⟩:=gP I2.hok ha;refine wpAny_pyIter_items (knd:=bq X.prog X.w) (kvs:=vs2) (ep:=gC o) ⟨_,Heap.get?_push_size _ (by rfl),rfl,rfl⟩ dd2 ?_
 have fk:∀b∈[(s1.heap.push { cls:=.type "dict_items",data:=.fields #[.ref a] }).objs.size],dG X pins H1 b:=fun b hb=>by
  have e:b=(s1.heap.push { cls:=.type "dict_items",data:=.fields #[.ref a] }).objs.size:=List.mem_singleton.mp hb;subst e;exact I2.fpOk (Nat.le_refl _) (I2.hok.fresh (Nat.le_refl _))
 exact⟨_,[_],_,_,H1,rfl,I2.kept (t':=s1.toks) fun b ob e=>Heap.get?_push_of_some _ e,yh a _ o kvs,⟨.none,.none,by rw[kv2.length];exact Heap.get?_push_size _ (by rfl)⟩,fk,q z⟩
def eT(i j:Nat)(body:FS):List (PyData×PyData)->FS
 |[]=>aD
 |d::r=>fun ρ T=>bnd (body ((ρ.set i (some (.d d.1))).set j (some (.d d.2))) T) fun p T1=>match p with
  |(.nx,ρ1)=>eT i j body r ρ1 T1
  |(.ct,ρ1)=>eT i j body r ρ1 T1
  |(.bk,ρ1)=>some ((.nx,ρ1),T1)
  |(.rt x,ρ1)=>some ((.rt x,ρ1),T1)
  |(.ro x,ρ1)=>some ((.ro x,ρ1),T1)
def me(i j:Nat)(body:FS)(ρ:Rho)(w:W)(T:Tp):Option ((Fl×Rho)×Tp):=match w with
 |.d (.dict ds)=>eT i j body ds ρ T
 |_=>none
def mi(i j:Nat)(f:FE)(body:FS):FS:=fun ρ T=>bnd (f ρ T) (me i j body ρ)
theorem tF{K:Frag}{O:Addr->Prop}{H:Hp}:∀{kvs:List (Key×V)}{ds:List (PyData×PyData)}{i:Nat}{k:Key}{v:V},RepK K O H kvs ds->kvs[i]? = some (k,v)->∃d,ds[i]? = some (cQ k,d)/\Rep K O H v d
 |_,_,_,_,_,.nil,e=>by simp at e
 |_,_,0,_,_,.cons r _,e=>by simp at e;obtain⟨rfl,rfl⟩:=e;exact⟨_,rfl,r⟩
 |_,_,i+1,k,v,.cons _ t,e=>by
  obtain⟨d,h1,h2⟩:=tF (i:=i) t (by simpa using e);exact⟨d,by simpa using h1,h2⟩
theorem BY{i j:Nat}{x y:Str}{ob:Expr}{f:FE}{g:FS}{body:List Stmt}{k:Nat}{px py tpos apos cpos:Pos}(hN:X.N.Nodup)(ho:DE X ob f)(hb:DSs X body g)(hi:X.N[i]? = some x:=by rfl)(hj:X.N[j]? = some y:=by rfl)(hx:Loc X.env.scope x:=by first|exact Or.inl rfl|exact Or.inr rfl)(hy:Loc X.env.scope y:=by first|exact Or.inl rfl|exact Or.inr rfl)
  (hf:X.fn x=true\/X.env.scope.names.lookup x=some .local:=by first|exact .inl rfl|exact .inr rfl|assumption) (hf':X.fn y=true\/X.env.scope.names.lookup y=some .local:=by first|exact .inl rfl|exact .inr rfl|assumption) (hp:PassesOwn (model X.prog X.w) X.A X.env X.xe:=by exact PassesOwn.never) (hc:X.calm=true:=by rfl)
  (hbase:attributeBase ob "items" X.env (eval ob X.env)=eval ob X.env:=by rfl) (hline:(apos.endLine == cpos.line)=true:=by rfl) (hs:∀v,foldedSetIterable (.Call (.Attribute ob "items" apos) [] [] cpos) X.env v=pure v:=by intro _;rfl) :
  DS X (.For (.Tuple [.Name x px,.Name y py] k tpos) (.Call (.Attribute ob "items" apos) [] [] cpos) body [] pos) (mi i j f g):=by
 refine⟨?_⟩;refine cc (uH hp hc (z8 ho.pe hbase hline) (CP hc (sy (nS hN hi hx hf) (sy (nS hN hj hy hf') Bn))) hb.pe hs) fun D σ H=>?_;rintro⟨O₀,H₀,F,ts,O,ρ,T,fl,ρ',T',rs,e,q⟩;obtain⟨w,T1,e1,e⟩:=aJ e;unfold me at e;split at e
 .rename_i ds
  refine⟨O,ts,ρ,T,_,T1,rs.hc,rs.re,e1,fun v H1 s1 hc1 r1=>?_⟩;have r1':Rep X.K O H1 v (.dict ds):=r1
  cases r1' with
  |@dct a o kvs _ nO ha rk=>
   refine⟨a,o,kvs,rfl,ha,fun hz=>?_⟩;have hlen:=kA rk;refine⟨fun n m σ H=>m=ds.length-n/\n<=ds.length/\∃O' ρk Tk,RS X.K O₀ H₀ ((O,H1)::F) ts O' H σ ρk Tk/\eT i j g (ds.drop n) ρk Tk=some ((fl,ρ'),T'),⟨_,rfl,Nat.zero_le _,O,ρ,T1,(rs.step s1 hc1).more,e⟩,?_⟩;rintro n m σ2 H2 ⟨rfl,hk,O',ρk,Tk,rs2,ek⟩;have le:=rs2.frs _ List.mem_cons_self;have ha2:=le a _ nO ha
   by_cases hlt:n<ds.length
   .refine .inr ⟨⟨ha2.2,by omega⟩,fun σ3 H3=>∃O' ρk Tk,RS X.K O₀ H₀ ((O,H1)::F) ts O' H3 σ3 ρk Tk/\eT i j g (ds.drop (n+1)) ρk Tk=some ((fl,ρ'),T'),fun σ3 H3 nn=>⟨ds.length-(n+1),by omega,rfl,hlt,nn⟩,fun v H3 yy=>?_⟩
    obtain⟨p,k',v',hpn,hkv,rfl,rfl⟩:=yy;obtain⟨d,hd,rd⟩:=tF rk hkv
    have hdr:ds.drop n=(cQ k',d)::ds.drop (n+1):=by
     rw[List.drop_eq_getElem_cons hlt];have:=(List.getElem?_eq_some_iff.mp hd).2;rw[this]
    rw[hdr] at ek;obtain⟨⟨fl1,ρ1⟩,T3,e3,ek⟩:=aJ ek;have rs3:=rs2.step (.new hpn (.tup [kV k',v'])) (rs2.hc.new hpn _);have rd3:Rep X.K O' (upd H2 p (.tup [kV k',v'])) v' d:=Rep.mono (le.trans (rs2.hc.leNew hpn _)) rd;refine⟨p,_,rfl,SqT.of bC,rfl,_,_,rfl,_,_,rfl,rfl,O₀,H₀,(O,H1)::F,ts,O',_,Tk,fl1,ρ1,T3,(rs3.set (i:=i) (w:=.d (cQ k')) (nP k') (fun _ z=>nomatch z)).set (i:=j) (w:=.d d) rd3 (fun _ z=>nomatch z),e3,?_⟩
    cases fl1 with
    |nx=>exact fun O3 σ3 H3 rs3=>⟨O3,ρ1,T3,rs3,ek⟩
    |ct=>exact fun O3 σ3 H3 rs3=>⟨O3,ρ1,T3,rs3,ek⟩
    |bk=>
     cases ek;exact fun O3 σ3 H3 rs3=>q O3 σ3 H3 rs3.less
    |rt x=>
     cases ek;exact q
    |ro x=>
     cases ek;exact q
   .have e:n=ds.length:=by omega
    subst e;rw[List.drop_eq_nil_of_le (Nat.le_refl _)] at ek;cases ek;exact .inl ⟨⟨ha2.2,hlen.symm⟩,q O' σ2 H2 rs2.less⟩
 .cases e
end
section
variable {X:Cx}
end
theorem Az{P:Program}{w:World}{K:Frag}{mg:Str->Option Value}{base:Heap}{CX:CXT}{k:Nat}{f:Addr}{fd:FuncData}{ps:List Str}{sp sp':Sp}(F:FnOk P w K mg base CX k f fd ps sp)(i:∀vs H Q E,sp' vs H Q E->sp vs H Q E):FnOk P w K mg base CX k f fd ps sp':=⟨fun vs H Q E h=>F.1 vs H Q E (i _ _ _ _ h),fun A outer s H args us vs Q E a b c d h=>F.2 A outer s H args us vs Q E a b c d (i _ _ _ _ h)⟩
theorem y9{K:Frag}{m:FnM}(hm:∀ns:List Int,ns.length<=63->∃T',m [.d (bI ns)] []=some (.bool true,T')):∀vs H Q E,lS K vs H Q E->spM K 1 m vs H Q E:=by
 intro vs H Q E h;obtain⟨a,ns,rfl,hS,hl,q⟩:=h;obtain⟨T',e⟩:=hm ns hl
 have ra:LstAt K (fun _=>False) H a (ns.map V.int):=by
  rcases hS with h|h
  .exact .inl ⟨fun z=>z,h⟩
  .exact .inr (.inr h)
 refine⟨fun _=>False,[],[],[.d (bI ns)],.bool true,T',⟨fun b hb=>(by cases hb),fun b hb=>hb.elim,List.nodup_nil,rfl,fun i a xs e1 _=>by simp at e1⟩,.cons (show Rep K (fun _=>False) H (.ref a) (bI ns) from .lst ra (rh ns)) .nil,rfl,e,fun v H' _ _ r=>?_⟩;cases r;exact q H'
def pP:PyData->PyData->Option PyData:=iop fun i j=>if 0<=j then some (.int (i / 2^j.toNat)) else none
theorem Es{X:Cx}:OpD X (binaryOp .RShift) pP:=⟨_,C2,lx fun i j d e=>by
 have e':(if 0<=j then some (PyData.int (i / 2^j.toNat)) else none)=some d:=e;split at e'
 .rename_i h
  cases e';exact⟨h,fun O H=>.int _⟩
 .cases e'⟩
@[simp] theorem Hg{i j:Int}:pP (.int i) (.int j)=if 0<=j then some (.int (i / 2^j.toNat)) else none:=rfl
section
variable {X:Cx}
theorem Aj:MtR X "str.join" (fun x vs H Q=>∃(z:Str) (l:Addr) (ys:List Str),x=.str z/\vs=[.ref l]/\SqT X.K H l (ys.map V.str)/\(ys.map (·.length)).sum+ys.length*z.length<=16777216/\Q (.str (Str.join z ys)) H):=by
 intro pins s σ H x vs v us Q I rx rv h;obtain⟨z,l,ys,rfl,rfl,hq,hz,q⟩:=h;obtain⟨t,rfl⟩:=rx;obtain⟨u,rfl,ru⟩:=vals1 rv;cases ru;obtain⟨its,rw',pl,_⟩:=I.tuple hq;refine join_tuple (ys:=ys) pl (by simpa using qv rw') hz fun t' k=>⟨.str _,H,I.tok _,⟨t',?_⟩,q⟩;show Value.str (Builtin.Str.glued z ys) t'=_;rw[StrLaws.glued_eq_join]
theorem wB{K:Frag}{O:Addr->Prop}{ts:List Addr}{H:Hp}{T:Tp}{v:V}{w:W}{z:Str}(r:RepW K O ts H v w)(h:view T w=some (.str z)):v=.str z:=by
 cases w with
 |d x=>cases h;cases (show Rep K O H v _ from r);rfl
 |tp k=>
  have h1':(T[k]?).bind i2=some (PyData.str z):=h
  cases hk:T[k]? with
  |none=>rw[hk] at h1';cases h1'
  |some xs=>
   rw[hk] at h1';have e2:(if isO xs=true then none else some (PyData.list xs))=some (PyData.str z):=h1'
   split at e2 <;> cases e2
 |loc zs=>cases zs <;> cases h
def jZ:PyData->PyData->Option PyData
 |.str z,.list xs=>match b9 xs with
  |some ys=>if (ys.map (·.length)).sum+ys.length*z.length<=16777216 then some (.str (Str.join z ys)) else none
  |none=>none
 |.str z,.tuple xs=>match b9 xs with
  |some ys=>if (ys.map (·.length)).sum+ys.length*z.length<=16777216 then some (.str (Str.join z ys)) else none
  |none=>none
 |_,_=>none
theorem sU{o e:Expr}{fo fe:FE}{apos cpos:Pos}(ho:DE X o fo)(he:DE X e fe)
  (hbase:attributeBase o "join" X.env (eval o X.env)=eval o X.env:=by rfl)
  (hfew:((backTo cpos (starEach [e] X.env)).all (fun x=>!x.1)&&(backToKw cpos (keywordEach [] X.env)).all (fun x=>x.1.isSome)
   && decide (([e]:List Expr).length+([]:List Keyword).length+(if ([]:List Keyword).isEmpty then 0 else 1)<30))=true:=by exact mx rfl)
  (hline:(apos.endLine == cpos.line)=true:=by rfl) (hse:starEach [e] X.env=(false,eval e X.env)::starEach [] X.env:=by exact a8 rfl) (hplain:(backTo cpos (starEach [] X.env)).any (·.1)=false:=by exact bQ rfl) :
  DE X (.Call (.Attribute o "join" apos) [e] [] cpos) (ag jZ fo fe):=by
 refine⟨?_⟩;refine bj (jT PySem.F.plainAttrs_str PySem.F.slot_str_join PySem.F.type_str_join (mt_joinG.or Aj) ho.pe (cT he.pe dB hse) hbase hfew hline hse hplain) fun σ H Q=>?_;rintro⟨O,ts,ρ,T,w,T',hc,re,e,q⟩;obtain⟨w1,T1,e1,e⟩:=aJ e;obtain⟨w2,T2,e2,e⟩:=aJ e;obtain⟨x,y,d,h1,h2,h3,rfl,rfl⟩:=jJ e;unfold jZ at h3;refine⟨O,ts,ρ,T,w1,T1,hc,re,e1,fun v1 H1 s1 hc1 r1=>?_⟩;split at h3
 .rename_i z xs
  split at h3
  .rename_i ys hy
   split at h3
   .rename_i hz
    cases h3;have ev:=wB r1 h1;subst ev;refine⟨rfl,O,ts,ρ,T1,w2,T',hc1,re.mono hc s1,e2,fun v2 H2 s2 hc2 r2=>?_⟩;obtain⟨a,vs,rfl,t,r⟩:=(hc2.view r2 h2).lst;rw[iB r hy] at t;exact .inl ⟨z,a,ys,rfl,rfl,t,hz,q _ H2 (s1.trans s2) hc2 (.str _)⟩
   .cases h3
  .cases h3
 .rename_i z xs
  split at h3
  .rename_i ys hy
   split at h3
   .rename_i hz
    cases h3;have ev:=wB r1 h1;subst ev;refine⟨rfl,O,ts,ρ,T1,w2,T',hc1,re.mono hc s1,e2,fun v2 H2 s2 hc2 r2=>?_⟩;obtain⟨a,vs,rfl,t,r⟩:=(hc2.view r2 h2).tup;have t:=t.sq;rw[iB r hy] at t;exact .inr ⟨z,a,ys,rfl,rfl,t,hz,q _ H2 (s1.trans s2) hc2 (.str _)⟩
   .cases h3
  .cases h3
 .cases h3
end
end D
namespace L2
open PySem PySem.Spec PyProof.Rows
structure CSn(osc:Scope)(N:List Str)(xs:List Str)(scope:Scope)(N':List Str):Prop where
 kind:scope.kind=.function
 nocell:∀y∈scope.names,y.2≠.cell
 names:∀y∈scope.names,y.2=.local->scope.names.lookup y.1=some .local
 hx:∀x∈xs,scope.names.lookup x=some .local
 only:∀y∈scope.names,y.2=.local->y.1∈xs\/y.1=".0"
 free:∀y∈scope.names,y.2=.free->osc.names.lookup y.1=some .cell\/osc.names.lookup y.1=some .free
 nd:(xs++N').Nodup
 n0:(".0" : Str)∉N'
 len:N'.length=N.length
 rel:∀p∈N'.zip N,p.1=p.2\/∀q∈scope.names,q.1≠p.1
section
variable {X:Cx}{pins:List (Addr×Obj)}{σ:St}{H:Hp}{s:Shared}{xs:List Str}{scope:Scope}{N':List Str}
end
section
variable {X:Cx}{xs:List Str}{scope:Scope}{N':List Str}{tg elt iter:Expr}{ifs:List Expr}{pos:Pos}{wi:TI}{g:TG}{te:TE}{tt:TT}
end
end L2
namespace D
open PySem PySem.Spec PyProof.Rows L2
section
variable {X:Cx}{pos:Pos}
end
section
variable {X:Cx}
variable {pos:Pos}{e e':Expr}{fe fk:FE}
theorem FM{e f:Expr}{env:Env}{cpos:Pos}(h:noStar e=true)(h2:noStar f=true):((backTo cpos (starEach [e,f] env)).all (fun x=>!x.1)&&(backToKw cpos (keywordEach [] env)).all (fun x=>x.1.isSome)
   && decide (([e,f]:List Expr).length+([]:List Keyword).length+(if ([]:List Keyword).isEmpty then 0 else 1)<30))=true:=by
 rw[yP h,nv h2];rfl
end
section
variable {K:Frag}{O₀:Addr->Prop}{H₀:Hp}{F:List ((Addr->Prop)×Hp)}{ts:List Addr}{O A:Addr->Prop}{H H1:Hp}{σ:L2.St}{ρ:Rho}{T T1:Tp}
theorem RS.widen(r:RS K O₀ H₀ F ts O H σ ρ T)(s:SameX ts H H1)(hA:∀b,A b->H b=none/\¬O b)(c:HC K (fun b=>O b\/A b) ts H1 T1):RS K O₀ H₀ F ts (fun b=>O b\/A b) H1 σ ρ T1:=by
 have le:Le O H (fun b=>O b\/A b) H1:=fun a o n e=>⟨fun z=>z.elim n fun z=>(by rw[(hA a z).1] at e;cases e),s a o (fun z=>n (r.hc.own a z)) e⟩;refine⟨c,fun i w e=>?_,fun b hb=>.inl (r.sub b hb),r.ots,r.same.trans s,r.fresh,r.dist,fun f hf=>(r.frs f hf).trans le,r.len⟩;obtain⟨v,h1,h2⟩:=r.re i w e;refine⟨v,h1,?_⟩
 cases w with
 |d x=>exact Rep.mono le h2
 |tp k=>exact h2
 |loc ys=>
  obtain⟨a,ea,m1,m2,m3⟩:=h2;exact⟨a,ea,.inl m1,m2,m3.mono (fun o q=>s _ _ m2 q) le⟩
theorem RS.hold{i:Nat}{a:Addr}{xs:PyData}(r:RS K O₀ H₀ F ts O H σ ρ T)(ha:O a)(nt:a∉ts)(hf:H₀ a=none/\¬O₀ a)(nh:∀(j:Nat) (ys:PyData),ρ[j]? = some (some (W.loc ys))->σ[j]? = some (some (V.ref a))->False)(rv:OwnAt K O H a xs) :
  RS K O₀ H₀ F ts O H (σ.set i (some (.ref a))) (ρ.set i (some (.loc xs))) T:=by
 refine⟨r.hc,fun j w e=>?_,r.sub,r.ots,r.same,fun j ys b e1 e2=>?_,fun j k ys zs v e1 e2 e3 e4=>?_,r.frs,by simp[r.len]⟩
 .by_cases z:i=j
  .subst z
   have hl:i<ρ.length:=by
    have:=(List.getElem?_eq_some_iff.mp e).1;simpa using this
   rw[List.getElem?_set_self hl] at e;cases e;exact⟨.ref a,by rw[List.getElem?_set_self (by rw[r.len];exact hl)],a,rfl,ha,nt,rv⟩
  .rw[List.getElem?_set_ne z] at e
   obtain⟨x,h1,h2⟩:=r.re j w e;exact⟨x,by rw[List.getElem?_set_ne z];exact h1,h2⟩
 .by_cases z:i=j
  .subst z
   have hl:i<ρ.length:=by
    have:=(List.getElem?_eq_some_iff.mp e1).1;simpa using this
   rw[List.getElem?_set_self (by rw[r.len];exact hl)] at e2;cases e2;exact hf
  .rw[List.getElem?_set_ne z] at e1 e2
   exact r.fresh j ys b e1 e2
 .by_cases z:i=j
  .by_cases z':i=k
   .rw[←z,←z']
   .exfalso
    subst z
    have hl:i<ρ.length:=by
     have:=(List.getElem?_eq_some_iff.mp e1).1;simpa using this
    rw[List.getElem?_set_self (by rw[r.len];exact hl)] at e3;cases e3;rw[List.getElem?_set_ne z'] at e2 e4;exact nh k zs e2 e4
  .by_cases z':i=k
   .exfalso
    subst z'
    have hl:i<ρ.length:=by
     have:=(List.getElem?_eq_some_iff.mp e2).1;simpa using this
    rw[List.getElem?_set_self (by rw[r.len];exact hl)] at e4;cases e4;rw[List.getElem?_set_ne z] at e1 e3;exact nh j ys e1 e3
   .rw[List.getElem?_set_ne z] at e1 e3
    rw[List.getElem?_set_ne z'] at e2 e4;exact r.dist j k ys zs v e1 e2 e3 e4
theorem RS.keep(r:RS K O₀ H₀ F ts O H σ ρ T)(hA:∀b,A b->O b):HC K (fun b=>O₀ b\/A b) ts H T/\Le O H (fun b=>O₀ b\/A b) H:=by
 have le:Le O H (fun b=>O₀ b\/A b) H:=fun a o n e=>⟨fun z=>n (z.elim (r.sub a) (hA a)),e⟩;exact⟨⟨fun b hb=>.inl (r.ots b hb),fun b hb=>r.hc.trk b (hb.elim (r.sub b) (hA b)),r.hc.nd,r.hc.len,fun i a xs e1 e2=>(r.hc.tape i a xs e1 e2).mono (fun _ h=>h) le⟩,le⟩
end
section
variable {X:Cx}{pos:Pos}
end
def oR(o:Option ((Fl×Rho)×Tp)):Option (PyData×Tp):=bnd o fun p T=>match p with
 |(.ro x,_)=>some (x,T)
 |_=>none
def gn(N:Nat)(f:FS):FnM:=fun ws T=>if dR ws=true then oR (f (ws.map some++List.replicate (N-ws.length) none) T) else none
inductive SpOP(K:Frag)(n:Nat)(m:FnM)(vs:List V)(H:Hp)(Q:VK):Prop where
 |mk (O:Addr->Prop) (ts:List Addr) (T:Tp) (ws:List W) (x:PyData) (T':Tp) (hc:HC K O ts H T) (r:gx K O ts H vs ws) (hl:ws.length=n) (e:m ws T=some (x,T'))
  (q:∀(A:Addr->Prop) v H',SameX ts H H'->(∀b,A b->H b=none/\¬O b)->HC K (fun b=>O b\/A b) ts H' T'->pZ K (fun b=>O b\/A b) A H' v x->Q v H'):SpOP K n m vs H Q
def spO(K:Frag)(n:Nat)(m:FnM):Sp:=fun vs H Q _=>SpOP K n m vs H Q
theorem FQ{P:Program}{w:World}{K:Frag}{mg:Str->Option Value}{base:Heap}{x qual:Str}{st:Stmt}{f:Addr}{fd:FuncData}{N ps:List Str}{k:Nat}{m:FS}(F:Fun K x qual st f fd)(S:FnScope N ps (a9 st))
  (hbody:∀(cdv:Value) (A:Around) (outer:List Env) (s:Shared) (H:Hp) (E:XK),Room k (A.deeper (envOfC qual (a9 st) s.heap.objs.size f cdv))->DSs (eF CX0 P w K mg base N qual (a9 st) f cdv A outer s H E).nox (cb st) m) :
  FnOk P w K mg base CX0 (k+1) f fd ps (spO K ps.length (gn N.length m)):=by
 refine F.ok S (fun vs H Q E h=>?_) (fun cdv A outer s H vs Q E hr h=>⟨_,(hbody cdv A outer s H E hr).pe,?_⟩)
 .obtain⟨O,ts,T,ws,x,T',hc,rw',hl,_⟩:=h
  rw[←hl];exact Paired.length rw'
 obtain⟨O,ts,T,ws,x,T',hc,rw',hl,e,q⟩:=h;unfold gn at e;split at e
 .rename_i hn
  obtain⟨⟨fl,ρ'⟩,T1,e1,e⟩:=aJ e;have hlen:vs.length=ws.length:=Paired.length rw';have noL:∀{i:Nat}{xs:PyData},(ws.map some++List.replicate (N.length-ws.length) none)[i]? = some (some (W.loc xs))->False:=fun {i xs} e=>kB hn (List.mem_of_getElem? (ku e));refine⟨O,H,[],ts,O,_,T,fl,ρ',T1,⟨hc,fun i u e=>?_,fun _ h=>h,hc.own,.refl _ _,fun i xs a e1 _=>(noL e1).elim,fun i j xs ys v e1 _ _ _=>(noL e1).elim,fun f hf=>absurd hf (by simp),by simp[L2.start,hlen]⟩,e1,?_⟩
  .obtain⟨v,h1,h2⟩:=mP rw' (ku e)
   refine⟨v,?_,h2⟩;unfold L2.start;have hi:i<vs.length:=(List.getElem?_eq_some_iff.mp h1).1;rw[List.getElem?_append_left (by simpa using hi),List.getElem?_map,h1];rfl
  .cases fl with
   |ro y=>cases e;exact q
   |_=>cases e
 .cases e
section
variable {X:Cx}{pos:Pos}
end
section
variable {X:Cx}
abbrev FP:=Rho->Tp->Option (List (Str×PyData)×Tp)
def ET(l:List (Str×PyData)):List (PyData×PyData):=l.map fun p=>(.str p.1,p.2)
def Fv(p:Str×V):Key×V:=(Sum.inr p.1,p.2)
structure DP(X:Cx)(pos:Pos)(keys:List (Option Expr))(values:List Expr)(g:FP):Prop where
 ex:∃trs,PPs X pos keys values trs/\∀(σ:L2.St) (H:Hp) (Q:List (V×V)->Hp->Prop) (O:Addr->Prop) (ts:List Addr) (ρ:Rho) (T:Tp) (l:List (Str×PyData)) (T':Tp),HC X.K O ts H T->RelE X.K O ts H σ ρ->g ρ T=some (l,T') ->
  (∀(kvs:List (Str×V)) (H':Hp),SameX ts H H'->HC X.K O ts H' T'->kvs.map (·.1)=l.map (·.1)->RepK X.K O H' (kvs.map Fv) (ET l)->Q (kvs.map fun p=>(V.str p.1,p.2)) H')->oH trs σ H Q
end
def pk(i:Nat)(ρ:Rho)(x:PyData)(T:Tp):Option ((Fl×Rho)×Tp):=match x with
 |.list xs=>some ((.nx,ρ.set i (some (.loc (.list xs)))),T)
 |.dict ds=>some ((.nx,ρ.set i (some (.loc (.dict ds)))),T)
 |_=>none
def mf(i:Nat)(m:FnM)(g:FA):FS:=fun ρ T=>bnd (g ρ T) fun ws T1=>bnd (m ws T1) (pk i ρ)
theorem zP{i:Nat}{ρ ρ':Rho}{x:PyData}{T T':Tp}{fl:Fl}(h:pk i ρ x T=some ((fl,ρ'),T')):(∀K O A H v,pZ K O A H v x->∃a,v=.ref a/\(∀c,A c↔c=a)/\OwnAt K O H a x)/\fl=.nx/\ρ'=ρ.set i (some (.loc x))/\T'=T:=by
 cases x with
 |list xs=>cases h;exact⟨fun _ _ _ _ _ h=>h,rfl,rfl,rfl⟩
 |dict ds=>cases h;exact⟨fun _ _ _ _ _ h=>h,rfl,rfl,rfl⟩
 |_=>cases h
section
variable {X:Cx}{pos:Pos}
theorem BV{i:Nat}{name x:Str}{ps:List Str}{kk:Nat}{m:FnM}{e:Expr}{es:List Expr}{g:FA}{p cpos pos':Pos}(F:Fn X.prog X.w X.K X.mg X.base name ps kk (spO X.K ps.length m))(hr:Room kk X.A)(hg:Gl X name)(hN:X.N.Nodup)(ha:DA X (e::es) g)(hl:fO g ps.length)(hdb:(name == ("__debug__" : Str))=false:=by decide)
  (he:starEach (e::es) X.env=(false,eval e X.env)::starEach es X.env:=by exact a8 rfl) (hpl:(backTo cpos (starEach es X.env)).any (·.1)=false:=by exact bQ rfl) (hi:X.N[i]? = some x:=by rfl) (hx:Loc X.env.scope x:=by first|exact Or.inl rfl|exact Or.inr rfl)
  (hs:swapsWith (.Call (.Name name p) (e::es) [] cpos) (some (.Name x pos')) pos.line X.env=pure false:=by rfl) (hf:X.fn x=true\/X.env.scope.names.lookup x=some .local:=by first|exact .inl rfl|exact .inr rfl|assumption) :
  DS X (.Assign [.Name x pos'] (.Call (.Name name p) (e::es) [] cpos) pos) (mf i m g):=by
 refine⟨?_⟩;refine cc (gX hN hi hx (iV F hr hg ha.pe hdb he hpl) hs hf) fun D σ H=>?_;rintro⟨O₀,H₀,F,ts,O,ρ,T,fl,ρ',T',rs,e,q⟩;obtain⟨ws,T1,e1,e⟩:=aJ e;obtain⟨x0,T2,e2,e⟩:=aJ e;obtain⟨ow,rfl,rfl,rfl⟩:=zP e;refine⟨O,ts,ρ,T,ws,T1,rs.hc,rs.re,e1,fun vs H1 s1 hc1 r1=>?_⟩;have rs1:=rs.step s1 hc1;refine⟨O,ts,T1,ws,_,_,hc1,by rw[List.append_nil];exact r1,hl _ _ _ _ e1,e2,fun A v H2 s2 hA hc2 ov=>?_⟩;obtain⟨a,rfl,hAA,oa⟩:=ow _ _ _ _ _ ov;have rs2:=rs1.widen s2 hA hc2;have hAa:=hA a ((hAA a).mpr rfl);have nta:a∉ts:=fun z=>hAa.2 (hc1.own a z)
 have h0:H₀ a=none:=by
  cases z:H₀ a with
  |none=>rfl
  |some o=>have:=rs1.same a o nta z;rw[hAa.1] at this;cases this
 exact q _ _ _ (rs2.hold (i:=i) (.inr ((hAA a).mpr rfl)) nta ⟨h0,fun z=>hAa.2 (rs1.sub a z)⟩ (fun j ys q1 q2=>by
  obtain⟨v,h1,b,ea,h2,h3,h4⟩:=rs1.re j _ q1;rw[q2] at h1;cases h1;cases ea;obtain⟨o',h5⟩:=h4.some;rw[hAa.1] at h5
  cases h5) oa)
def oX(x:PyData)(T:Tp):Option (W×Tp):=match x with
 |.dict ds=>some (.d (.dict ds),T)
 |_=>none
def lL(m:FnM)(g:FA):FE:=fun ρ T=>bnd (g ρ T) fun ws T1=>bnd (m ws T1) oX
theorem zJ{x:PyData}{T T':Tp}{w:W}(h:oX x T=some (w,T')):∃ds,x=.dict ds/\w=.d (.dict ds)/\T'=T:=by
 cases x with
 |dict ds=>cases h;exact⟨ds,rfl,rfl,rfl⟩
 |_=>cases h
theorem AJ{name:Str}{ps:List Str}{k:Nat}{m:FnM}{e:Expr}{es:List Expr}{g:FA}{p cpos:Pos}(F:Fn X.prog X.w X.K X.mg X.base name ps k (spO X.K ps.length m))(hr:Room k X.A)(hg:Gl X name)(ha:DA X (e::es) g)(hl:fO g ps.length)(hdb:(name == ("__debug__" : Str))=false:=by decide)
  (he:starEach (e::es) X.env=(false,eval e X.env)::starEach es X.env:=by exact a8 rfl) (hpl:(backTo cpos (starEach es X.env)).any (·.1)=false:=by exact bQ rfl):DE X (.Call (.Name name p) (e::es) [] cpos) (lL m g):=by
 refine⟨?_⟩;refine bj (vP (iV F hr hg ha.pe hdb he hpl)) fun σ H Q=>?_;rintro⟨O,ts,ρ,T,w,T',hc,re,e,q⟩;obtain⟨ws,T1,e1,e⟩:=aJ e;obtain⟨x,T2,e2,e⟩:=aJ e;obtain⟨ds,rfl,rfl,rfl⟩:=zJ e;refine⟨O,ts,ρ,T,ws,T1,hc,re,e1,fun vs H1 s1 hc1 r1=>?_⟩;refine⟨O,ts,T1,ws,_,_,hc1,by rw[List.append_nil];exact r1,hl _ _ _ _ e1,e2,fun A v H2 s2 hA hc2 ov=>?_⟩;obtain⟨a,rfl,hAA,kvs,h1,h2⟩:=ov;have hAa:=hA a ((hAA a).mpr rfl);have nta:a∉ts:=fun z=>hAa.2 (hc1.own a z);refine .frz h1 fun o=>.done ?_;have le:Le (fun b=>O b\/A b) H2 O (upd H2 a (.frz o (.dK kvs))):=fun b u n z=>⟨fun y=>n (.inl y),by rw[aP (show b≠a from fun y=>n (.inr ((hAA b).mpr y)))];exact z⟩;refine q _ _ (fun b u n z=>?_) ⟨hc1.own,fun b hb=>?_,hc2.nd,hc2.len,fun j b ys q1 q2=>?_⟩ (.dct hAa.2 bC (h2.mono le))
 .have hb:b≠a:=fun y=>by
   have:=s1 b u n z;rw[y,hAa.1] at this;cases this
  rw[aP hb];exact s2 b u n (s1 b u n z)
 .have hb':b≠a:=fun y=>hAa.2 (y ▸ hb)
  rw[aP hb'];exact hc2.trk b (.inl hb)
 .exact(hc2.tape j b ys q1 q2).mono (fun _ h=>by rw[aP (show b≠a from fun z=>nta (by rw[←z];exact List.mem_of_getElem? q1))];exact h) le
end
section
variable {X:Cx}{pos:Pos}{rest:List Stmt}{fr:FS}
end
section
variable {X:Cx}{pos:Pos}
end
section
variable {prog:Program}{w:World}{K:Type}[DecidableEq K]{knd:KeyKind prog w K}{A:Around}{E:Value->Shared->Prop}{s:Shared}
end
section
variable {X:Cx}
end
section
variable {prog:Program}{w:World}{A:Around}{E:Value->Shared->Prop}{s:Shared}
theorem yc{T:String}{r d:Addr}{n:Nat}{P:Nat->Value->Prop}{OK:Heap->Prop}{Q:List Value->Shared->Prop}(K:PySem.W.KdlSrc prog w T r d n P OK)(hh:A.handled=none)(hok:OK s.heap)(hn:n<=sizeLine)
  (hQ:∀h' tk acc,(∀b o,s.heap.get? b=some o->h'.get? b=some o)->s.heap.objs.size<h'.objs.size->ItemsOf P acc n->Q acc.toList { s with heap:=h',toks:=tk }):wpAny (model prog w) A (collect (.ref r)) Q E s:=by
 have lt:=K.there _ hok;have hS:(s.heap.push { cls:=.type "list",data:=.seq #[] }).get? s.heap.objs.size=some { cls:=.type "list",data:=.seq #[] }:=Heap.get?_push_size _ rfl;unfold collect;refine wpAny_bind (wpAny_runValue (codeAny_builtin PySem.F.entry_proto_collect ?_));rw[Around.under_plainId PySem.F.plain_proto_collect _];show wpAny _ A.in1 (newList [] >>= fun l=>again (.builtin "list.__iadd__" ⟨[l,.ref r],[]⟩)) _ _ s;refine wpAny_bind (wpAny_newObj_type (wpAny_pure ⟨plainId_quiet PySem.F.plain_list_iadd _,codeAny_builtin PySem.F.entry_list_iadd ?_⟩));rw[Around.under_plainId PySem.F.plain_list_iadd _];show wpAny _ A.in1 (Builtin.List.listExtendWith (.ref s.heap.objs.size) (.ref r) (.ref s.heap.objs.size)) _ _ _
 refine PySem.W.kdl_extend (R:=fun r s'=>match r with
  | .ok (.ret v)=>wpAny (model prog w) A (match v with
   | .ref a=>(do match (←load a).data with
    |.seq xs _=>pure xs.toList
    | _=>unsupported "internal:collect")
   | _=>unsupported "internal:collect") Q E s'
  |.ok _=>False
  | .error e=>E e s') (A:=A) (s:={ s with heap:=s.heap.push { cls:=.type "list",data:=.seq #[] } }) K hh (K.keep _ _ hok fun b _ o e=>Heap.get?_push_of_some _ e) s.heap.objs.size (Nat.ne_of_gt lt.1) (Nat.ne_of_gt lt.2) (.ref s.heap.objs.size) 0 hS (fun h' tk acc c k1 k2 k3=>?_) hn
 refine wpAny_bind (wpAny_load k2 (wpAny_pure ?_));exact hQ h' tk acc (fun b o e=>k1 b o (Nat.ne_of_lt (Heap.lt_size e)) (Heap.get?_push_of_some _ e)) (Heap.lt_size k2) k3
end
section
variable {X:Cx}
end
section
variable {X:Cx}
end
section
variable {X:Cx}
theorem yI(hcm:X.calm=true):CallR X (.builtin "sorted") (fun xs H Q=>∃a kvs ss,xs=[V.ref a]/\Rd H a (.dK kvs)/\kvs.map (fun p=>kV p.1)=ss.map V.str/\ss.length<64/\∀l,H l=none->Q (.ref l) (upd H l (.lst ((bK ss).map V.str)))):=by
 intro pins s σ H xs us Q I r h;obtain⟨a,kvs,ss,rfl,ha,hk,h64,q⟩:=h;obtain⟨u,rfl,ru⟩:=vals1 r;cases ru;obtain⟨z,y,vs,kv,dd⟩:=dU I.hok ha;obtain⟨ep,dd⟩:=dd.dictAt;have hl:=kv.length
 have hlen:kvs.length=ss.length:=by have:=congrArg List.length hk;simpa using this
 refine Calls.call_function_entry kind_sorted plain_sorted entry_sorted (args_sorted1 _) ?_;unfold Builtin.«sorted»;refine wpAny_bind (m:=checkCount "sorted" 1 1 _) (wpAny_pure ?_);refine wpAny_bind (yc (PySem.W.kdl_dict (prog:=X.prog) (w:=X.w) (knd:=bq X.prog X.w) (kvs:=vs) (ep:=ep) y) (I.ok.hd hcm) dd (by omega) fun h' tk acc k1 k2 k3=>?_);have hv:Vals (kvs.map fun p=>kV p.1) acc.toList:=qT (P:=X.prog) (w:=X.w) kv (by rw[Array.length_toList];exact k3.1) fun j v e=>k3.2 j v (by simpa using e);rw[hk] at hv;have hS:=se hv
 have hal:acc.toList.length=ss.length:=by have:=hv.length;simpa using this.symm
 refine wpAny_bind (wpAny_newList ?_);have hoL:(h'.push (seqObj "list" acc.toList.toArray 0)).get? h'.objs.size=some (seqObj "list" acc.toList.toArray 0):=Heap.get?_push_size _ rfl;refine wpAny_bind (wpAny_holding (wpAny_call_entry slot_list_sort ⟨_,hoL,rfl⟩ entry_list_sort (list_sort_treeK strKind_oneLt hoL hS.keysOf (fun v1 v2 rest e=>keyKind_strs (by rw[←e];exact hS)) (by omega) fun st' a1 a2=>⟨_,rfl,?_⟩) (args_list_sort _)));refine wpAny_pure ⟨_,rfl,?_⟩;obtain⟨ss',b1,b2,b3⟩:=sorted_out_str hS a1 a2;have e:ss'=bK ss:=mF (b2.trans (gI ss).symm) (yk b3) (kf ss);subst e;obtain⟨e2,he⟩:=sortedHeap_at (out:=(arrOf st').map (·.2)) hoL
 have keep:∀b o,s.heap.get? b=some o->(sortedHeap (h'.push (seqObj "list" acc.toList.toArray 0)) h'.objs.size acc.toList ((arrOf st').map (·.2))).get? b=some o:=fun b o q=>by
  have q':=k1 b o q;have lt:=Heap.lt_size q';rw[sortedHeap_old (Nat.ne_of_lt lt) (by rw[size_push'];exact Nat.lt_succ_of_lt lt)];exact Heap.get?_push_of_some _ q'
 have hn:H h'.objs.size=none:=I.hok.fresh (Nat.le_of_lt k2);have hlen2:(bK ss).length=ss.length:=(gI ss).length_eq;exact⟨.ref h'.objs.size,_,I.laid (t':=tk) (o:=.lst ((bK ss).map V.str)) keep (Nat.le_of_lt k2) ⟨by simp;exact Nat.le_of_lt (Nat.lt_of_lt_of_le (by omega:(bK ss).length<64) (by decide)),((arrOf st').map (·.2)).toList,e2,qu b1,by simpa[seqObj,-Array.toList_map] using he⟩,rfl,q _ hn⟩
def f9:PyData->Option PyData
 |.dict ds=>lT (b9 (hZ ds))
 |_=>none
theorem yU{x y:PyData}(h:f9 x=some y):∃ds ss,x=.dict ds/\b9 (hZ ds)=some ss/\ss.length<64/\y=.list ((bK ss).map .str):=by
 cases x with
 |dict ds=>
  have h':lT (b9 (hZ ds))=some y:=h;unfold lT at h';split at h'
  .rename_i ss hs
   split at h'
   .rename_i hl
    cases h';exact⟨ds,ss,rfl,hs,hl,rfl⟩
   .cases h'
  .cases h'
 |_=>cases h
theorem nH{e:Expr}{fe:FE}{p pos:Pos}(hm:X.mg "sorted"=none)(ha:DE X e fe)(hc:X.calm=true:=by rfl)(hg:Gl X "sorted":=by rfl)(hs:starEach [e] X.env=(false,eval e X.env)::starEach [] X.env:=by exact a8 rfl)
  (hpl:(backTo pos (starEach [] X.env)).any (·.1)=false:=by exact bQ rfl):DE X (.Call (.Name "sorted" p) [e] [] pos) (fUn f9 fe):=by
 refine⟨?_⟩;refine bj (js (yI hc) hg hm boot_sorted (cT ha.pe dB hs) (by decide) (by decide) hs hpl) fun σ H Q=>?_;rintro⟨O,ts,ρ,T,w,T',hc,re,e,q⟩;obtain⟨w1,T1,e1,e⟩:=aJ e;obtain⟨x,d,hv,hd,rfl,rfl⟩:=jK e;obtain⟨ds,ss,rfl,hs',hl,rfl⟩:=yU hd;refine⟨O,ts,ρ,T,w1,T',hc,re,e1,fun v1 H1 s1 hc1 r1=>?_⟩;obtain⟨a,kvs,rfl,t,r⟩:=(hc1.view r1 hv).dct;have rk:=mR (O':=O) (H':=H1) r;refine⟨a,kvs,ss,rfl,t,iB rk hs',hl,fun l hl'=>?_⟩;exact q _ _ (s1.trans (.new hl' _)) (hc1.new hl' _) (hc1.newL hl' (mQ _))
end
end D
namespace XE
open PySem PySem.Spec PyProof.Rows L2
abbrev vE:List Value:=[.type "ValueError",.type "Exception",.type "BaseException",.type "object"]
def XCl(K:Frag)(C:Addr)(tl:List Value):Prop:=∃nm q N bs sn sub ab col dd k0 k1 k2 k3 k5,K.lookup C=some (excClassObj nm q C N bs tl true sn sub ab col dd k0 k1 k2 k3 k5 "ValueError.__new__")/\PySem.W.nsOkIn K N=true
section
variable {prog:Program}{w:World}{A:Around}{E:Value->Shared->Prop}{h:Heap}{g:Array GenState}{d:Drawn}{t:Nat}{os:OsState}{K:Frag}{C R fI:Addr}
end
end XE
namespace XE
open PySem PySem.Spec PyProof.Rows L2
def XAt(e C:Addr)(od:Option Addr):Heap->Prop:=fun h=>∃t,h.get? e=some { cls:=.ref C,dict:=od,data:=.fields #[.ref t,.none,.none,.none,.bool false,.none] }
section
variable {X:Cx}{C R:Addr}
end
section
open Builtin Builtin.ObjectAttr
variable {prog:Program}{w:World}{A:Around}{E:Value->Shared->Prop}{h:Heap}{g:Array GenState}{d:Drawn}{t:Nat}{os:OsState}{K:Frag}{C R e:Addr}{name:Str}{v:Value}{vs:Array Value}
end
end XE
namespace XE
open PySem PySem.Spec PyProof.Rows L2
section
variable {X:Cx}{C R:Addr}
end
end XE
namespace XE
open PySem PySem.Spec PyProof.Rows L2
def spI(C:Addr)(f:Str):Sp:=fun vs H Q _=>∃a x,vs=[.ref a,.str x]/\H a=some (.ext (XAt a C none))/\(reprText x).length+1000<=sizeLine /\
 ∀dx,H dx=none->dx≠a->Q .non (upd (upd H dx (.xd [(f,.str x)])) a (.ext (XAt a C (some dx))))
structure XIni(P:Program)(w:World)(K:Frag)(mg:Str->Option Value)(base:Heap)(C R:Addr)(f:Str)(k:Nat):Prop where
 ex:∃fI fd ps,FnOk P w K mg base CX0 k fI fd ps (spI C f)/\Binds K fd ps []/\PySem.W.findIn K (.ref C) "__init__"=some (some (.ref fI))/\PySem.W.isFn K (.ref fI)=true
 c:XCl K C (.ref R::vE)
 r:XCl K R vE
 ri:PySem.W.ownIn K "__init__" (.ref R)=some none
 kp:PySem.W.keepIn K (.ref C)=true
section
variable {X:Cx}{C R:Addr}{f:Str}{k:Nat}
end
end XE
namespace XE
open PySem PySem.Spec PyProof.Rows L2
structure Kp(xs fs:List Addr)(h h':Heap):Prop where
 keep:∀b o,h.get? b=some o->b∉xs->b∉fs->h'.get? b=some o
 slot:∀b o,h.get? b=some o->b∉xs->b∈fs->∃sl,h'.get? b=some { o with slots:=sl }
 there:∀b o,h.get? b=some o->∃o',h'.get? b=some o'
section
variable {M:Model}{A:Around}{E:Value->Shared->Prop}{s:Shared}{base:Heap}{env:Env}{outer:List Env}{L e C dx T:Addr}
end
end XE
namespace XE
open PySem PySem.Spec PyProof.Rows L2
section
variable {P:Program}{w:World}{K:Frag}{mg:Str->Option Value}{base:Heap}{N:List Str}{qual:Str}{scope:Scope}{f C R:Addr}{cdv:Value}{A:Around}{outer:List Env}{s0:Shared}{H0:Hp}{E:XK}
end
end XE
namespace XE
open PySem PySem.Spec PyProof.Rows L2
section
variable {X:Cx}{pins:List (Addr×Obj)}{σ:L2.St}{H:Hp}{s:Shared}
end
end XE
namespace XE
open PySem PySem.Spec PyProof.Rows L2
section
variable {X:Cx}{C R fa:Addr}{k:Nat}{fd:FuncData}{ps:List Str}{sp:Sp}
end
end XE
namespace XE
open PySem PySem.Spec PyProof.Rows L2
section
variable {prog:Program}{w:World}{A:Around}{E:Value->Shared->Prop}{h:Heap}{g:Array GenState}{d:Drawn}{t:Nat}{os:OsState}{K:Frag}{C R x:Addr}{ox:Obj}{od:Option Obj}{name:Str}
structure XIs(K:Frag)(C:Addr):Prop where
 bm:PySem.W.mroIn K C (.type "BaseException")=some true
 gt:PySem.W.findIn K (.ref C) "__getattr__"=some none
 ga:PySem.W.findIn K (.ref C) "__getattribute__"=some (some (.builtin "BaseException.__getattribute__"))
 hc:(PySem.W.clsIn K C).isSome=true
 ca:PySem.W.findIn K (.ref C) "__class__"=some (some (.builtin "object.__class__"))
 hn:PySem.W.specialIn K (.builtin "object.__class__") "__get__"=some (some (.builtin "getset_descriptor.__get__"))
 tk:PySem.W.takesIn K (.builtin "object.__class__")=some true
 hm:PySem.W.mroIn K C (.type "object")=some true
end
end XE
namespace XE
open PySem PySem.Spec PyProof.Rows L2
section
variable {X:Cx}{C e dx:Addr}{oe:Obj}
structure Cau(X:Cx)(C e dx:Addr)(oe:Obj):Prop where
 pin:(e,oe)∈X.pn
 cls:oe.cls=.ref C
 dict:oe.dict=some dx
 data:∃vs,oe.data=.fields vs
 is:XIs X.K C
 hd:PySem.W.hasDictIn X.K C=true
end
end XE
namespace XE
open PySem PySem.Spec PyProof.Rows L2 D
structure XB(K:Frag)(C R:Addr)(f:Str)(Ds:List Addr):Prop where
 c:XCl K C (.ref R::vE)
 r:XCl K R vE
 ri:PySem.W.ownIn K "__init__" (.ref R)=some none
 kp:PySem.W.keepIn K (.ref C)=true
 is:XIs K C
 hd:PySem.W.hasDictIn K C=true
 nn:PySem.W.findIn K (.ref C) f=some none
 sa:PySem.W.findIn K (.ref C) "__setattr__"=some (some (.builtin "object.__setattr__"))
 rd:PySem.W.readsIn K R (.type "type")=true
 fc:PySem.W.findCls K (.ref R) (.type "type") "__init__"=some (.val (.builtin "ValueError.__init__"))
 kC:PySem.W.kitOne K (.ref C) (.ref C)=some true
 kV:PySem.W.kitOne K (.ref C) (.type "ValueError")=some true
 kD:PySem.W.kitAny K (.ref C) (Ds.map Value.ref)=some false
end XE
namespace XE
open PySem PySem.Spec PyProof.Rows L2
section
variable {X:Cx}{C R:Addr}
end
end XE
namespace XE
open PySem PySem.Spec PyProof.Rows L2 D
def spG(P:V->Prop)(C:Addr)(f:Str):Sp:=fun vs H Q _=>∃a v,vs=[.ref a,v]/\H a=some (.ext (XAt a C none))/\P v /\
 ∀dx,H dx=none->dx≠a->Q .non (upd (upd H dx (.xd [(f,v)])) a (.ext (XAt a C (some dx))))
structure XIniG(A:V->Prop)(P:Program)(w:World)(K:Frag)(mg:Str->Option Value)(base:Heap)(C R:Addr)(f:Str)(k:Nat):Prop where
 ex:∃fI fd ps,FnOk P w K mg base CX0 k fI fd ps (spG A C f)/\Binds K fd ps []/\PySem.W.findIn K (.ref C) "__init__"=some (some (.ref fI))/\PySem.W.isFn K (.ref fI)=true
 c:XCl K C (.ref R::vE)
 r:XCl K R vE
 ri:PySem.W.ownIn K "__init__" (.ref R)=some none
 kp:PySem.W.keepIn K (.ref C)=true
section
variable {X:Cx}{C R:Addr}{f:Str}{k:Nat}
end
end XE
namespace XE
open PySem PySem.Spec PyProof.Rows L2 D
end XE
namespace D
open PySem PySem.Spec PyProof.Rows L2
section
variable {X:Cx}
end
section
variable {X:Cx}
variable {pos:Pos}{e:Expr}{fe:FE}
end
section
variable {prog:Program}{w:World}{A:Around}{E:Value->Shared->Prop}
end
section
variable {X:Cx}{pos:Pos}
end
section
variable {X:Cx}{pos:Pos}{e:Expr}{fe:FE}
end
section
variable {X:Cx}
end
section
variable {X:Cx}{pos:Pos}{e:Expr}{fe:FE}
end
def cY(ds:List (PyData×PyData))(s:Str):List (PyData×PyData):=ds.filter fun p=>match p.1 with
 |.str x=>decide (x≠s)
 |_=>true
theorem sR{K:Frag}{O:Addr->Prop}{H:Hp}{s:Str}:∀{kvs:List (Key×V)}{ds:List (PyData×PyData)},RepK K O H kvs ds->RepK K O H (cL kvs (Sum.inr s:Key)) (cY ds s)
 |_,_,.nil=>.nil
 |_,_,.cons (k:=k) (v:=v) (d:=d) (kvs:=kvs) (ds:=ds) r t=>by
  have ih:=sR (s:=s) t
  rcases k with i|x
  .have e1:cL (((Sum.inl i:Key),v)::kvs) (Sum.inr s:Key)=((Sum.inl i:Key),v)::cL kvs (Sum.inr s:Key):=by simp[cL]
   have e2:cY ((cQ (Sum.inl i),d)::ds) s=(cQ (Sum.inl i),d)::cY ds s:=rfl;rw[e1,e2];exact .cons r ih
  .by_cases hx:x=s
   .have e1:cL (((Sum.inr x:Key),v)::kvs) (Sum.inr s:Key)=cL kvs (Sum.inr s:Key):=by simp[cL,hx]
    have e2:cY ((cQ (Sum.inr x),d)::ds) s=cY ds s:=by simp[cY,cQ,hx]
    rw[e1,e2];exact ih
   .have e1:cL (((Sum.inr x:Key),v)::kvs) (Sum.inr s:Key)=((Sum.inr x:Key),v)::cL kvs (Sum.inr s:Key):=by simp[cL,hx]
    have e2:cY ((cQ (Sum.inr x),d)::ds) s=(cQ (Sum.inr x),d)::cY ds s:=by simp[cY,cQ,hx]
    rw[e1,e2];exact .cons r ih
section
variable {X:Cx}{pos:Pos}{e:Expr}{fe:FE}
end
section
variable {X:Cx}{pos:Pos}
def uC(i:Nat)(ρ:Rho)(x:PyData)(T:Tp):Option ((Fl×Rho)×Tp):=match x with
 |.list xs=>some ((.nx,ρ.set i (some (.loc (.list xs)))),T)
 |.none=>some ((.nx,ρ.set i (some (.d .none))),T)
 |_=>none
def lK(i:Nat)(m:FnM)(g:FA):FS:=fun ρ T=>bnd (g ρ T) fun ws T1=>bnd (m ws T1) (uC i ρ)
theorem AA{i:Nat}{name x:Str}{ps:List Str}{kk:Nat}{m:FnM}{e:Expr}{es:List Expr}{g:FA}{p cpos pos':Pos}(F:Fn X.prog X.w X.K X.mg X.base name ps kk (spO X.K ps.length m))(hr:Room kk X.A)(hg:Gl X name)(hN:X.N.Nodup)(ha:DA X (e::es) g)(hl:fO g ps.length)(hdb:(name == ("__debug__" : Str))=false:=by decide)
  (he:starEach (e::es) X.env=(false,eval e X.env)::starEach es X.env:=by exact a8 rfl) (hpl:(backTo cpos (starEach es X.env)).any (·.1)=false:=by exact bQ rfl) (hi:X.N[i]? = some x:=by rfl) (hx:Loc X.env.scope x:=by first|exact Or.inl rfl|exact Or.inr rfl)
  (hs:swapsWith (.Call (.Name name p) (e::es) [] cpos) (some (.Name x pos')) pos.line X.env=pure false:=by rfl) (hf:X.fn x=true\/X.env.scope.names.lookup x=some .local:=by first|exact .inl rfl|exact .inr rfl|assumption) :
  DS X (.Assign [.Name x pos'] (.Call (.Name name p) (e::es) [] cpos) pos) (lK i m g):=by
 refine⟨?_⟩;refine cc (gX hN hi hx (iV F hr hg ha.pe hdb he hpl) hs hf) fun D σ H=>?_;rintro⟨O₀,H₀,F,ts,O,ρ,T,fl,ρ',T',rs,e,q⟩;obtain⟨ws,T1,e1,e⟩:=aJ e;obtain⟨x0,T2,e2,e⟩:=aJ e;refine⟨O,ts,ρ,T,ws,T1,rs.hc,rs.re,e1,fun vs H1 s1 hc1 r1=>?_⟩;have rs1:=rs.step s1 hc1;refine⟨O,ts,T1,ws,_,_,hc1,by rw[List.append_nil];exact r1,hl _ _ _ _ e1,e2,fun A v H2 s2 hA hc2 ov=>?_⟩;have rs2:=rs1.widen s2 hA hc2
 cases x0 with
 |list xs=>
  cases e;obtain⟨a,rfl,hAA,oa⟩:=ov;have hAa:=hA a ((hAA a).mpr rfl);have nta:a∉ts:=fun z=>hAa.2 (hc1.own a z)
  have h0:H₀ a=none:=by
   cases z:H₀ a with
   |none=>rfl
   |some o=>have:=rs1.same a o nta z;rw[hAa.1] at this;cases this
  exact q _ _ _ (rs2.hold (i:=i) (.inr ((hAA a).mpr rfl)) nta ⟨h0,fun z=>hAa.2 (rs1.sub a z)⟩ (fun j ys q1 q2=>by
   obtain⟨v,h1,b,ea,h2,h3,h4⟩:=rs1.re j _ q1;rw[q2] at h1;cases h1;cases ea;obtain⟨o',h5⟩:=h4.some;rw[hAa.1] at h5
   cases h5) oa)
 |none=>
  cases e;obtain⟨rfl,hno⟩:=ov;exact q _ _ _ (rs2.set (i:=i) (v:=.non) (w:=.d .none) .non fun _ z=>nomatch z)
 |_=>cases e
def um(x:PyData)(T:Tp):Option (W×Tp):=match x with
 |.list xs=>some (.d (.list xs),T)
 |.none=>some (.d .none,T)
 |_=>none
def iG(m:FnM)(g:FA):FE:=fun ρ T=>bnd (g ρ T) fun ws T1=>bnd (m ws T1) um
theorem rL{name:Str}{ps:List Str}{k:Nat}{m:FnM}{e:Expr}{es:List Expr}{g:FA}{p cpos:Pos}(F:Fn X.prog X.w X.K X.mg X.base name ps k (spO X.K ps.length m))(hr:Room k X.A)(hg:Gl X name)(ha:DA X (e::es) g)(hl:fO g ps.length)(hdb:(name == ("__debug__" : Str))=false:=by decide)
  (he:starEach (e::es) X.env=(false,eval e X.env)::starEach es X.env:=by exact a8 rfl) (hpl:(backTo cpos (starEach es X.env)).any (·.1)=false:=by exact bQ rfl):DE X (.Call (.Name name p) (e::es) [] cpos) (iG m g):=by
 refine⟨?_⟩;refine bj (iV F hr hg ha.pe hdb he hpl) fun σ H Q=>?_;rintro⟨O,ts,ρ,T,w,T',hc,re,e,q⟩;obtain⟨ws,T1,e1,e⟩:=aJ e;obtain⟨x,T2,e2,e⟩:=aJ e;refine⟨O,ts,ρ,T,ws,T1,hc,re,e1,fun vs H1 s1 hc1 r1=>?_⟩;refine⟨O,ts,T1,ws,_,_,hc1,by rw[List.append_nil];exact r1,hl _ _ _ _ e1,e2,fun A v H2 s2 hA hc2 ov=>?_⟩;have le:Le (fun b=>O b\/A b) H2 O H2:=fun b u n z=>⟨fun y=>n (.inl y),z⟩;have c2:HC X.K O ts H2 T2:=⟨hc1.own,fun b hb=>hc2.trk b (.inl hb),hc2.nd,hc2.len,fun j b ys q1 q2=>(hc2.tape j b ys q1 q2).mono (fun _ h=>h) le⟩
 cases x with
 |list xs=>
  cases e;obtain⟨a,rfl,hAA,us,k1,k2⟩:=ov;exact q _ _ (s1.trans s2) c2 (.lst (.inl ⟨(hA a ((hAA a).mpr rfl)).2,.inl k1⟩) (k2.mono le))
 |none=>
  cases e;obtain⟨rfl,hno⟩:=ov;exact q _ _ (s1.trans s2) c2 .non
 |_=>cases e
end
def E8(_ j:Int):Prop:=0<j/\j<18446744073709551616
def ia:PyData->PyData->Option PyData:=iop fun i j=>if 0<j/\j<18446744073709551616 then some (.int (i / j)) else none
theorem Eu{x y:Int}(h:y.natAbs<18446744073709551616):Builtin.divisionGoesByPylong x y=false:=by
 refine PyProof.noPylong_of_log2 ?_
 by_cases h0:y.natAbs=0
 .rw[h0];decide +kernel
 .have h30:y.natAbs.log2<64:=(Nat.log2_lt h0).mpr h
  omega
section
variable {X:Cx}
theorem Af:OpR X (binaryOp .FloorDiv) (rI E8 fun i j=>.int (i / j)):=opI fun i j _ _ _ _ _ hc q=>by
 have h1:(0:Int)<j:=hc.1;have h2:j<18446744073709551616:=hc.2;exact floordiv_int (by omega) (by rw[Int.fdiv_eq_ediv_of_nonneg i (by omega)];exact q) (.inl (Eu (by omega)))
theorem nX:OpD X (binaryOp .FloorDiv) ia:=⟨_,Af,lx fun i j d e=>by
 split at e
 .rename_i h;cases e;exact⟨h,fun _ _=>.int _⟩
 .cases e⟩
end
end D
namespace L2
open PySem PySem.Spec PyProof.Rows
section
variable {prog:Program}{w:World}{A:Around}{E:Value->Shared->Prop}{s:Shared}
end
section
variable {X:Cx}{e:Expr}{te:TE}{x y:Str}{p p' pos pos':Pos}
end
end L2
namespace D
open PySem PySem.Spec PyProof.Rows L2
def EC:PyData->Option PyData
 |.list xs=>some (.list xs.reverse)
 |_=>none
@[simp] theorem HJ{xs:List PyData}:EC (.list xs)=some (.list xs.reverse):=rfl
section
variable {X:Cx}{pos pos' p p':Pos}{e:Expr}{f:FE}
end
section
variable {X:Cx}{pos:Pos}
end
def dd:List Str->List Str
 |[]=>[]
 |a::r=>if a∈r then dd r else a::dd r
def uF(ρ:Rho)(w:W)(T:Tp):Option ((Fl×Rho)×Tp):=match w with
 |.d (.list xs)=>some ((.ro (.list xs),ρ),T)
 |_=>none
def oS(f:FE):FS:=fun ρ T=>bnd (f ρ T) (uF ρ)
section
variable {X:Cx}{pos:Pos}
theorem AB{x:Str}{scope osc:Scope}{N N':List Str}{elt iter:Expr}{ifs:List Expr}{px cpos:Pos}{it:FI}{c:FT}{f:FE}(S:CS osc N x scope N')(hi:DI X (.Name x px) iter it)
  (he:∀C s0 H0 ex,DE (bS X x scope C s0 H0 ex N') elt f) (ht:∀C s0 H0 ex,DTs (bS X x scope C s0 H0 ex N') ifs c) (hc:X.calm=true:=by rfl) (hs:X.env.scope=osc:=by rfl) (hN:X.N=N:=by rfl)
  (hf:∀v,foldedSetIterable iter X.env v=pure v:=by intro _;rfl):DS X (.Return (some (.ListComp elt [⟨.Name x px,iter,ifs,0⟩] scope cpos)) pos) (oS (bM it c f)):=by
 refine⟨?_⟩;refine cc (oN (sA (wi:=jX X.K it) (tt:=liftT X.K c) (te:=lift X.K f) S hi.pe (fun C s0 H0 ex=>(he C s0 H0 ex).pe) (fun C s0 H0 ex=>(ht C s0 H0 ex).pe) hc hs hN hf)) fun D σ H=>?_;rintro⟨O₀,H₀,F,ts,O,ρ,T,fl,ρ',T',rs,e,q⟩;obtain⟨w,T0,e0,e⟩:=aJ e;obtain⟨ds,T1,e1,e0⟩:=aJ e0;obtain⟨ys,T2,e2,e0⟩:=aJ e0;cases e0;have e':some ((Fl.ro (.list ys),ρ),T0)=some ((fl,ρ'),T'):=e;cases e';refine⟨O,ts,ρ,T,ds,T1,rs.hc,rs.re,e1,fun J H1 s1 hc1 ok hz=>?_⟩;refine oA hc1 (rs.re.mono rs.hc s1) ok hz e2 fun vs H' s2 hc2 r2 p hp=>?_;have rs1:=rs.step (s1.trans s2) hc2;have nO:=rs1.hc.fresh hp;have nt:p∉ts:=fun z=>nO (rs1.hc.own p z)
 have h0:H₀ p=none:=by
  cases z:H₀ p with
  |none=>rfl
  |some o=>rw[rs1.same p o nt z] at hp;cases hp
 have le:Le O H' (fun b=>O₀ b\/b=p) (upd H' p (.lst vs)):=fun b o n z=>by
  have nb:b≠p:=dt z hp;exact⟨fun y=>y.elim (fun y=>n (rs1.sub b y)) nb,by rw[aP nb];exact z⟩
 refine q (fun b=>b=p) (.ref p) _ (rs1.same.trans (.new hp _)) (fun b hb=>by rw[hb];exact⟨h0,fun z=>nO (rs1.sub p z)⟩) ⟨fun b hb=>.inl (rs1.ots b hb),fun b hb=>?_,rs1.hc.nd,rs1.hc.len,fun j b ys q1 q2=>?_⟩ ⟨p,rfl,fun c=>Iff.rfl,vs,bC,r2.mono le⟩
 .by_cases z:b=p
  .subst z;rw[bC];exact .inl ⟨_,rfl⟩
  .rw[aP z];exact rs1.hc.trk b (rs1.sub b (hb.resolve_right z))
 .exact(rs1.hc.tape j b ys q1 q2).mono (fun o h=>by rw[aP (dt h hp)];exact h) le
end
end D
namespace L2
open PySem PySem.Spec PyProof.Rows
section
variable {P:Program}{w:World}{A:Around}{E:Value->Shared->Prop}{s:Shared}
end
def keyV:Value->Str
 |.str k _=>k
 |_=>""
section
variable {P:Program}{w:World}{A:Around}{s:Shared}
end
section
variable {P:Program}{w:World}{A:Around}{E:Value->Shared->Prop}{s:Shared}
end
section
set_option maxHeartbeats 3200000
variable {P:Program}{w:World}{A:Around}{E:Value->Shared->Prop}{s:Shared}
end
section
set_option maxHeartbeats 3200000
variable {P:Program}{w:World}{A:Around}{E:Value->Shared->Prop}{s:Shared}
end
section
variable {P:Program}{w:World}{A:Around}{E:Value->Shared->Prop}{s:Shared}
end
section
variable {P:Program}{w:World}{A:Around}{E:Value->Shared->Prop}{s:Shared}
def TupAt(h:Heap)(q:Addr)(pl:Array Value):Prop:=∃o n,h.get? q=some o/\o.data=.seq pl n
end
section
variable {P:Program}{w:World}{A:Around}{E:Value->Shared->Prop}{s:Shared}
end
section
variable {P:Program}{w:World}{A:Around}{E:Value->Shared->Prop}{s:Shared}
end
end L2
namespace D
open PySem PySem.Spec PyProof.Rows L2
section
variable {X:Cx}
end
section
variable {P:Program}{w:World}{A:Around}{E:Value->Shared->Prop}{s:Shared}
open PySem.SeqAt in
open PySem.SeqAt in
end
section
variable {X:Cx}{pins:List (Addr×Obj)}{σ:L2.St}{H:Hp}{s:Shared}{O:Addr->Prop}{A:Around}
end
section
variable {P:Program}{w:World}{A:Around}{E:Value->Shared->Prop}{s:Shared}
end
section
variable {X:Cx}{pos:Pos}
end
section
variable {X:Cx}{pos:Pos}{e:Expr}{fe:FE}
theorem BA:MtM X "dict.pop" (fun x vs H Q=>∃(a:Addr) (kvs:List (Key×V)) (s:Str),x=.ref a/\vs=[.str s,.non]/\H a=some (.dK kvs)/\((∃v,bt kvs (Sum.inr s:Key)=some v/\Q v (upd H a (.dK (cL kvs (Sum.inr s:Key)))))\/(bt kvs (Sum.inr s:Key)=none/\Q .non H))):=by
 intro pins s σ H x vs v us Q I rx rv h;obtain⟨a,kvs,z,rfl,rfl,hA,h⟩:=h;cases rx;obtain⟨u,w,rfl,ru,rw'⟩:=vals2 rv
 rcases h with⟨y,hy,q⟩|⟨hy,q⟩
 .exact EU I hA (k:=Sum.inr z) ru hy (.inr ⟨_,rfl⟩) fun w' s' I' r'=>⟨_,_,I',r',q⟩
 .exact DL I hA (k:=Sum.inr z) ru hy fun s' I'=>⟨_,_,I',rw',q⟩
def pz(i:Nat)(ρ:Rho)(w:W)(T:Tp)(o:Option (Option W)):Option ((Fl×Rho)×Tp):=match w,o with
 |.d (.str s),some (some (.loc (.dict ds)))=>some ((.nx,ρ.set i (some (.loc (.dict (if (av ds s).isSome=true then cY ds s else ds))))),T)
 |_,_=>none
theorem z6{i:Nat}{ρ ρ':Rho}{w:W}{T T':Tp}{fl:Fl}{o:Option (Option W)}(h:pz i ρ w T o=some ((fl,ρ'),T')):∃s ds,w=.d (.str s)/\o=some (some (.loc (.dict ds)))/\((fl,ρ'),T')=((Fl.nx,ρ.set i (some (W.loc (.dict (if (av ds s).isSome=true then cY ds s else ds))))),T):=by
 unfold pz at h;split at h
 .exact⟨_,_,rfl,rfl,(Option.some.inj h).symm⟩
 .cases h
def pJ(i:Nat)(f:FE):FS:=fun ρ T=>bnd (f ρ T) fun w T1=>pz i ρ w T1 ρ[i]?
theorem BX{i:Nat}{x:Str}{p apos cpos kp:Pos}{j:_}(he:DE X e fe)(hN:X.N[i]? = some x:=by rfl)(hv:Vis X.env.scope x:=by first|exact Or.inl rfl|exact Or.inr (Or.inl rfl)|exact Or.inr (Or.inr rfl))(hd:(x == ("__debug__" : Str))=false:=by decide)
  (hcd:(x == ("__classdict__" : Str))=false:=by decide) (hbase:attributeBase (.Name x p) "pop" X.env (eval (.Name x p) X.env)=eval (.Name x p) X.env:=by rfl)
  (hfew:((backTo cpos (starEach [e,.Constant .none j kp] X.env)).all (fun x=>!x.1)&&(backToKw cpos (keywordEach [] X.env)).all (fun x=>x.1.isSome)
   && decide (([e,.Constant .none j kp]:List Expr).length+([]:List Keyword).length+(if ([]:List Keyword).isEmpty then 0 else 1)<30))=true:=by exact FM rfl rfl)
  (hline:(apos.endLine == cpos.line)=true:=by rfl) (hse:starEach [e,.Constant .none j kp] X.env=(false,eval e X.env)::starEach [.Constant .none j kp] X.env:=by exact a8 rfl) (hse2:starEach [.Constant .none j kp] X.env=(false,eval (.Constant .none j kp) X.env)::starEach [] X.env:=by exact a8 rfl) (hplain:(backTo cpos (starEach [.Constant .none j kp] X.env)).any (·.1)=false:=by exact bQ rfl)
  (hs:swapsWith (.Call (.Attribute (.Name x p) "pop" apos) [e,.Constant .none j kp] [] cpos) none pos.line X.env=pure false:=by rfl) :
  DS X (.Expr (.Call (.Attribute (.Name x p) "pop" apos) [e,.Constant .none j kp] [] cpos) pos) (pJ i fe):=by
 refine⟨?_⟩;refine cc (nR (jT PySem.F.plainAttrs_dict PySem.F.slot_dict_pop PySem.F.type_dict_pop BA (pv i hN hv hd hcd) (cT he.pe (cT uK dB hse2) hse) hbase hfew hline hse hplain) hs) fun D σ H=>?_;rintro⟨O₀,H₀,F,ts,O,ρ,T,fl,ρ',T',rs,e,q⟩;obtain⟨w,T1,e1,e⟩:=aJ e;obtain⟨s,ds,rfl,h2,e3⟩:=z6 e;cases e3;obtain⟨v',m1,b,rfl,m2,m3,kvs,m4,m5⟩:=rs.re i _ h2;refine⟨_,m1,.inr (.inr (.inl ⟨rfl,.inl ⟨kvs,m4⟩⟩)),O,ts,ρ,T,_,_,rs.hc,rs.re,e1,fun u H1 s1 hc1 r1=>?_⟩;cases (show Rep X.K O H1 u (.str s) from r1);have rs1:=rs.step s1 hc1;have m4':=s1 _ _ m3 m4;have m5':=m5.mono (rs.hc.le s1);refine⟨b,kvs,s,rfl,rfl,m4',?_⟩
 rcases gR (s:=s) m5' with⟨z1,z2⟩|⟨vy,dy,z1,z2,ry⟩
 .refine .inr ⟨z2,q O _ _ ?_⟩
  rw[z1,if_neg (by decide)]
  have e4:ρ.set i (some (W.loc (.dict ds)))=ρ:=by
   refine List.ext_getElem? fun j=>?_
   by_cases z:i=j
   .subst z
    rw[List.getElem?_set_self (List.getElem?_eq_some_iff.mp h2).1,h2]
   .rw[List.getElem?_set_ne z]
  rw[e4];exact rs1
 .refine .inl ⟨vy,z2,q O _ _ ?_⟩
  rw[z1,if_pos (show (some dy).isSome=true from rfl)];exact rs1.putO h2 m1 (o:=.dK (cL kvs (Sum.inr s:Key))) (ys:=.dict (cY ds s)) (.inr (.inl ⟨_,rfl⟩)) fun le=>⟨_,bC,sR (m5'.mono le)⟩
end
section
variable {K:Frag}{O₀:Addr->Prop}{H₀:Hp}{F:List ((Addr->Prop)×Hp)}{ts:List Addr}{O:Addr->Prop}{H H1:Hp}{σ:L2.St}{ρ:Rho}{T T1:Tp}
end
section
variable {X:Cx}{pos:Pos}
end
section
variable {X:Cx}{pos pos2 pos3:Pos}
end
inductive LnT(P:Hp->(Bool->Hp->Prop)->Prop):Hp->(Bool->Hp->Prop)->Prop where
 |done {H:Hp}{Q:Bool->Hp->Prop}:P H Q->LnT P H Q
 |frz {H:Hp}{Q:Bool->Hp->Prop}{a:Addr}{kvs:List (Key×V)}:H a=some (.dK kvs)->(∀o,LnT P (upd H a (.frz o (.dK kvs))) (fun b H2=>H2 a=some (.frz o (.dK kvs))/\Q b (upd H2 a (.dK kvs))))->LnT P H Q
section
variable {X:Cx}{pos pos2 pos3 pos4:Pos}
end
section
variable {X:Cx}{pos:Pos}
end
section
variable {X:Cx}
end
section
variable {X:Cx}{pos:Pos}
end
end D
namespace L2
open PySem PySem.Spec PyProof.Rows
section
variable {X:Cx}
def PE1(X:Cx)(e:Expr)(t:TE):Prop:=∀(pins:List (Addr×Obj)) (s:Shared) (σ:St) (H:Hp) (Q:VK),Inv X pins σ H s->1<=s.toks->t σ H Q->wpAny (model X.prog X.w) X.A (eval e X.env) (EP X pins σ Q) X.xe s
def PI1(X:Cx)(tg iter:Expr)(wi:TI):Prop:=
 ∀(pins:List (Addr×Obj)) (s:Shared) (σ:St) (H:Hp) (R:It->Hp->Prop),Inv X pins σ H s->1<=s.toks->wi σ H R ->
  wpAny (model X.prog X.w) X.A (eval iter X.env) (fun v s1=>wpAny (model X.prog X.w) X.A (pyIter v) (PIE X pins σ tg R) X.xe s1) X.xe s
def PS1(X:Cx)(st:Stmt)(t:TS):Prop:=∀(pins:List (Addr×Obj)) (s:Shared) (σ:St) (H:Hp) (D:Ends),Inv X pins σ H s->1<=s.toks->t D σ H->wpAny (model X.prog X.w) X.A (exec st X.env) (SP X pins D) X.xe s
def F0(X:Cx)(st:List Stmt)(t:TS):Prop:=∀(pins:List (Addr×Obj)) (s:Shared) (σ:St) (H:Hp) (D:Ends),Inv X pins σ H s->1<=s.toks->t D σ H->wpAny (model X.prog X.w) X.A (execs st X.env) (SP X pins D) X.xe s
def PT1(X:Cx)(e:Expr)(t:TT):Prop:=∀(pins:List (Addr×Obj)) (s:Shared) (σ:St) (H:Hp) (Q:Bool->Hp->Prop),Inv X pins σ H s->t σ H Q->wpAny (model X.prog X.w) X.A (isTrue e X.env (eval e X.env)) (fun b s'=>TP X pins σ Q b s'/\(b=false->1<=s'.toks)) X.xe s
end
end L2
namespace D
open PySem PySem.Spec PyProof.Rows L2
abbrev Stk:=List (List PyData)
abbrev FK:=Rho->Stk->Tp->Option ((Fl×Rho×Stk)×Tp)
def Fp(s:Stk):PyData:=.list (s.reverse.map .list)
def onK(i:Nat)(ρ:Rho)(s:Stk):Rho:=ρ.set i (some (.loc (Fp s)))
inductive StkAt(K:Frag)(O:Addr->Prop)(H:Hp):List Addr->Stk->Prop where
 |nil:StkAt K O H [] []
 |cons {b:Addr}{bs:List Addr}{vs:List V}{ys:List PyData}{s:Stk}:H b=some (.lst vs)->Reps K O H vs ys->StkAt K O H bs s->StkAt K O H (b::bs) (ys::s)
structure KS(K:Frag)(O₀:Addr->Prop)(H₀:Hp)(ts:List Addr)(O:Addr->Prop)(H:Hp)(σ:L2.St)(i:Nat)(a:Addr)(bs:List Addr)(s:Stk):Prop where
 sa:σ[i]? = some (some (.ref a))
 ha:H a=some (.lst (bs.reverse.map V.ref))
 nd:(a::bs).Nodup
 ow:∀b∈a::bs,O b/\b∉ts/\H₀ b=none/\¬O₀ b
 st:StkAt K O H bs s
structure RK(K:Frag)(O₀:Addr->Prop)(H₀:Hp)(F:List ((Addr->Prop)×Hp))(ts:List Addr)(O:Addr->Prop)(H:Hp)(σ:L2.St)(ρ:Rho)(T:Tp)(i:Nat)(s:Stk):Prop where
 rs:RS K O₀ H₀ F ts O H σ ρ T
 pd:∀(j:Nat) (w:W),ρ[j]? = some (some w)->∃x,w=.d x
 ui:ρ[i]? = some none
 ks:∃a bs,KS K O₀ H₀ ts O H σ i a bs s
def E6(K:Frag)(O₀:Addr->Prop)(H₀:Hp)(F:List ((Addr->Prop)×Hp))(ts:List Addr)(i:Nat)(D:Ends)(ρ':Rho)(s':Stk)(T':Tp):Fl->Prop
 |.nx=>∀O' σ' H',RK K O₀ H₀ F ts O' H' σ' ρ' T' i s'->D.nx σ' H'
 |.bk=>∀O' σ' H',RK K O₀ H₀ F ts O' H' σ' ρ' T' i s'->D.bk σ' H'
 |.ct=>∀O' σ' H',RK K O₀ H₀ F ts O' H' σ' ρ' T' i s'->D.ct σ' H'
 |.rt x=>∀v H',SameX ts H₀ H'->HC K O₀ ts H' T'->Rep K O₀ H' v x->D.rt v H'
 |.ro _=>False
inductive LiftKP(K:Frag)(i:Nat)(f:FK)(D:Ends)(σ:L2.St)(H:Hp):Prop where
 |mk (O₀:Addr->Prop) (H₀:Hp) (F:List ((Addr->Prop)×Hp)) (ts:List Addr) (O:Addr->Prop) (ρ:Rho) (s:Stk) (T:Tp) (fl:Fl) (ρ':Rho) (s':Stk) (T':Tp) (rk:RK K O₀ H₀ F ts O H σ ρ T i s) (e:f ρ s T=some ((fl,ρ',s'),T')) (q:E6 K O₀ H₀ F ts i D ρ' s' T' fl):LiftKP K i f D σ H
structure DK(X:Cx)(i:Nat)(s:Stmt)(f:FK):Prop where
 pe:PS X s (LiftKP X.K i f)
structure DKs(X:Cx)(i:Nat)(s:List Stmt)(f:FK):Prop where
 pe:PSs X s (LiftKP X.K i f)
section
variable {K:Frag}{O₀:Addr->Prop}{H₀:Hp}{F:List ((Addr->Prop)×Hp)}{ts:List Addr}{O:Addr->Prop}{H H1:Hp}{σ:L2.St}{ρ:Rho}{T T1:Tp}{i:Nat}{s:Stk}
end
def EH:FK:=fun ρ s T=>some ((.nx,ρ,s),T)
def l9(g:FK)(p:Fl×Rho×Stk)(T:Tp):Option ((Fl×Rho×Stk)×Tp):=match p with
 |(.nx,ρ1,s1)=>g ρ1 s1 T
 |(fl,ρ1,s1)=>some ((fl,ρ1,s1),T)
def Fx(f g:FK):FK:=fun ρ s T=>bnd (f ρ s T) (l9 g)
def pG(j:Nat)(ρ:Rho)(s:Stk)(w:W)(T:Tp):Option ((Fl×Rho×Stk)×Tp):=match w with
 |.d x=>some ((.nx,ρ.set j (some (.d x)),s),T)
 |_=>none
def Fw(j:Nat)(f:FE):FK:=fun ρ s T=>bnd (f ρ T) (pG j ρ s)
def pU(f g:FK)(ρ:Rho)(s:Stk)(T:Tp)(b:Bool)(_:Tp):Option ((Fl×Rho×Stk)×Tp):=if b=true then f ρ s T else g ρ s T
def kIf(i:Nat)(c:FT)(f g:FK):FK:=fun ρ s T=>bnd (c (onK i ρ s) []) (pU f g ρ s T)
def pH(ρ:Rho)(s:Stk)(w:W)(T:Tp):Option ((Fl×Rho×Stk)×Tp):=match w with
 |.d x=>some ((.rt x,ρ,s),T)
 |_=>none
def Fy(f:FE):FK:=fun ρ s T=>bnd (f (bO ρ) T) (pH ρ s)
def EG:FK:=fun ρ s T=>if s.length<100000 then some ((.nx,ρ,[]::s),T) else none
def pI(ρ:Rho)(s:Stk)(k w:W)(T:Tp):Option ((Fl×Rho×Stk)×Tp):=match k,w,s with
 |.d (.int n),.d x,ys::r=>if n = -1/\ys.length<100000 then some ((.nx,ρ,(ys++[x])::r),T) else none
 |_,_,_=>none
def FC(fk fe:FE):FK:=fun ρ s T=>bnd (fk ρ T) fun k T1=>bnd (fe ρ T1) (pI ρ s k)
def FB(j:Nat):FK:=fun ρ s T=>match s with
 |ys::r=>some ((.nx,ρ.set j (some (.d (.tuple ys))),r),T)
 |[]=>none
section
variable {X:Cx}{pos:Pos}{st:Stmt}{rest:List Stmt}{f g:FK}{e:Expr}{fe:FE}{c:FT}{i:Nat}
end
section
variable {ρ:Rho}{s:Stk}{T:Tp}{f g:FK}{fe fk:FE}{c:FT}{i j:Nat}
@[simp] theorem GL:EH ρ s T=some ((.nx,ρ,s),T):=rfl
@[simp] theorem HR:Fx f g ρ s T=bnd (f ρ s T) (l9 g):=rfl
@[simp] theorem GI:l9 g (.nx,ρ,s) T=g ρ s T:=rfl
@[simp] theorem GH{x:PyData}:l9 g (.rt x,ρ,s) T=some ((.rt x,ρ,s),T):=rfl
@[simp] theorem HQ:Fw j fe ρ s T=bnd (fe ρ T) (pG j ρ s):=rfl
@[simp] theorem GF{x:PyData}:pG j ρ s (.d x) T=some ((.nx,ρ.set j (some (.d x)),s),T):=rfl
@[simp] theorem Jy:kIf i c f g ρ s T=bnd (c (onK i ρ s) []) (pU f g ρ s T):=rfl
@[simp] theorem HV{b:Bool}{T':Tp}:pU f g ρ s T b T'=if b=true then f ρ s T else g ρ s T:=rfl
@[simp] theorem HS:Fy fe ρ s T=bnd (fe (bO ρ) T) (pH ρ s):=rfl
@[simp] theorem GJ{x:PyData}:pH ρ s (.d x) T=some ((.rt x,ρ,s),T):=rfl
@[simp] theorem GK:EG ρ s T=if s.length<100000 then some ((.nx,ρ,[]::s),T) else none:=rfl
@[simp] theorem HW:FC fk fe ρ s T=bnd (fk ρ T) fun k T1=>bnd (fe ρ T1) (pI ρ s k):=rfl
@[simp] theorem GM{n:Int}{x:PyData}{ys:List PyData}:pI ρ (ys::s) (.d (.int n)) (.d x) T=if n = -1/\ys.length<100000 then some ((.nx,ρ,(ys++[x])::s),T) else none:=rfl
@[simp] theorem HU{ys:List PyData}:FB j ρ (ys::s) T=some ((.nx,ρ.set j (some (.d (.tuple ys))),s),T):=rfl
end
structure DE1(X:Cx)(e:Expr)(f:FE):Prop where
 pe:PE1 X e (lift X.K f)
structure DI1(X:Cx)(tg e:Expr)(f:FI):Prop where
 pe:PI1 X tg e (jX X.K f)
structure DT1(X:Cx)(e:Expr)(f:FT):Prop where
 pe:PT1 X e (liftT X.K f)
structure DK1(X:Cx)(i:Nat)(s:Stmt)(f:FK):Prop where
 pe:PS1 X s (LiftKP X.K i f)
structure DKs1(X:Cx)(i:Nat)(s:List Stmt)(f:FK):Prop where
 pe:F0 X s (LiftKP X.K i f)
section
variable {X:Cx}
variable {i:Nat}{f g:FK}
end
end D
namespace XE
open PySem PySem.Spec PyProof.Rows L2 D
end XE
namespace D
open PySem PySem.Spec PyProof.Rows L2
section
variable {X:Cx}{pos:Pos}
end
section
variable {X:Cx}{e:Expr}{fe:FE}
end
section
variable {X:Cx}{pos:Pos}
end
section
variable {X:Cx}
end
open PySem.W (KasT kas_sort kas_asc kas_desc kas_rev kas_tail3 kas_descPart kas_count kas_place kas_bin)
def iX{α:Type}(c:Nat->Nat->Bool):KasT α->α
 |.ret a=>a
 |.ask i j k=>iX c (k (c i j))
def KasAll{α:Type}(n:Nat)(P:α->Prop):KasT α->Prop
 |.ret a=>P a
 |.ask i j k=>(i<n/\j<n/\i≠j)/\∀b,KasAll n P (k b)
theorem KasAll.bind{α β:Type}{n:Nat}{P:α->Prop}{R:β->Prop}{f:α->KasT β}:∀{t:KasT α},KasAll n P t->(∀a,P a->KasAll n R (f a))->KasAll n R (t.bind f)
 |.ret a,h,hf=>hf a h
 |.ask i j k,h,hf=>⟨h.1,fun b=>KasAll.bind (h.2 b) hf⟩
theorem KasAll.mono'{α:Type}{n:Nat}{P R:α->Prop}(hp:∀a,P a->R a):∀{t:KasT α},KasAll n P t->KasAll n R t
 |.ret a,h=>hp a h
 |.ask i j k,h=>⟨h.1,fun b=>KasAll.mono' hp (h.2 b)⟩
theorem sI{α:Type}{n:Nat}{P:α->Prop}{cmp:Nat->Nat->(Bool->Shared->Prop)->Shared->Prop}{c:Nat->Nat->Bool}{G:α->Shared->Prop}{s:Shared}(hc:∀i j C,i<n->j<n->i≠j->C (c i j) s->cmp i j C s):∀{t:KasT α},KasAll n P t->G (iX c t) s->t.kasWp cmp G s
 |.ret a,_,g=>g
 |.ask i j k,h,g=>hc i j _ h.1.1 h.1.2.1 h.1.2.2 (sI hc (h.2 (c i j)) g)
def LoA(n:Nat)(p:Array Nat):Prop:=p.Perm (List.range n).toArray
theorem LoA.size{n:Nat}{p:Array Nat}(h:LoA n p):p.size=n:=by
 have:=h.size_eq;simpa using this
theorem LoA.lt{n:Nat}{p:Array Nat}(h:LoA n p){i:Nat}(hi:i<n):p.getD i 0<n:=by
 have hs:i<p.size:=by rw[h.size];exact hi
 have:p.getD i 0=p[i]:=by simp[Array.getD,hs]
 rw[this];have:=h.mem_iff.mp (Array.getElem_mem hs);simpa using this
theorem LoA.ne{n:Nat}{p:Array Nat}(h:LoA n p){i j:Nat}(hi:i<n)(hj:j<n)(hne:i≠j):p.getD i 0≠p.getD j 0:=by
 have hs:i<p.size:=by rw[h.size];exact hi
 have ht:j<p.size:=by rw[h.size];exact hj
 have e1:p.getD i 0=p[i]:=by simp[Array.getD,hs]
 have e2:p.getD j 0=p[j]:=by simp[Array.getD,ht]
 rw[e1,e2];have nd:p.toList.Nodup:=(Array.perm_iff_toList_perm.mp h).nodup_iff.mpr (by simpa using List.nodup_range);have pw:=List.pairwise_iff_getElem.mp nd
 rcases Nat.lt_or_gt_of_ne hne with q|q
 .have:=pw i j (by simpa using hs) (by simpa using ht) q
  simpa using this
 .have:=pw j i (by simpa using ht) (by simpa using hs) q
  exact fun z=>this (by simpa using z.symm)
theorem LoA.ask{n:Nat}{p:Array Nat}(h:LoA n p){i j:Nat}(hi:i<n)(hj:j<n)(hne:i≠j):p.getD i 0<n/\p.getD j 0<n/\p.getD i 0≠p.getD j 0:=⟨h.lt hi,h.lt hj,h.ne hi hj hne⟩
theorem LoA.perm{n:Nat}{p q:Array Nat}(h:LoA n p)(e:q.Perm p):LoA n q:=e.trans h
theorem LoA.rev{n:Nat}{p:Array Nat}(h:LoA n p)(i j:Nat):LoA n (kas_rev p i j):=h.perm (mirror_perm _ _ _ _)
theorem oE{n:Nat}{p:Array Nat}(h:LoA n p):∀(f k:Nat),1<=k->k+f<=n->KasAll n (fun m=>k<=m/\m<=n) (kas_asc p f k)
 |0,k,_,h2=>⟨Nat.le_refl _,by omega⟩
 |f+1,k,h1,h2=>⟨h.ask (by omega) (by omega) (by omega),fun b=>by
  cases b with
  |true=>exact⟨Nat.le_refl _,by omega⟩
  |false=>exact KasAll.mono' (fun m hm=>⟨by omega,hm.2⟩) (oE h f (k+1) (by omega) (by omega))⟩
theorem mT{n:Nat}{p:Array Nat}(h:LoA n p){k:Nat}(hk:k<n):∀(f l r:Nat),r<=k->KasAll n (fun _=>True) (kas_place p k f l r)
 |0,l,r,_=>trivial
 |f+1,l,r,hr=>by
  unfold kas_place;split
  .exact trivial
  .exact⟨h.ask hk (by omega) (by omega),fun b=>by
    cases b with
    |true=>exact mT h hk f l _ (by omega)
    |false=>exact mT h hk f _ r hr⟩
theorem kP{n:Nat}:∀(f:Nat) (p:Array Nat) (k q:Nat),LoA n p->1<=k->k+f<=n->KasAll n (fun r:Array Nat×Nat×Nat=>LoA n r.1/\1<=r.2.1/\r.2.1<=n) (kas_desc f p k q)
 |0,p,k,q,h,h1,h2=>⟨h,h1,by show k<=n;omega⟩
 |f+1,p,k,q,h,h1,h2=>⟨h.ask (by omega) (by omega) (by omega),fun b=>by
  cases b with
  |true=>
   show KasAll n _ (if q>0 then _ else _);split
   .exact kP f _ _ _ (h.rev _ _) (by omega) (by omega)
   .exact kP f _ _ _ h (by omega) (by omega)
  |false=>exact⟨h.ask (by omega) (by omega) (by omega),fun d=>by
    cases d with
    |true=>exact⟨h,h1,by show k<=n;omega⟩
    |false=>exact kP f _ _ _ h (by omega) (by omega)⟩⟩
theorem qX{n:Nat}{p:Array Nat}(h:LoA n p){a:Nat}(h1:1<=a)(h2:a<=n):KasAll n (fun r:Nat×Array Nat=>LoA n r.2) (kas_tail3 a n p):=(oE (h.rev 0 a) (n-a) a h1 (by omega)).bind fun _ _=>h.rev 0 a
theorem qh{n:Nat}{p:Array Nat}(h:LoA n p){a:Nat}(h2:a<n):KasAll n (fun r:Nat×Array Nat=>LoA n r.2) (kas_descPart a n p):=
 (kP (n-(a+1)) p (a+1) 0 h (by omega) (by omega)).bind fun r hr=>by
  split
  .exact qX (hr.1.rev _ _) hr.2.1 hr.2.2
  .exact qX hr.1 hr.2.1 hr.2.2
theorem zD{n:Nat}{p:Array Nat}(h:LoA n p)(hn:1<=n):KasAll n (fun r:Nat×Array Nat=>LoA n r.2) (kas_count n p):=
 (oE h (n-1) 1 (by omega) (by omega)).bind fun a ha=>by
  split
  .exact h
  .rename_i hne
   have hlt:a<n:=by
    have:a≠n:=fun z=>hne (by simp[z]);have:=ha.2;omega
   split
   .exact⟨h.ask (by omega) (by omega) (by omega),fun c=>by
     cases c with
     |true=>exact h
     |false=>exact qh (h.rev _ _) hlt⟩
   .exact qh h hlt
theorem uo{n:Nat}:∀(f:Nat) (p:Array Nat) (k:Nat),LoA n p->k+f<=n->KasAll n (LoA n) (kas_bin f p k)
 |0,p,k,h,_=>h
 |f+1,p,k,h,hk=>(mT h (by omega) k 0 k (Nat.le_refl _)).bind fun l _=>uo f _ _ (h.perm (bubble_perm _ _ _)) (by omega)
theorem ny{n:Nat}(h:1<=n):KasAll n (LoA n) (kas_sort n):=
 (zD (p:=List.toArray (List.range n)) (Array.Perm.refl _) h).bind fun r hr=>by
  split
  .exact uo _ _ _ hr (by omega)
  .exact hr
def g7(n:Nat)(c:Nat->Nat->Bool):List Nat:=(iX c (kas_sort n)).toList
open PySem.W (KasT kas_sort KatTups kat_kind kat_lt kat_cons kat_no kat_run kat_snds Looks)
structure KyAt(h:Heap)(v:Value)(k:Str):Prop where
 ex:∃x o t u m,v=.ref x/\h.get? x=some o/\o.cls=.type "tuple"/\o.data=.seq #[.str k t,u] m
inductive KysAt(h:Heap):List Value->List Str->Prop where
 |nil:KysAt h [] []
 |cons {v:Value}{k:Str}{vs:List Value}{ks:List Str}:KyAt h v k->KysAt h vs ks->KysAt h (v::vs) (k::ks)
theorem KysAt.len{h:Heap}{vs:List Value}{ks:List Str}(t:KysAt h vs ks):vs.length=ks.length:=by
 induction t with
 |nil=>rfl
 |cons _ _ ih=>simp[ih]
theorem KysAt.get{h:Heap}{vs:List Value}{ks:List Str}(t:KysAt h vs ks):∀{i:Nat},i<vs.length->∃k,ks[i]? = some k/\KyAt h (vs.getD i Value.none) k:=by
 induction t with
 |nil=>intro i hi;simp at hi
 |@cons v k vs ks hv _ ih=>
  intro i hi
  cases i with
  |zero=>exact⟨k,rfl,hv⟩
  |succ i=>
   obtain⟨k',e,q⟩:=ih (i:=i) (by simpa using hi);exact⟨k',by simpa using e,by simpa using q⟩
theorem KysAt.keep{h h':Heap}{vs:List Value}{ks:List Str}(t:KysAt h vs ks)(kp:∀b o,h.get? b=some o->o.cls=.type "tuple"->h'.get? b=some o):KysAt h' vs ks:=by
 induction t with
 |nil=>exact .nil
 |cons hv _ ih=>
  obtain⟨x,o,t,u,m,e,e1,e2,e3⟩:=hv.ex;exact .cons ⟨x,o,t,u,m,e,kp x o e1 e2,e2,e3⟩ ih
theorem KysAt.kat{h:Heap}{vs:List Value}{ks:List Str}(t:KysAt h vs ks):∃fs:List Value,KatTups h vs fs/\fs.length=vs.length/\∀f∈fs,∃k t,f=.str k t:=by
 induction t with
 |nil=>exact⟨[],.nil,rfl,fun f hf=>by cases hf⟩
 |cons hv _ ih=>
  obtain⟨fs,q1,q2,q3⟩:=ih;obtain⟨x,o,t,u,m,e,e1,e2,e3⟩:=hv.ex;subst e;exact⟨.str _ t::fs,.cons e1 e2 e3 rfl q1,by simp[q2],fun f hf=>(List.mem_cons.mp hf).elim (fun z=>⟨_,_,z⟩) (q3 f)⟩
def gf(ks:List Str)(i j:Nat):Bool:=decide ((ks.getD i "").cps.toList<(ks.getD j "").cps.toList)
section
variable {prog:Program}{w:World}{A:Around}{E:Value->Shared->Prop}{s:Shared}
theorem B9{vs:List Value}{ks:List Str}(t:KysAt s.heap vs ks)(nd:ks.Nodup){i j:Nat}{C:Bool->Shared->Prop}(hi:i<vs.length)(hj:j<vs.length)(hne:i≠j)(h:C (gf ks i j) s):W.kas_ask prog w A (tuples' true) vs i j C s:=by
 obtain⟨k,ek,tk⟩:=t.get hi;obtain⟨l,el,tl⟩:=t.get hj;obtain⟨x,o,t1,u,m,e,e1,e2,e3⟩:=tk.ex;obtain⟨y,o',t2,u',m',f,f1,f2,f3⟩:=tl.ex
 have kl:k≠l:=fun z=>hne (by
  have hi':i<ks.length:=by rw[←t.len];exact hi
  have hj':j<ks.length:=by rw[←t.len];exact hj
  have a1:ks[i]=k:=by rw[List.getElem?_eq_getElem hi'] at ek;simpa using ek
  have a2:ks[j]=l:=by rw[List.getElem?_eq_getElem hj'] at el;simpa using el
  have pw:=List.pairwise_iff_getElem.mp nd
  rcases Nat.lt_or_gt_of_ne hne with q|q
  .exact absurd (by rw[a1,a2,z]) (pw i j hi' hj' q)
  .exact absurd (by rw[a1,a2,z]) (pw j i hj' hi' q))
 unfold W.kas_ask;rw[e,f];refine kat_lt e1 e3 f1 f3 ?_;refine kat_cons (SeqAt.EqAt.str_str k t1 l t2 prog w _ _ ?_)
 have:(k == l)=false:=by simpa using kl
 rw[this];refine kat_no ?_;refine oneLt_str ?_;unfold gf at h;simp only[List.getD_eq_getElem?_getD,ek,el,Option.getD_some] at h;exact h
def iK(vs:List Value)(ks:List Str):List Value:=if vs.length<2 then vs else (g7 vs.length (gf ks)).map fun i=>vs.getD i Value.none
theorem zM{a:Addr}{vs:List Value}{ks:List Str}{n:Nat}{P:PySem.Fin->Shared->Prop}(ho:s.heap.get? a=some (seqObj "list" vs.toArray n))(t:KysAt s.heap vs ks)(nd:ks.Nodup)(h64:vs.length<64)
  (h:P (.done (.ret .none)) { s with heap:=sortedHeap s.heap a vs (iK vs ks).toArray }):wpAny (model prog w) A (Builtin.«list.sort» ⟨[.ref a],[]⟩) P E s:=by
 have ha:a<s.heap.objs.size:=Heap.lt_size ho;obtain⟨e1,ho1⟩:∃e1,(s.heap.update a (Obj.mapSeq fun _=>(#[]:Array Value))).get? a=some (seqObj "list" #[] e1):=⟨_,get?_update_seq ho fun _=>#[]⟩;have ho6:(((s.heap.update a (Obj.mapSeq fun _=>#[])).push (seqObj "tuple" vs.toArray 0)).push (seqObj "list" #[] 0)).get? a=some (seqObj "list" #[] e1):=Heap.get?_push_of_some _ (Heap.get?_push_of_some _ ho1)
 have t6:KysAt (((s.heap.update a (Obj.mapSeq fun _=>#[])).push (seqObj "tuple" vs.toArray 0)).push (seqObj "list" #[] 0)) vs ks:=t.keep fun b o hb hc=>by
  have hba:b≠a:=fun z=>by
   subst z;rw[ho] at hb;cases hb;exact absurd (show Value.type "list"=Value.type "tuple" from hc) (by decide)
  exact Heap.get?_push_of_some _ (Heap.get?_push_of_some _ (by rw[Heap.get?_update_ne _ _ _ _ hba];exact hb))
 rw[list_sort_plain];refine wpAny_bind (listItems_at ho rfl ?_);refine wpAny_bind (listUpdate_at ho rfl ?_ (by rw[List.size_toArray,sizeLine_eq];omega) (Nat.zero_le _));refine wpAny_bind (seqEpoch_at ho1 rfl ?_);refine wpAny_bind (wpAny_newTuple ?_ (by show vs.length<=_;rw[sizeLine_eq];omega));refine wpAny_bind (wpAny_newList ?_ (Nat.zero_le _));refine wpAny_holding ?_;show wpAny (model prog w) A _ P E { s with heap:=((s.heap.update a (Obj.mapSeq fun _=>#[])).push (seqObj "tuple" vs.toArray 0)).push (seqObj "list" #[] 0) };dsimp only;unfold iK at h
 by_cases h2:vs.length<2
 .have h2':vs.toArray.size<2:=by simpa using h2
  rw[if_pos h2',if_pos h2'];rw[if_pos h2] at h;refine wpAny_bind (wpAny_pure ?_);rw[StateT.run_pure];refine wpAny_bind (wpAny_pure ?_);dsimp only;refine wpAny_bind (seqEpoch_at ho6 rfl ?_)
  have hz:Array.map (fun x=>x.2) (arrOf (SortSt.mk' general' (vs.toArray.zip vs.toArray) #[] 7 none))=vs.toArray:=by
   show Array.map (fun x=>x.2) (vs.toArray.zip vs.toArray)=_;apply Array.toList_inj.mp;simp[List.map_snd_zip]
  refine wpAny_bind (listUpdate_at ho6 rfl ?_ (Nat.zero_le _) (by rw[Array.size_map];show (pairsOf vs).size<=_;rw[pairsOf_size,sizeLine_eq];omega));simp only[bne_self_eq_false,Bool.false_eq_true,if_false]
  exact wpAny_pure (by
   rw[←hz] at h
   exact h)
 .have h2':¬vs.toArray.size<2:=by simpa using h2
  rw[if_neg h2',if_neg h2'];rw[if_neg h2] at h
  obtain⟨fs,q1,q2,q3⟩:=t6.kat
  refine wpAny_bind (kat_kind (T:=.type "str") q1 (by omega) (fun v hv=>by
   obtain⟨k,t,rfl⟩:=q3 v hv
   exact fun A Q E s _ q=>wpAny_pure q) rfl ?_)
  have all:=ny (n:=vs.length) (by omega);have ask:=sI (P:=LoA vs.length) (cmp:=W.kas_ask prog w A (tuples' true) vs) (c:=gf ks) (s:={ s with heap:=((s.heap.update a (Obj.mapSeq fun _=>#[])).push (seqObj "tuple" vs.toArray 0)).push (seqObj "list" #[] 0) }) (G:=fun p s'=>p=iX (gf ks) (kas_sort vs.length)/\s' = { s with heap:=((s.heap.update a (Obj.mapSeq fun _=>#[])).push (seqObj "tuple" vs.toArray 0)).push (seqObj "list" #[] 0) }) (fun i j C hi hj hne hC=>B9 t6 nd hi hj hne hC) all ⟨rfl,rfl⟩;refine wpAny_bind (wpAny_mono (kat_run (Q:=fun st' s'=>∃p:Array Nat,p.size=vs.length/\arrOf st'=p.map (W.kas_item (vs.toArray.zip vs.toArray))/\failedOf st'=none/\p=iX (gf ks) (kas_sort vs.length)/\s' = { s with heap:=((s.heap.update a (Obj.mapSeq fun _=>#[])).push (seqObj "tuple" vs.toArray 0)).push (seqObj "list" #[] 0) }) rfl (by omega) h64 (fun p' st' s' a1 a2 a3 a4=>⟨p',a1,a2,a3,a4.1,a4.2⟩) ask) ?_ fun _ _ e=>e);rintro⟨⟨⟩,st'⟩ s' ⟨p,hp,har,hf,hpe,rfl⟩;dsimp only;have hout:=kat_snds rfl har;rw[hout];refine wpAny_bind (seqEpoch_at ho6 rfl ?_);refine wpAny_bind (listUpdate_at ho6 rfl ?_ (Nat.zero_le _) (by rw[List.size_toArray,List.length_map,Array.length_toList,hp,sizeLine_eq];omega));rw[hf];simp only[bne_self_eq_false,Bool.false_eq_true,if_false];refine wpAny_pure ?_;unfold g7 at h;rw[←hpe] at h;exact h
end
open PySem.W (KdxG kdx_collect)
section
variable {prog:Program}{w:World}{K:Type}[DecidableEq K]{knd:PySem.KeyKind prog w K}{A:Around}{E:Value->Shared->Prop}{s:Shared}{kvs:List (K×Value)}{ep:Nat}{r d:Addr}
theorem Dm{h:Heap}{lo:Addr}(rest:List (K×Value)):∀{as:List Addr}{ks:List Str},as.length=rest.length->ks.length=rest.length->(∀(j:Nat) (a:Addr),as[j]? = some a->∃key k x,rest[j]? = some (k,x)/\knd.is k key=true/\h.get? a=some { cls:=.type "tuple",data:=.seq #[key,x] })->(∀(j:Nat) (k:K) (x key:Value),rest[j]? = some (k,x)->knd.is k key=true->∃y t,ks[j]? = some y/\key=.str y t)->KysAt h (as.map Value.ref) ks:=by
 induction rest with
 |nil=>
  intro as ks h1 h2 _ _;have e1:as=[]:=List.length_eq_zero_iff.mp h1;have e2:ks=[]:=List.length_eq_zero_iff.mp h2;subst e1;subst e2;exact .nil
 |cons q rest ih=>
  intro as ks h1 h2 hp hk
  match as,ks,h1,h2 with
  |a::as,y::ks,h1,h2=>
   obtain⟨key,k,x,e1,e2,e3⟩:=hp 0 a rfl;obtain⟨y',t,e4,rfl⟩:=hk 0 k x key e1 e2
   have:y=y':=by simpa using e4
   subst this;refine .cons ⟨a,_,t,x,_,rfl,e3,rfl,rfl⟩ (ih (by simpa using h1) (by simpa using h2) (fun j b hb=>?_) fun j k x key e f=>?_)
   .obtain⟨key,k,x,g1,g2,g3⟩:=hp (j+1) b (by simpa using hb)
    exact⟨key,k,x,by simpa using g1,g2,g3⟩
   .obtain⟨y',t,g1,g2⟩:=hk (j+1) k x key (by simpa using e) f
    exact⟨y',t,by simpa using g1,g2⟩
theorem xQ{ks:List Str}{Q:Value->Shared->Prop}(hh:A.handled=none)(hv:s.heap.IsItemsView r d)(hm:s.heap.DictAt knd d kvs ep)(hl:ks.length=kvs.length)(hk:∀(j:Nat) (k:K) (x key:Value),kvs[j]? = some (k,x)->knd.is k key=true->∃y t,ks[j]? = some y/\key=.str y t)(nd:ks.Nodup)(h64:kvs.length<64)
  (h:∀(h':Heap) (tk:Nat) (as:List Addr) (L:Addr) (e:Nat),(∀b o,s.heap.get? b=some o->h'.get? b=some o)->s.heap.get? L=none->as.length=kvs.length->KdxG knd kvs s.heap.objs.size h' as->(∀a∈as,a<L)->h'.get? L=some (seqObj "list" (iK (as.map Value.ref) ks).toArray e)->Q (.ref L) { s with heap:=h',toks:=tk }) :
  wpAny (model prog w) A (call (.builtin "sorted") [.ref r]) Q E s:=by
 refine Calls.call_function_entry kind_sorted plain_sorted entry_sorted (args_sorted1 _) ?_;unfold Builtin.«sorted»;refine wpAny_bind (m:=checkCount "sorted" 1 1 _) (wpAny_pure ?_);refine wpAny_bind (kdx_collect (knd:=knd) (kvs:=kvs) (ep:=ep) (by exact hh) hv hm (by rw[sizeLine_eq];omega) fun h' tk as k1 k2 k3=>?_);refine wpAny_bind (wpAny_newList ?_ (by rw[List.length_map,k2,sizeLine_eq];omega));have hoL:(h'.push (seqObj "list" (as.map Value.ref).toArray 0)).get? h'.objs.size=some (seqObj "list" (as.map Value.ref).toArray 0):=Heap.get?_push_size _ rfl
 have ky:KysAt (h'.push (seqObj "list" (as.map Value.ref).toArray 0)) (as.map Value.ref) ks:=Dm (knd:=knd) (lo:=0) kvs k2 hl (fun j a ha=>by
  obtain⟨key,k,x,e1,e2,e3⟩:=k3.pairs j a ha
  exact⟨key,k,x,e1,e2,Heap.get?_push_of_some _ e3⟩) hk
 refine wpAny_bind (wpAny_holding (wpAny_call_entry slot_list_sort ⟨_,hoL,rfl⟩ entry_list_sort (zM (s:={ s with heap:=h'.push (seqObj "list" (as.map Value.ref).toArray 0),toks:=tk }) hoL ky nd (by rw[List.length_map,k2];exact h64) ⟨_,rfl,?_⟩) (args_list_sort _)));refine wpAny_pure ⟨_,rfl,?_⟩;obtain⟨e,he⟩:=sortedHeap_at (out:=(iK (as.map Value.ref) ks).toArray) hoL
 have keep:∀b o,h'.get? b=some o->(sortedHeap (h'.push (seqObj "list" (as.map Value.ref).toArray 0)) h'.objs.size (as.map Value.ref) (iK (as.map Value.ref) ks).toArray).get? b=some o:=fun b o q=>by
  have lt:=Heap.lt_size q;rw[sortedHeap_old (Nat.ne_of_lt lt) (by rw[size_push'];exact Nat.lt_succ_of_lt lt)];exact Heap.get?_push_of_some _ q
 have hsz:s.heap.get? h'.objs.size=none:=by
  cases q:s.heap.get? h'.objs.size with
  |none=>rfl
  |some o=>exact absurd (Heap.lt_size (k1 _ o q)) (Nat.lt_irrefl _)
 exact h _ tk as h'.objs.size e (fun b o q=>keep b o (k1 b o q)) hsz k2 ⟨k3.rise,k3.above,fun j a ha=>by
  obtain⟨key,k,x,e1,e2,e3⟩:=k3.pairs j a ha
  exact⟨key,k,x,e1,e2,keep a _ e3⟩⟩ (fun a ha=>k3.there ha) he
end
section
variable {X:Cx}{pos:Pos}
def Cu(tl:TE):TE:=fun σ H Q=>tl σ H fun x H1=>∃a kvs,x=.ref a/\Rd H1 a (.dK kvs)/\∀r,H1 r=none->Q (.ref r) (upd H1 r (.ext fun h=>h.IsItemsView r a))
theorem Aa{ob:Expr}{tl:TE}{apos cpos:Pos}(ho:PE X ob tl)(hbase:attributeBase ob "items" X.env (eval ob X.env)=eval ob X.env:=by rfl)(hline:(apos.endLine == cpos.line)=true:=by rfl) :
  PE X (.Call (.Attribute ob "items" apos) [] [] cpos) (Cu tl):=by
 intro pins s σ H R I h;refine wpAny_Call_method0_late hbase hline (thn (ho pins s σ H _ I h) fun v s1 ⟨x,H1,I1,r1,a,kvs,ex,ha,q⟩=>?_);subst ex;cases (show v=Value.ref a from r1);obtain⟨z,y,vs,kv,dOf⟩:=dU I1.hok ha;obtain⟨od,_,_,eo,ex,_⟩:=id dOf;refine⟨"dict","dict.items",PySem.F.plainAttrs_dict,PySem.F.slot_dict_items,PySem.F.type_dict_items,⟨od,eo,ex.1⟩,fun b e2=>by cases e2;exact⟨od,eo,ex.2.1⟩,Calls.callWith_builtin rfl (PySem.evalArgs_none ?_)⟩;refine call_meetsIn PySem.F.slot_dict_items ⟨od,eo,ex.1⟩ PySem.F.entry_dict_items (PySem.F.args_dict_items_1 _) (meets_dict_items (bq X.prog X.w) a y) ⟨⟨vs,dOf⟩,?_⟩;have hn:H1 s1.heap.objs.size=none:=I1.hok.fresh (Nat.le_refl _);have vw:(s1.heap.push { cls:=.type "dict_items",data:=.fields #[.ref a] }).IsItemsView s1.heap.objs.size a:=⟨_,Heap.get?_push_size _ (by rfl),rfl,rfl⟩;refine⟨.ref s1.heap.objs.size,_,I1.laid (t':=s1.toks) (o:=.ext fun h=>h.IsItemsView s1.heap.objs.size a) (fun b ob e=>Heap.get?_push_of_some _ e) (Nat.le_refl _) ⟨vw,⟨_,Heap.get?_push_size _ (by rfl)⟩,fun h1 h2 p k=>?_⟩,rfl,q _ hn⟩;obtain⟨o,e1,e2⟩:=p;exact⟨o,k o e1,e2⟩
end
theorem rB{P:Program}{w:World}{H:Hp}{h:Heap}{a:Addr}{o:HO}(x:ObjOk P w H h a o):∃u,h.get? a=some u:=by
 cases o with
 |lst xs=>obtain⟨_,_,_,_,e⟩:=x;exact⟨_,e⟩
 |tup xs=>obtain⟨_,_,_,_,e,_⟩:=x;exact⟨_,e⟩
 |dK kvs=>obtain⟨_,_,_,_,o,_,_,e,_⟩:=x;exact⟨_,e⟩
 |dT kvs=>obtain⟨_,_,_,_,o,_,_,e,_⟩:=x;exact⟨_,e⟩
 |set S n=>obtain⟨o,_,_,_,e,_⟩:=x;exact⟨_,e⟩
 |ins C dx fs=>obtain⟨_,_,_,e,_⟩:=x;exact⟨_,e⟩
 |own y=>exact x
 |xd fs=>obtain⟨_,⟨_,_,_,e,_⟩,_⟩:=x;exact⟨_,e⟩
 |rng lo hi=>obtain⟨_,_,_,e⟩:=x;exact⟨_,e⟩
 |frz ob u=>obtain⟨e,_⟩:=x;exact⟨_,e⟩
 |tbl ps=>exact⟨_,x⟩
 |met f y=>exact⟨_,x⟩
 |ext φ=>obtain⟨_,e,_⟩:=x;exact e
section
variable {X:Cx}{pins:List (Addr×Obj)}{σ:List (Option V)}{H H':Hp}{s:Shared}{h':Heap}
theorem zk{t':Nat}(I:Inv X pins σ H s)(k:∀b u,s.heap.get? b=some u->h'.get? b=some u)(old:∀b u,s.heap.get? b=some u->H' b=H b)(new:∀b u,s.heap.get? b=none->H' b=some u->ObjOk X.prog X.w H' h' b u):Inv X pins σ H' { s with heap:=h',toks:=t' }:=by
 have up:∀b o,H b=some o->H' b=some o:=fun b o e=>by
  obtain⟨u,hu⟩:=rB (I.hok b o e);rw[old b u hu];exact e
 refine I.un ⟨fun b u q _ _ _=>k b u q,fun b u q _ _ _=>⟨u.slots,k b u q⟩,fun b u q n _=>by rw[old b u q];exact n,fun b u q _=>⟨u,k b u q⟩,fun b xs q=>up b _ q,fun b u xs q=>up b _ q,fun b ps q=>⟨#[],by rw[up b _ q];simp⟩⟩ fun b u e=>?_
 cases hb:s.heap.get? b with
 |some u'=>
  rw[old b u' hb] at e;exact(I.hok b u e).stay (fun c v _ q=>k c v q) (fun c q=>up c _ q) fun c xs q=>up c _ q
 |none=>exact new b u hb e
end
def eB(H:Hp):List (Addr×List V)->Hp
 |[]=>H
 |p::r=>eB (upd H p.1 (.tup p.2)) r
theorem jB:∀{ps:List (Addr×List V)}{H:Hp}{a:Addr},a∉ps.map (·.1)->eB H ps a=H a
 |[],_,_,_=>rfl
 |p::r,H,a,h=>by
  have h1:a≠p.1:=fun z=>h (by simp[z]);have h2:a∉r.map (·.1):=fun z=>h (by simp only[List.map_cons,List.mem_cons];exact .inr z);show eB (upd H p.1 (.tup p.2)) r a=H a;rw[jB h2,aP h1]
theorem tR:∀{ps:List (Addr×List V)}{H:Hp}{a:Addr}{xs:List V},(ps.map (·.1)).Nodup->(a,xs)∈ps->eB H ps a=some (.tup xs)
 |p::r,H,a,xs,nd,h=>by
  have nd':=List.nodup_cons.mp nd
  rcases List.mem_cons.mp h with e|e
  .subst e
   show eB (upd H a (.tup xs)) r a=_;rw[jB nd'.1,bC]
  .exact tR (ps:=r) nd'.2 e
def cG{α:Type}(d:α)(vs:List α)(ks:List Str):List α:=if vs.length<2 then vs else (g7 vs.length (gf ks)).map fun i=>vs.getD i d
theorem rz{α β:Type}{R:α->β->Prop}{x:α}{y:β}(h0:R x y):∀{l:List α}{m:List β},Paired R l m->∀i:Nat,R (l.getD i x) (m.getD i y)
 |_,_,.nil,i=>by simpa using h0
 |_,_,.cons h _,0=>by simpa using h
 |_,_,.cons _ t,i+1=>by simpa using rz h0 t i
theorem sC{α β:Type}{R:α->β->Prop}:∀{l:List α}{m:List β},Paired R l m->l.length=m.length
 |_,_,.nil=>rfl
 |_,_,.cons _ t=>congrArg (· + 1) (sC t)
theorem rq{α β:Type}{R:α->β->Prop}{f:Nat->α}{g:Nat->β}(h:∀i,R (f i) (g i)):∀l:List Nat,Paired R (l.map f) (l.map g)
 |[]=>.nil
 |i::l=>.cons (h i) (rq h l)
theorem qw{α β:Type}{R:α->β->Prop}{x:α}{y:β}(h0:R x y){l:List α}{m:List β}(h:Paired R l m)(ks:List Str):Paired R (cG x l ks) (cG y m ks):=by
 unfold cG;rw[sC h];split
 .exact h
 .exact rq (fun i=>rz h0 h i) _
theorem rn{K:Frag}{O:Addr->Prop}{H:Hp}:∀{vs:List V}{ds:List PyData},Reps K O H vs ds->Paired (Rep K O H) vs ds
 |_,_,.nil=>.nil
 |_,_,.cons h t=>.cons h (rn t)
theorem rf{K:Frag}{O:Addr->Prop}{H:Hp}:∀{vs:List V}{ds:List PyData},Paired (Rep K O H) vs ds->Reps K O H vs ds
 |_,_,.nil=>.nil
 |_,_,.cons h t=>.cons h (rf t)
theorem zQ{K:Frag}{O:Addr->Prop}{H:Hp}(k:Key):Rep K O H (kV k) (cQ k):=by
 cases k with
 |inl i=>exact .int i
 |inr x=>exact .str x
theorem mV{α:Type}{n:Nat}{P:α->Prop}{c:Nat->Nat->Bool}:∀{t:PySem.W.KasT α},KasAll n P t->P (iX c t)
 |.ret _,h=>h
 |.ask i j k,h=>mV (t:=k (c i j)) (h.2 (c i j))
theorem qC{n:Nat}{c:Nat->Nat->Bool}(h:1<=n):(g7 n c).length=n:=by
 unfold g7;rw[Array.length_toList];exact(mV (c:=c) (ny h)).size
section
variable {X:Cx}
theorem keys_str{P:Program}{w:World}:∀{kvs:List (Key×V)}{vs:List (Key×Value)}{ss:List Str},KV kvs vs->kvs.map (fun p=>kV p.1)=ss.map V.str->∀(j:Nat) (k:Key) (x key:Value),vs[j]? = some (k,x)->(bq P w).is k key=true->∃y t,ss[j]? = some y/\key=.str y t
 |[],[],_,_,_,j,k,x,key,e,_=>by simp at e
 |[],_::_,_,r,_,_,_,_,_,_,_=>by cases r
 |_::_,[],_,r,_,_,_,_,_,_,_=>by cases r
 |_::_,_::_,[],_,h,_,_,_,_,_,_=>by simp at h
 |(k1,v1)::kvs,(k2,x2)::vs,y::ss,r,h,j,k,x,key,e,hk=>by
  cases r with
  |cons r1 r2=>
   have h':kV k1=V.str y/\kvs.map (fun p=>kV p.1)=ss.map V.str:=by simpa using h
   cases j with
   |zero=>
    have e':k2=k/\x2=x:=by simpa using e
    have e1:k1=k2:=r1.1;have kv:=keyV hk;rw[←e'.1,←e1,h'.1] at kv;obtain⟨t,ht⟩:=kv;exact⟨y,t,rfl,ht⟩
   |succ j=>exact keys_str r2 h'.2 j k x key (by simpa using e) hk
theorem sH{P:Program}{w:World}{h:Heap}:∀{kvs:List (Key×V)}{vs:List (Key×Value)}{as:List Addr},KV kvs vs->as.length=vs.length->(∀(j:Nat) (a:Addr),as[j]? = some a->∃key k x,vs[j]? = some (k,x)/\(bq P w).is k key=true/\h.get? a=some { cls:=.type "tuple",data:=.seq #[key,x] })->∀a xs,(a,xs)∈as.zip (kvs.map fun p=>[kV p.1,p.2])->∃its:List Value,Vals xs its/\IsTup h a its.toArray
 |[],[],[],_,_,_,a,xs,h=>by simp at h
 |[],_::_,_,r,_,_,_,_,_=>by cases r
 |_::_,[],_,r,_,_,_,_,_=>by cases r
 |[],[],_::_,_,h,_,_,_,_=>by simp at h
 |_::_,_::_,[],_,h,_,_,_,_=>by simp at h
 |(k1,v1)::kvs,(k2,x2)::vs,b::as,r,hl,f,a,xs,hm=>by
  cases r with
  |cons r1 r2=>
   have hm':(a,xs)=(b,[kV k1,v1])\/(a,xs)∈as.zip (kvs.map fun p=>[kV p.1,p.2]):=by simpa using hm
   rcases hm' with e|e
   .obtain⟨key,k,x,e1,e2,e3⟩:=f 0 b rfl
    have e1':k2=k/\x2=x:=by simpa using e1
    have e4:k1=k2:=r1.1;have e5:RelV v1 x2:=r1.2;rw[←e1'.1,←e4] at e2;rw[←e1'.2] at e3;cases e;exact⟨[key,x2],.cons (keyV e2) (.cons e5 .nil),⟨_,e3,rfl,_,rfl⟩⟩
   .exact sH r2 (by simpa using hl) (fun j a q=>by
     obtain⟨key,k,x,e1,e2,e3⟩:=f (j+1) a (by simpa using q)
     exact⟨key,k,x,by simpa using e1,e2,e3⟩) a xs e
theorem om{α β:Type}:∀{l:List α}{m:List β},l.length=m.length->(l.zip m).map (·.1)=l
 |[],[],_=>rfl
 |a::l,b::m,h=>by
  simp only[List.zip_cons_cons,List.map_cons];rw[om (by simpa using h)]
theorem rj:∀as:List Addr,Vals (as.map V.ref) (as.map Value.ref)
 |[]=>.nil
 |_::as=>.cons rfl (rj as)
theorem yH(hcm:X.calm=true):CallR X (.builtin "sorted") (fun xs H Q=>∃r a kvs ss,xs=[V.ref r]/\H r=some (.ext fun h=>h.IsItemsView r a)/\Rd H a (.dK kvs)/\kvs.map (fun p=>kV p.1)=ss.map V.str/\ss.Nodup/\ss.length<64/\∀(as:List Addr) (L:Addr),as.length=kvs.length->as.Nodup->(∀a∈as,H a=none)->L∉as->H L=none->Q (.ref L) (upd (eB H (as.zip (kvs.map fun p=>[kV p.1,p.2]))) L (.lst (cG V.non (as.map V.ref) ss)))):=by
 intro pins s σ H xs us Q I r h;obtain⟨r0,a,kvs,ss,rfl,hr,ha,hk,nd,h64,q⟩:=h;obtain⟨u,rfl,ru⟩:=vals1 r;cases ru;obtain⟨vw,_,_⟩:=(show ObjOk X.prog X.w H s.heap r0 (.ext fun h=>h.IsItemsView r0 a) from I.hok r0 _ hr);obtain⟨z,y,vs,kv,dd⟩:=dU I.hok ha;obtain⟨ep,dd⟩:=dd.dictAt;have hl:=kv.length
 have hlen:kvs.length=ss.length:=by have:=congrArg List.length hk;simpa using this
 refine xQ (knd:=bq X.prog X.w) (kvs:=vs) (ep:=ep) (ks:=ss) (I.ok.hd hcm) vw dd (by omega) (keys_str kv hk) nd (by omega) fun h' tk as L e k1 k2 k3 k4 k5 k6=>?_;have hsz:∀b∈as,s.heap.objs.size<=b:=fun b hb=>Nat.le_of_lt (k4.above b hb);have asnd:as.Nodup:=k4.rise.imp fun h=>Nat.ne_of_lt h
 have frh:∀b,s.heap.get? b=none->H b=none:=fun b hb=>by
  cases q:H b with
  |none=>rfl
  |some o=>
   obtain⟨u,hu⟩:=rB (I.hok b o q);rw[hb] at hu;cases hu
 have hLn:L∉as:=fun z=>Nat.lt_irrefl _ (k5 L z);have hfz:(as.zip (kvs.map fun p=>[kV p.1,p.2])).map (·.1)=as:=om (by rw[List.length_map];omega)
 have hsg:∀{α:Type} (d:α) (l:List α),l.length<64->(cG d l ss).length<=64:=fun d l h=>by
  unfold cG;split
  .omega
  .rename_i h2
   rw[List.length_map];have:=(qC (c:=gf ss) (show 1<=l.length by omega));omega
 refine⟨.ref L,_,zk (t':=tk) I k1 (fun b u hb=>?_) (fun b u hb e=>?_),rfl,q as L (by omega) asnd (fun b hb=>I.hok.fresh (hsz b hb)) hLn (frh L k2)⟩
 .have:b≠L:=fun z=>by rw[z,k2] at hb;cases hb
  rw[aP this,jB (by rw[hfz];exact fun z=>absurd (hsz b z) (Nat.not_le_of_lt (Heap.lt_size hb)))]
 .by_cases hbL:b=L
  .subst hbL
   rw[bC] at e;cases e;have hv:Vals (cG V.non (as.map V.ref) ss) (iK (as.map Value.ref) ss):=qw (R:=RelV) (x:=V.non) (y:=Value.none) (by exact rfl) (rj as) ss;refine⟨?_,_,_,hv,k6⟩;exact Nat.le_trans (hsg V.non (as.map V.ref) (by rw[List.length_map];omega)) (by rw[sizeLine_eq];decide)
  .rw[aP hbL] at e
   by_cases hba:b∈as
   .rw[←hfz] at hba
    obtain⟨p,hp,hpe⟩:=List.mem_map.mp hba;subst hpe;rw[tR (xs:=p.2) (by rw[hfz];exact asnd) hp] at e;cases e;obtain⟨its,v1,v2⟩:=sH (P:=X.prog) (w:=X.w) kv (by omega) k4.pairs p.1 p.2 hp;refine⟨?_,its,v1,v2⟩;obtain⟨_,hq⟩:=List.of_mem_zip hp;obtain⟨q0,_,hq⟩:=List.mem_map.mp hq
    rw[←hq,sizeLine_eq];show 2<=16777216;decide
   .rw[jB (by rw[hfz];exact hba),frh b hb] at e
    cases e
def gW:PyData->Option PyData
 |.dict ds=>match b9 (hZ ds) with
  |some ss=>if ss.Nodup/\ss.length<64 then some (.list (cG .none (ds.map fun p=>.tuple [p.1,p.2]) ss)) else none
  |none=>none
 |_=>none
theorem CH{H:Hp}{a r:Addr}{u o:HO}(h:Rd H a u)(hr:H r=none):Rd (upd H r o) a u:=by
 rcases h with h|⟨ob,h⟩
 .exact .inl (by rw[aP (dt h hr)];exact h)
 .exact .inr ⟨ob,by rw[aP (dt h hr)];exact h⟩
theorem yR{x y:PyData}(h:gW x=some y):∃ds ss,x=.dict ds/\b9 (hZ ds)=some ss/\ss.Nodup/\ss.length<64/\y=.list (cG .none (ds.map fun p=>.tuple [p.1,p.2]) ss):=by
 cases x with
 |dict ds=>
  simp only[gW] at h;split at h
  .rename_i ss hs
   split at h
   .rename_i hl
    cases h;exact⟨ds,ss,rfl,hs,hl.1,hl.2,rfl⟩
   .cases h
  .cases h
 |_=>cases h
theorem tS{K:Frag}{O:Addr->Prop}{ts:List Addr}{T:Tp}:∀{as:List Addr}{kvs:List (Key×V)}{ds:List (PyData×PyData)}{H:Hp},HC K O ts H T->as.length=kvs.length->as.Nodup->(∀a∈as,H a=none)->RepK K O H kvs ds->HC K O ts (eB H (as.zip (kvs.map fun p=>[kV p.1,p.2]))) T/\SameX ts H (eB H (as.zip (kvs.map fun p=>[kV p.1,p.2])))/\Reps K O (eB H (as.zip (kvs.map fun p=>[kV p.1,p.2]))) (as.map V.ref) (ds.map fun p=>.tuple [p.1,p.2])
 |[],[],_,H,hc,_,_,_,r=>by
  cases r;exact⟨hc,.refl _ _,.nil⟩
 |a::as,(k,v)::kvs,_,H,hc,hl,nd,hf,r=>by
  cases r with
  |@cons _ _ d _ ds r1 r2=>
   have nd':=List.nodup_cons.mp nd;have ha:=hf a (by simp);have rt:=hc.newT ha (.cons (zQ (O:=O) (H:=H) k) (.cons r1 .nil));have le:=hc.leNew ha (.tup [kV k,v])
   obtain⟨c1,c2,c3⟩:=tS (as:=as) (kvs:=kvs) (ds:=ds) (hc.new ha (.tup [kV k,v])) (by simpa using hl) nd'.2 (fun b hb=>by
    have hba:b≠a:=fun z=>nd'.1 (by rw[←z];exact hb)
    rw[aP hba];exact hf b (List.mem_cons_of_mem _ hb)) (r2.mono le)
   exact⟨c1,(SameX.new ha _).trans c2,.cons (rt.mono ((hc.new ha _).le c2)) c3⟩
theorem sT{ob:Expr}{fe:FE}{p apos cpos pos:Pos}(hm:X.mg "sorted"=none)(ha:DE X ob fe)(hc:X.calm=true:=by rfl)(hg:Gl X "sorted":=by rfl)(hbase:attributeBase ob "items" X.env (eval ob X.env)=eval ob X.env:=by rfl)(hline:(apos.endLine == cpos.line)=true:=by rfl)(hs:starEach [.Call (.Attribute ob "items" apos) [] [] cpos] X.env=(false,eval (.Call (.Attribute ob "items" apos) [] [] cpos) X.env)::starEach [] X.env:=by exact a8 rfl)
  (hpl:(backTo pos (starEach [] X.env)).any (·.1)=false:=by exact bQ rfl):DE X (.Call (.Name "sorted" p) [.Call (.Attribute ob "items" apos) [] [] cpos] [] pos) (fUn gW fe):=by
 refine⟨?_⟩;refine bj (js (yH hc) hg hm boot_sorted (cT (Aa ha.pe hbase hline) dB hs) (by decide) (by decide) hs hpl) fun σ H Q=>?_;rintro⟨O,ts,ρ,T,w,T',hc,re,e,q⟩;obtain⟨w1,T1,e1,e⟩:=aJ e;obtain⟨x,d,hv,hd,rfl,rfl⟩:=jK e;obtain⟨ds,ss,rfl,hs',nd,hl,rfl⟩:=yR hd;refine⟨O,ts,ρ,T,w1,T',hc,re,e1,fun v1 H1 s1 hc1 r1=>?_⟩;obtain⟨a,kvs,rfl,t,r⟩:=(hc1.view r1 hv).dct;refine⟨a,kvs,rfl,t,fun r0 hr0=>?_⟩;have rk:=mR (O':=O) (H':=H1) r;have c2:=hc1.new hr0 (.ext fun h=>h.IsItemsView r0 a);refine⟨r0,a,kvs,ss,rfl,bC,CH t hr0,iB rk hs',nd,hl,fun as L k1 k2 k3 k4 k5=>?_⟩;obtain⟨c3,c4,c5⟩:=tS c2 k1 k2 k3 (r.mono (hc1.leNew hr0 _));have hfz:(as.zip (kvs.map fun p=>[kV p.1,p.2])).map (·.1)=as:=om (by rw[List.length_map];omega)
 have hLL:eB (upd H1 r0 (.ext fun h=>h.IsItemsView r0 a)) (as.zip (kvs.map fun p=>[kV p.1,p.2])) L=none:=by rw[jB (by rw[hfz];exact k4)];exact k5
 have rs:Reps X.K O (eB (upd H1 r0 (.ext fun h=>h.IsItemsView r0 a)) (as.zip (kvs.map fun p=>[kV p.1,p.2]))) (cG V.non (as.map V.ref) ss) (cG .none (ds.map fun p=>.tuple [p.1,p.2]) ss):=rf (qw (R:=Rep X.K O _) .non (rn c5) ss);exact q _ _ (((s1.trans (.new hr0 _)).trans c4).trans (.new hLL _)) (c3.new hLL _) (c3.newL hLL rs)
def oM(ρ:Rho)(T:Tp)(o:Option (Option W)):Option ((Fl×Rho)×Tp):=match o with
 |some (some (.loc (.dict xs)))=>some ((.ro (.dict xs),ρ),T)
 |_=>none
def jM(i:Nat):FS:=fun ρ T=>oM ρ T ρ[i]?
theorem AC{pos:Pos}{i:Nat}{x:Str}{p:Pos}(hN:X.N[i]? = some x:=by rfl)(hv:Vis X.env.scope x:=by first|exact Or.inl rfl|exact Or.inr (Or.inl rfl)|exact Or.inr (Or.inr rfl))(hd:(x == ("__debug__" : Str))=false:=by decide)(hcd:(x == ("__classdict__" : Str))=false:=by decide) :
  DS X (.Return (some (.Name x p)) pos) (jM i):=by
 refine⟨?_⟩;refine cc (oN (pv i hN hv hd hcd)) fun D σ H=>?_;rintro⟨O₀,H₀,F,ts,O,ρ,T,fl,ρ',T',rs,e,q⟩;unfold jM oM at e;split at e
 .rename_i xs h1
  cases e;obtain⟨v,k1,a,rfl,k2,k3,vs,k4,k5⟩:=rs.re i _ h1
  obtain⟨c,le⟩:=rs.keep (A:=fun c=>c=a) fun c hc=>by rw[hc];exact k2
  exact⟨_,k1,q (fun c=>c=a) (.ref a) H rs.same (fun c hc=>by rw[hc];exact rs.fresh i _ a h1 k1) c ⟨a,rfl,fun _=>Iff.rfl,vs,k4,k5.mono le⟩⟩
 .cases e
end
def DfL(K:Frag)(tp:Nat->Stmt):List (Str×Nat)->Prop
 |[]=>True
 |(x,i)::r=>Df K x (tp i)/\DfL K tp r
theorem AG{K:Frag}{tp:Nat->Stmt}{x:Str}{i:Nat}{L:List (Str×Nat)}(a:Df K x (tp i))(r:DfL K tp L):DfL K tp ((x,i)::L):=⟨a,r⟩
theorem DfL.at{K:Frag}{tp:Nat->Stmt}{x:Str}{i:Nat}:∀{L:List (Str×Nat)},DfL K tp L->L.lookup x=some i->Df K x (tp i)
 |[],_,e=>nomatch e
 |(y,j)::r,h,e=>by
  rw[List.lookup_cons] at e;split at e
  .rename_i hx
   cases e;rw[eq_of_beq hx];exact h.1
  .exact h.2.at e
def ZL(K:Frag):List Str->Prop
 |[]=>True
 |x::r=>PySem.W.nsIn K mainGlobals x=some none/\ZL K r
theorem AX{K:Frag}{x:Str}{L:List Str}(a:PySem.W.nsIn K mainGlobals x=some none)(r:ZL K L):ZL K (x::L):=⟨a,r⟩
theorem ZL.at{K:Frag}{x:Str}:∀{L:List Str},ZL K L->L.contains x=true->PySem.W.nsIn K mainGlobals x=some none
 |[],_,e=>nomatch e
 |y::r,h,e=>by
  rw[List.contains_cons,Bool.or_eq_true] at e
  rcases e with e|e
  .rw[eq_of_beq e];exact h.1
  .exact h.2.at e
def IL(K:Frag):List (Str×Int)->Prop
 |[]=>True
 |(x,i)::r=>(∃t,PySem.W.nsIn K mainGlobals x=some (some (.int i t)))/\IL K r
theorem BK{K:Frag}{x:Str}{i:Int}{t:Tok}{L:List (Str×Int)}(a:PySem.W.nsIn K mainGlobals x=some (some (.int i t)))(r:IL K L):IL K ((x,i)::L):=⟨⟨t,a⟩,r⟩
theorem IL.at{K:Frag}{x:Str}{i:Int}:∀{L:List (Str×Int)},IL K L->L.lookup x=some i->∃t,PySem.W.nsIn K mainGlobals x=some (some (.int i t))
 |[],_,e=>nomatch e
 |(y,j)::r,h,e=>by
  rw[List.lookup_cons] at e;split at e
  .rename_i hx
   cases e;rw[eq_of_beq hx];exact h.1
  .exact h.2.at e
def SL(K:Frag):List (Str×Str)->Prop
 |[]=>True
 |(x,i)::r=>(∃t,PySem.W.nsIn K mainGlobals x=some (some (.str i t)))/\SL K r
theorem A5{K:Frag}{x i:Str}{t:Tok}{L:List (Str×Str)}(a:PySem.W.nsIn K mainGlobals x=some (some (.str i t)))(r:SL K L):SL K ((x,i)::L):=⟨⟨t,a⟩,r⟩
theorem SL.at{K:Frag}{x i:Str}:∀{L:List (Str×Str)},SL K L->L.lookup x=some i->∃t,PySem.W.nsIn K mainGlobals x=some (some (.str i t))
 |[],_,e=>nomatch e
 |(y,j)::r,h,e=>by
  rw[List.lookup_cons] at e;split at e
  .rename_i hx
   cases e;rw[eq_of_beq hx];exact h.1
  .exact h.2.at e
structure Bz(K:Frag)(mg:Str->Option Value)(z:List Str)(i:List (Str×Int))(s:List (Str×Str)):Prop where
 z:∀{x:Str} (_:z.contains x=true:=by decide +kernel),mg x=none
 i:∀{x:Str}{j:Int} (_:i.lookup x=some j:=by decide +kernel),∃t,mg x=some (.int j t)
 s:∀{x y:Str} (_:s.lookup x=some y:=by decide +kernel),∃t,mg x=some (.str y t)
theorem E1{K:Frag}{h:Heap}{mg:Str->Option Value}{z:List Str}{i:List (Str×Int)}{s:List (Str×Str)}(X:K.In h)(G:h.Ns mainGlobals mg)(a:ZL K z)(b:IL K i)(c:SL K s):Bz K mg z i s:=⟨fun e=>PySem.W.mg_none_of X G (a.at e),fun e=>let ⟨t,q⟩:=b.at e;⟨t,PySem.W.mg_of X G q⟩,fun e=>let ⟨t,q⟩:=c.at e;⟨t,PySem.W.mg_of X G q⟩⟩
structure Ev(P:Program)(w:World)(K:Frag)(mg:Str->Option Value)(base:Heap)(B:Prop)(tp:Nat->Stmt)(L:List (Str×Nat)):Prop where
 x:∃h:Heap,K.In h/\h.Ns mainGlobals mg
 b:B
 d:DfL K tp L
def scB(N P:List Str)(sc:Scope):Bool:=decide (sc.kind=.function)&&!sc.isCoroutine&&!sc.isGenerator&&decide N.Nodup&&decide (N.take P.length=P)&&P.all (fun x=>decide (sc.names.lookup x=some .local)||decide (sc.names.lookup x=some .cell))&&sc.names.all fun y=>decide (y.2≠.free)
theorem iU{N P:List Str}{sc:Scope}(h:scB N P sc=true):FnScope N P sc:=by
 simp only[scB,Bool.and_eq_true,decide_eq_true_eq,Bool.not_eq_true',List.all_eq_true,Bool.or_eq_true] at h;exact⟨h.1.1.1.1.1.1,h.1.1.1.1.1.2,h.1.1.1.1.2,h.1.1.1.2,h.1.1.2,h.1.2,h.2⟩
theorem bl1{α:Type}{p:List α->Prop}(h:∀a,p [a]):∀us,us.length=1->p us
 |[a],_=>h a
theorem bl2{α:Type}{p:List α->Prop}(h:∀a b,p [a,b]):∀us,us.length=2->p us
 |[a,b],_=>h a b
theorem bl3{α:Type}{p:List α->Prop}(h:∀a b c,p [a,b,c]):∀us,us.length=3->p us
 |[a,b,c],_=>h a b c
theorem bl4{α:Type}{p:List α->Prop}(h:∀a b c d,p [a,b,c,d]):∀us,us.length=4->p us
 |[a,b,c,d],_=>h a b c d
theorem bl6{α:Type}{p:List α->Prop}(h:∀a b c d e f,p [a,b,c,d,e,f]):∀us,us.length=6->p us
 |[a,b,c,d,e,f],_=>h a b c d e f
section
variable {P:Program}{w:World}{K:Frag}{mg:Str->Option Value}{base:Heap}{B:Prop}{tp:Nat->Stmt}{L:List (Str×Nat)}{x:Str}{ps:List Str}{k:Nat}{m:FS}
theorem pM{sp:Sp}(E:Ev P w K mg base B tp L)(i:Nat)(ok:∀f fd,Fun K x x (tp i) f fd->FnOk P w K mg base CX0 k f fd ps sp)(e:L.lookup x=some i:=by decide +kernel)
  (hb:∀(kV doc pm:Value) (an:Option Addr) (cdv ct:Value) (us:List Value),us.length=ps.length->bindArgs (PySem.W.fnOf x x (dA (tp i)) (cb (tp i)) (a9 (tp i)) .none kV doc pm an cdv ct) ⟨us,[]⟩=pure (ps.zip us):=by
   intro _ _ _ _ _ _;first|(show ∀us:List Value,us.length=0->_;exact D.bl0 rfl)|(show ∀us:List Value,us.length=1->_;exact D.bl1 fun _=>rfl)|(show ∀us:List Value,us.length=2->_;exact D.bl2 fun _ _=>rfl)|(show ∀us:List Value,us.length=3->_;exact D.bl3 fun _ _ _=>rfl)|(show ∀us:List Value,us.length=4->_;exact D.bl4 fun _ _ _ _=>rfl)|(show ∀us:List Value,us.length=5->_;exact D.bl5 fun _ _ _ _ _=>rfl)|(show ∀us:List Value,us.length=6->_;exact D.bl6 fun _ _ _ _ _ _=>rfl)):Fn P w K mg base x ps k sp:=
 let ⟨_,X,G⟩:=E.x
 (E.d.at e).fn X G hb ok
theorem aT(E:Ev P w K mg base B tp L)(i:Nat)(N:List Str)(hbody:∀{f:Addr}{cdv:Value}{A:Around}{outer:List Env}{s:Shared}{H:Hp}{E:XK},B->FnScope N ps (a9 (tp i))->Room k (A.deeper (envOfC x (a9 (tp i)) s.heap.objs.size f cdv))->DSs (eF CX0 P w K mg base N x (a9 (tp i)) f cdv A outer s H E).nox (cb (tp i)) m)
  (S:scB N ps (a9 (tp i))=true:=by decide +kernel) (e:L.lookup x=some i:=by decide +kernel)
  (hb:∀(kV doc pm:Value) (an:Option Addr) (cdv ct:Value) (us:List Value),us.length=ps.length->bindArgs (PySem.W.fnOf x x (dA (tp i)) (cb (tp i)) (a9 (tp i)) .none kV doc pm an cdv ct) ⟨us,[]⟩=pure (ps.zip us):=by
   intro _ _ _ _ _ _;first|(show ∀us:List Value,us.length=0->_;exact D.bl0 rfl)|(show ∀us:List Value,us.length=1->_;exact D.bl1 fun _=>rfl)|(show ∀us:List Value,us.length=2->_;exact D.bl2 fun _ _=>rfl)|(show ∀us:List Value,us.length=3->_;exact D.bl3 fun _ _ _=>rfl)|(show ∀us:List Value,us.length=4->_;exact D.bl4 fun _ _ _ _=>rfl)|(show ∀us:List Value,us.length=5->_;exact D.bl5 fun _ _ _ _ _=>rfl)|(show ∀us:List Value,us.length=6->_;exact D.bl6 fun _ _ _ _ _ _=>rfl)):Fn P w K mg base x ps (k+1) (spM K ps.length (aL N.length m)):=pM E i (fun _ _ F=>dfn F (iU S) fun _ _ _ _ _ _ hr=>hbody E.b (iU S) hr) e hb
theorem wc(E:Ev P w K mg base B tp L)(i:Nat)(N:List Str)(hbody:∀{f:Addr}{cdv:Value}{A:Around}{outer:List Env}{s:Shared}{H:Hp}{E:XK},B->FnScope N ps (a9 (tp i))->Room k (A.deeper (envOfC x (a9 (tp i)) s.heap.objs.size f cdv))->DSs (eF CX0 P w K mg base N x (a9 (tp i)) f cdv A outer s H E).nox (cb (tp i)) m)
  (S:scB N ps (a9 (tp i))=true:=by decide +kernel) (e:L.lookup x=some i:=by decide +kernel)
  (hb:∀(kV doc pm:Value) (an:Option Addr) (cdv ct:Value) (us:List Value),us.length=ps.length->bindArgs (PySem.W.fnOf x x (dA (tp i)) (cb (tp i)) (a9 (tp i)) .none kV doc pm an cdv ct) ⟨us,[]⟩=pure (ps.zip us):=by
   intro _ _ _ _ _ _;first|(show ∀us:List Value,us.length=0->_;exact D.bl0 rfl)|(show ∀us:List Value,us.length=1->_;exact D.bl1 fun _=>rfl)|(show ∀us:List Value,us.length=2->_;exact D.bl2 fun _ _=>rfl)|(show ∀us:List Value,us.length=3->_;exact D.bl3 fun _ _ _=>rfl)|(show ∀us:List Value,us.length=4->_;exact D.bl4 fun _ _ _ _=>rfl)|(show ∀us:List Value,us.length=5->_;exact D.bl5 fun _ _ _ _ _=>rfl)|(show ∀us:List Value,us.length=6->_;exact D.bl6 fun _ _ _ _ _ _=>rfl)):Fn P w K mg base x ps (k+1) (spO K ps.length (gn N.length m)):=pM E i (fun _ _ F=>FQ F (iU S) fun _ _ _ _ _ _ hr=>hbody E.b (iU S) hr) e hb
theorem dW(E:Ev P w K mg base B tp L)(i:Nat){n:Nat}(e:L.lookup x=some i:=by decide +kernel)
  (hb:∀(kV doc pm:Value) (an:Option Addr) (cdv ct:Value) (us:List Value),us.length=ps.length->bindArgs (PySem.W.fnOf x x (dA (tp i)) (cb (tp i)) (a9 (tp i)) .none kV doc pm an cdv ct) ⟨us,[]⟩=pure (ps.zip us):=by
   intro _ _ _ _ _ _;first|(show ∀us:List Value,us.length=0->_;exact D.bl0 rfl)|(show ∀us:List Value,us.length=1->_;exact D.bl1 fun _=>rfl)|(show ∀us:List Value,us.length=2->_;exact D.bl2 fun _ _=>rfl)|(show ∀us:List Value,us.length=3->_;exact D.bl3 fun _ _ _=>rfl)|(show ∀us:List Value,us.length=4->_;exact D.bl4 fun _ _ _ _=>rfl)|(show ∀us:List Value,us.length=5->_;exact D.bl5 fun _ _ _ _ _=>rfl)|(show ∀us:List Value,us.length=6->_;exact D.bl6 fun _ _ _ _ _ _=>rfl)):Fn P w K mg base x ps k (spM K n fun _ _=>none):=pM E i (fun _ _ _=>BQ) e hb
theorem EV{f:Addr}{fd:FuncData}{i:Nat}(E:Ev P w K mg base B tp L)(N:List Str)(F:Fun K x x (tp i) f fd)(hbody:∀{cdv:Value}{A:Around}{outer:List Env}{s:Shared}{H:Hp}{E:XK},B->FnScope N ps (a9 (tp i))->Room k (A.deeper (envOfC x (a9 (tp i)) s.heap.objs.size f cdv))->DSs (eF CX0 P w K mg base N x (a9 (tp i)) f cdv A outer s H E).nox (cb (tp i)) m)
  (S:scB N ps (a9 (tp i))=true:=by decide +kernel):FnOk P w K mg base CX0 (k+1) f fd ps (spM K ps.length (aL N.length m)):=dfn F (iU S) fun _ _ _ _ _ _ hr=>hbody E.b (iU S) hr
theorem dD{p:Nat->Prop}(z:p 0)(s:∀n,p n->p (n+1)):∀n,p n
 |0=>z
 |n+1=>s n (dD z s n)
end
section
variable {X:Cx}{name p1 p2 p3 p4 p5 p6:Str}{k k':Nat}{m:FnM}{e1 e2 e3 e4 e5 e6:Expr}{g1 g2 g3 g4 g5 g6:FE}{p pos:Pos}
theorem aQ(F:Fn X.prog X.w X.K X.mg X.base name [p1] k (spM X.K 1 m))(hr:Room k' X.A)(a1:DE X e1 g1)(h:k<=k':=by omega)(hg:Gl X name:=by exact rfl)(hdb:(name == ("__debug__" : Str))=false:=by decide)(n1:noStar e1=true:=by exact rfl):DE X (.Call (.Name name p) [e1] [] pos) (ar m (ae g1 ah)):=jC F (hr.mono h) hg (ai a1 am (a8 n1)) (bi c8) hdb (a8 n1) (bQ rfl)
theorem bH(F:Fn X.prog X.w X.K X.mg X.base name [p1,p2] k (spM X.K 2 m))(hr:Room k' X.A)(a1:DE X e1 g1)(a2:DE X e2 g2)(h:k<=k':=by omega)(hg:Gl X name:=by exact rfl)(hdb:(name == ("__debug__" : Str))=false:=by decide)(n1:noStar e1=true:=by exact rfl)(n2:noStar e2=true:=by exact rfl):DE X (.Call (.Name name p) [e1,e2] [] pos) (ar m (ae g1 (ae g2 ah))):=jC F (hr.mono h) hg (ai a1 (ai a2 am (a8 n2)) (a8 n1)) (bi (bi c8)) hdb (a8 n1) (bQ (by simp only[List.all_cons,List.all_nil,n2,Bool.and_self]))
theorem bP(F:Fn X.prog X.w X.K X.mg X.base name [p1,p2,p3] k (spM X.K 3 m))(hr:Room k' X.A)(a1:DE X e1 g1)(a2:DE X e2 g2)(a3:DE X e3 g3)(h:k<=k':=by omega)(hg:Gl X name:=by exact rfl)(hdb:(name == ("__debug__" : Str))=false:=by decide)(n1:noStar e1=true:=by exact rfl)(n2:noStar e2=true:=by exact rfl)(n3:noStar e3=true:=by exact rfl):DE X (.Call (.Name name p) [e1,e2,e3] [] pos) (ar m (ae g1 (ae g2 (ae g3 ah)))):=jC F (hr.mono h) hg (ai a1 (ai a2 (ai a3 am (a8 n3)) (a8 n2)) (a8 n1)) (bi (bi (bi c8))) hdb (a8 n1) (bQ (by simp only[List.all_cons,List.all_nil,n2,n3,Bool.and_self]))
theorem pW(F:Fn X.prog X.w X.K X.mg X.base name [p1,p2,p3,p4] k (spM X.K 4 m))(hr:Room k' X.A)(a1:DE X e1 g1)(a2:DE X e2 g2)(a3:DE X e3 g3)(a4:DE X e4 g4)(h:k<=k':=by omega)(hg:Gl X name:=by exact rfl)(hdb:(name == ("__debug__" : Str))=false:=by decide)(n1:noStar e1=true:=by exact rfl)(n2:noStar e2=true:=by exact rfl)(n3:noStar e3=true:=by exact rfl)(n4:noStar e4=true:=by exact rfl):DE X (.Call (.Name name p) [e1,e2,e3,e4] [] pos) (ar m (ae g1 (ae g2 (ae g3 (ae g4 ah))))):=jC F (hr.mono h) hg (ai a1 (ai a2 (ai a3 (ai a4 am (a8 n4)) (a8 n3)) (a8 n2)) (a8 n1)) (bi (bi (bi (bi c8)))) hdb (a8 n1) (bQ (by simp only[List.all_cons,List.all_nil,n2,n3,n4,Bool.and_self]))
theorem FU(F:Fn X.prog X.w X.K X.mg X.base name [p1,p2,p3,p4,p5,p6] k (spM X.K 6 m))(hr:Room k' X.A)(a1:DE X e1 g1)(a2:DE X e2 g2)(a3:DE X e3 g3)(a4:DE X e4 g4)(a5:DE X e5 g5)(a6:DE X e6 g6)(h:k<=k':=by omega)(hg:Gl X name:=by exact rfl)(hdb:(name == ("__debug__" : Str))=false:=by decide)(n1:noStar e1=true:=by exact rfl)(n2:noStar e2=true:=by exact rfl)(n3:noStar e3=true:=by exact rfl)(n4:noStar e4=true:=by exact rfl)(n5:noStar e5=true:=by exact rfl)(n6:noStar e6=true:=by exact rfl):DE X (.Call (.Name name p) [e1,e2,e3,e4,e5,e6] [] pos) (ar m (ae g1 (ae g2 (ae g3 (ae g4 (ae g5 (ae g6 ah))))))):=jC F (hr.mono h) hg (ai a1 (ai a2 (ai a3 (ai a4 (ai a5 (ai a6 am (a8 n6)) (a8 n5)) (a8 n4)) (a8 n3)) (a8 n2)) (a8 n1)) (bi (bi (bi (bi (bi (bi c8)))))) hdb (a8 n1) (bQ (by simp only[List.all_cons,List.all_nil,n2,n3,n4,n5,n6,Bool.and_self]))
end
def csB(osc:Scope)(N:List Str)(x:Str)(sc:Scope)(N':List Str):Bool:=decide (sc.kind=.function)&&(sc.names.all fun y=>decide (y.2≠.cell))&&(sc.names.all fun y=>decide (y.2=.local->sc.names.lookup y.1=some .local))&&decide (sc.names.lookup x=some .local)&&(sc.names.all fun y=>decide (y.2=.local->y.1=x\/y.1=".0"))
 && (sc.names.all fun y=>decide (y.2=.free->osc.names.lookup y.1=some .cell\/osc.names.lookup y.1=some .free))&&decide (x::N').Nodup&&decide ((".0" : Str)∉N')&&decide (N'.length=N.length)&&(N'.zip N).all fun p=>decide (p.1=p.2)||sc.names.all fun q=>decide (q.1≠p.1)
theorem wg{osc:Scope}{N:List Str}{x:Str}{sc:Scope}{N':List Str}(h:csB osc N x sc N'=true):CS osc N x sc N':=by
 simp only[csB,Bool.and_eq_true,decide_eq_true_eq,List.all_eq_true,Bool.or_eq_true] at h;exact⟨h.1.1.1.1.1.1.1.1.1,h.1.1.1.1.1.1.1.1.2,h.1.1.1.1.1.1.1.2,h.1.1.1.1.1.1.2,h.1.1.1.1.1.2,h.1.1.1.1.2,h.1.1.1.2,h.1.1.2,h.1.2,h.2⟩
section
variable {X:Cx}{x:Str}{scope:Scope}{elt iter:Expr}{ifs:List Expr}{px pos:Pos}{it:FI}{c:FT}{f:FE}
theorem wd(st:Stmt)(N N':List Str)(hi:DI X (.Name x px) iter it)(he:∀{C s0 H0 ex},DE (bS X x scope C s0 H0 ex N') elt f)(ht:∀{C s0 H0 ex},DTs (bS X x scope C s0 H0 ex N') ifs c)
  (S:csB (a9 st) N x scope N'=true:=by decide +kernel) (hc:X.calm=true:=by rfl) (hs:X.env.scope=a9 st:=by rfl) (hN:X.N=N:=by rfl) (hf:∀v,foldedSetIterable iter X.env v=pure v:=by intro _;rfl):DE X (.ListComp elt [⟨.Name x px,iter,ifs,0⟩] scope pos) (bM it c f):=B0 (wg S) hi (fun _ _ _ _=>he) (fun _ _ _ _=>ht) hc hs hN hf
theorem eV(st:Stmt)(N:List Str)(hi:DI X (.Name x px) iter it)(he:∀{C s0 H0 ex},DE (bS X x scope C s0 H0 ex N) elt f)
  (S:csB (a9 st) N x scope N=true:=by decide +kernel) (hc:X.calm=true:=by rfl) (hs:X.env.scope=a9 st:=by rfl) (hN:X.N=N:=by rfl) (hf:∀v,foldedSetIterable iter X.env v=pure v:=by intro _;rfl):DE X (.ListComp elt [⟨.Name x px,iter,[],0⟩] scope pos) (bM it bv f):=wd st N N hi he ot S hc hs hN hf
theorem wb{i:Nat}{y:Str}{py spos:Pos}(st:Stmt)(N N':List Str)(nd:X.N.Nodup)(hi:DI X (.Name x px) iter it)(he:∀{C s0 H0 ex},DE (bS X x scope C s0 H0 ex N') elt f)(ht:∀{C s0 H0 ex},DTs (bS X x scope C s0 H0 ex N') ifs c)
  (S:csB (a9 st) N x scope N'=true:=by decide +kernel) (hi':X.N[i]? = some y:=by rfl) (hy:Loc X.env.scope y:=by first|exact Or.inl rfl|exact Or.inr rfl)
  (hf':X.fn y=true\/X.env.scope.names.lookup y=some .local:=by first|exact .inl rfl|exact .inr rfl|assumption) (hc:X.calm=true:=by rfl) (hs:X.env.scope=a9 st:=by rfl) (hN:X.N=N:=by rfl)
  (hsw:swapsWith (.ListComp elt [⟨.Name x px,iter,ifs,0⟩] scope pos) (some (.Name y py)) spos.line X.env=pure true:=by rfl) (hf:∀v,foldedSetIterable iter X.env v=pure v:=by intro _;rfl) :
  DS X (.Assign [.Name y py] (.ListComp elt [⟨.Name x px,iter,ifs,0⟩] scope pos) spos) (aE i (bM it c f)):=BW (wg S) nd hi (fun _ _ _ _=>he) (fun _ _ _ _=>ht) hi' hy hf' hc hs hN hsw hf
end
end D
namespace G
open PySem PySem.Spec PyProof.Rows L2 D

theorem aX(k:Nat)(h:0<k):∃j,k=j+1:=⟨k-1,by omega⟩
def d8:FnM:=aL 1 (ay (cj (fUn (br .int) (aa 0)) (mh (fUn (br .bl) (aa 0)))))
def gM:FnM:=aL 2 (ay (fCB d0 (ae (bM (aZ (aa 0)) bv (ag inD (aa 0) (aa 2))) ah)))
def iu:FnM:=aL 1 (ay (cj (fUn (br .str) (aa 0)) (cj (dQ leD leD (fC (.int 1)) (fCB aY (ae (aa 0) ah)) (fC (.int 8))) (ar gM (ae (aa 0) (ae (fC (.str "abcdefghijklmnopqrstuvwxyz")) ah))))))
def jg:FnM:=aL 1 (ak (fIf (aS (ar d8 (ae (aa 0) ah))) (ay (ag leD (fCB my (ae (aa 0) ah)) (ag fJ (fC (.int 10)) (fC (.int 18))))) aD) (ay (cj (fUn (br .str) (aa 0)) (cj (ag leD (fCB aY (ae (aa 0) ah)) (fC (.int 20))) (ar gM (ae (aa 0) (ae (fC (.str "abcdefghijklmnopqrstuvwxyz0123456789-")) ah)))))))
def eG:Nat->FnM
 |0=>fun _ _=>none
 |n+1=>aL 2 (ak (fIf (bL (aS (fUn (br .tup) (aa 0)))) (ay (ar jg (ae (aa 0) ah))) aD) (ak (fIf (dh (aC (ag eqD (aa 1) (fC (.int 0)))) (aC (ag gtD (fCB aY (ae (aa 0) ah)) (fC (.int 8))))) (ay (fC (.bool false))) aD) (ay (fCB d0 (ae (bM (aZ (aa 0)) bv (ar (eG n) (ae (aa 0) (ae (ag ib (aa 2) (fC (.int 1))) ah)))) ah)))))
def gO:Nat->FnM
 |0=>fun _ _=>none
 |n+1=>aL 1 (ak (fIf (bL (aS (fUn (br .tup) (aa 0)))) (ay (fC (.int 1))) aD) (ay (ag aG (fC (.int 1)) (fCB ms (ae (bM (aZ (aa 0)) bv (ar (gO n) (ae (aa 0) ah))) ah)))))
def jn:FnM:=aL 1 (ay (cj (ar (eG 25) (ae (aa 0) (ae (fC (.int 4)) ah))) (ag leD (ar (gO 25) (ae (aa 0) ah)) (fC (.int 40)))))
def cu:FnM:=aL 1 (ak (fIf (dh (aC (ag eqD (ag ixD (aa 0) (fC (.int 0))) (fC (.str "put")))) (aC (ag eqD (ag ixD (aa 0) (fC (.int 0))) (fC (.str "got"))))) (ay (ao .list ah)) aD) (ak (fIf (aC (ag eqD (ag ixD (aa 0) (fC (.int 0))) (fC (.str "row")))) (ay (fCB eh (ae (ag ixD (aa 0) (fC (.int 1))) ah))) aD) (ay (fCB eh (ae (fSl (aa 0) (fP (fC (.int 1))) cZ) ah)))))
def d4:Nat->FnM
 |0=>fun _ _=>none
 |n+1=>aL 1 (ak (fIf (aC (ag eqD (ag ixD (aa 0) (fC (.int 0))) (fC (.str "peek")))) (ay (fC (.bool false))) aD) (ay (fCB d0 (ae (bM (aZ (fSl (aa 0) (fP (fC (.int 2))) cZ)) bv (ar (d4 n) (ae (aa 0) ah))) ah))))
def du:Nat->FnM
 |0=>fun _ _=>none
 |n+1=>aL 1 (ak (fIf (aS (ar d8 (ae (aa 0) ah))) (ay (fCB gy (ae (aa 0) ah))) aD) (ak (fIf (aS (fUn (br .str) (aa 0))) (ay (ag aG (fC (.str "'")) (aa 0))) aD) (ay (ag aG (ag aG (fC (.str "(")) (ag jY (fC (.str ",")) (bM (aZ (aa 0)) bv (ar (du n) (ae (aa 0) ah))))) (fC (.str ")"))))))
def eW:FnM:=aL 1 (ak (fIf (aC (ag eqD (ag ixD (aa 0) (fC (.int 0))) (fC (.str "put")))) (ay (ao .list (ae (ar (du 25) (ae (ag ixD (aa 0) (fC (.int 1))) ah)) ah))) aD) (ak (fIf (aC (ag eqD (ag ixD (aa 0) (fC (.int 0))) (fC (.str "got")))) (ay (ao .list (ae (fCB gy (ae (ag ixD (aa 0) (fC (.int 1))) ah)) ah))) aD) (ak (fIf (aC (ag eqD (ag ixD (aa 0) (fC (.int 0))) (fC (.str "row")))) (ay (ao .list (ae (fCB gy (ae (fCB aY (ae (ag ixD (aa 0) (fC (.int 1))) ah)) ah)) ah))) aD) (ay (ao .list ah)))))
def c6:Nat->FnM
 |0=>fun _ _=>none
 |n+1=>aL 3 (ak (eO 1 (ao .list (ae (ag ixD (aa 0) (fC (.int 0))) ah)) (ar eW (ae (aa 0) ah))) (ak (bc 2 (aZ (ar cu (ae (aa 0) ah))) (fL 1 (ar (c6 n) (ae (aa 2) ah)))) (ay (aa 1))))
def d3:Nat->FnM
 |0=>fun _ _=>none
 |n+1=>aL 3 (ak (fIf (aC (ag eqD (ag ixD (aa 0) (fC (.int 0))) (fC (.str "fail")))) (ay (ao .list (ae (ag ixD (aa 0) (fC (.int 0))) (ae (ag ixD (aa 0) (fC (.int 1))) ah)))) aD) (ak (eO 1 (ao .list (ae (ag ixD (aa 0) (fC (.int 0))) ah)) (ar (c6 25) (ae (ag ixD (aa 0) (fC (.int 1))) ah))) (ak (bc 2 (aZ (fSl (aa 0) (fP (fC (.int 2))) cZ)) (fL 1 (ar (d3 n) (ae (aa 2) ah)))) (ay (aa 1)))))
def ip:FnM:=aL 1 (ay (ag jZ (fC (.str " ")) (ar (d3 25) (ae (aa 0) ah))))
def fQ:FnM:=aL 2 (ak (fIf (dh (bL (aS (ar d8 (ae (aa 0) ah)))) (bL (aS (ar d8 (ae (aa 1) ah))))) (ay (ao .tuple (ae (fC (.str "fails")) (ae (fC (.str "kind")) ah)))) aD) (ay (ao .tuple (ae (fC (.str "value")) (ae (bW (aC (ag ltD (aa 0) (aa 1))) (fC (.int 1)) (fC (.int 0))) ah)))))
def fS:FnM:=aL 1 (ay (bW (aS (ar jn (ae (aa 0) ah))) (ao .tuple (ae (fC (.str "value")) (ae (aa 0) ah))) (ao .tuple (ae (fC (.str "fails")) (ae (fC (.str "great")) ah)))))
def jd:FnM:=aL 1 (ak (fIf (aS (ar d8 (ae (aa 0) ah))) (ay (ao .tuple (ae (fC (.str "fails")) (ae (fC (.str "kind")) ah)))) aD) (ay (ao .tuple (ae (fC (.str "value")) (ae (fCB aY (ae (aa 0) ah)) ah)))))
def eY:FnM:=aL 2 (ak (fIf (dh (bL (aS (fUn (br .tup) (aa 0)))) (bL (aS (ar d8 (ae (aa 1) ah))))) (ay (ao .tuple (ae (fC (.str "fails")) (ae (fC (.str "kind")) ah)))) aD) (ak (fIf (bL (aC (dQ leD ltD (fC (.int 0)) (aa 1) (fCB aY (ae (aa 0) ah))))) (ay (ao .tuple (ae (fC (.str "fails")) (ae (fC (.str "part")) ah)))) aD) (ay (ao .tuple (ae (fC (.str "value")) (ae (ag ixD (aa 0) (aa 1)) ah))))))
def gJ:FnM:=aL 2 (ak (fIf (dh (bL (aS (ar d8 (ae (aa 0) ah)))) (bL (aS (ar d8 (ae (aa 1) ah))))) (ay (ao .tuple (ae (fC (.str "fails")) (ae (fC (.str "kind")) ah)))) aD) (ay (ar fS (ae (ag aG (aa 0) (aa 1)) ah))))
def je:FnM:=aL 2 (ak (fIf (cX (aS (fUn (br .str) (aa 0))) (aS (fUn (br .str) (aa 1)))) (ay (ar fS (ae (ag aG (aa 0) (aa 1)) ah))) aD) (ak (fIf (cX (aS (fUn (br .tup) (aa 0))) (aS (fUn (br .tup) (aa 1)))) (ay (ar fS (ae (ag aG (aa 0) (aa 1)) ah))) aD) (ay (ao .tuple (ae (fC (.str "fails")) (ae (fC (.str "kind")) ah))))))
def bp:FnM:=aL 2 (ak (fIf (aC (ag eqD (aa 0) (fC (.str "row")))) (ay (ar fS (ae (fCB bz (ae (aa 1) ah)) ah))) aD) (ak (fIf (aC (ag eqD (aa 0) (fC (.str "many")))) (ay (ar jd (ae (ag ixD (aa 1) (fC (.int 0))) ah))) aD) (ak (fIf (aC (ag eqD (aa 0) (fC (.str "part")))) (ay (ar eY (ae (ag ixD (aa 1) (fC (.int 0))) (ae (ag ixD (aa 1) (fC (.int 1))) ah)))) aD) (ak (fIf (aC (ag eqD (aa 0) (fC (.str "sum")))) (ay (ar gJ (ae (ag ixD (aa 1) (fC (.int 0))) (ae (ag ixD (aa 1) (fC (.int 1))) ah)))) aD) (ak (fIf (aC (ag eqD (aa 0) (fC (.str "join")))) (ay (ar je (ae (ag ixD (aa 1) (fC (.int 0))) (ae (ag ixD (aa 1) (fC (.int 1))) ah)))) aD) (ak (fIf (aC (ag eqD (aa 0) (fC (.str "same")))) (ay (ao .tuple (ae (fC (.str "value")) (ae (bW (aC (ag eqG (ag ixD (aa 1) (fC (.int 0))) (ag ixD (aa 1) (fC (.int 1))))) (fC (.int 1)) (fC (.int 0))) ah)))) aD) (ay (ar fQ (ae (ag ixD (aa 1) (fC (.int 0))) (ae (ag ixD (aa 1) (fC (.int 1))) ah))))))))))
def dv:Nat->FnM
 |0=>fun _ _=>none
 |n+1=>aL 5 (ak (fIf (aC (ag eqD (ag ixD (aa 0) (fC (.int 0))) (fC (.str "put")))) (ay (ao .tuple (ae (fC (.str "value")) (ae (ag ixD (aa 0) (fC (.int 1))) ah)))) aD) (ak (fIf (aC (ag eqD (ag ixD (aa 0) (fC (.int 0))) (fC (.str "got")))) (ay (ao .tuple (ae (fC (.str "value")) (ae (ag ixD (aa 1) (ag ixD (aa 0) (fC (.int 1)))) ah)))) aD) (ak (eN 2 ah) (ak (bc 3 (aZ (ar cu (ae (aa 0) ah))) (ak (aE 4 (ar (dv n) (ae (aa 3) (ae (aa 1) ah)))) (ak (fIf (aC (ag eqD (ag ixD (aa 4) (fC (.int 0))) (fC (.str "fails")))) (ay (aa 4)) aD) (dZ 2 (ag ixD (aa 4) (fC (.int 1))))))) (ay (eJ bp (ae (ag ixD (aa 0) (fC (.int 0))) (ae (aa 2) ah))))))))
def cF:Nat->FnM
 |0=>fun _ _=>none
 |n+1=>aL 3 (ak (fIf (aC (ag eqD (ag ixD (aa 0) (fC (.int 0))) (fC (.str "fail")))) (ay (ao .tuple (ae (fC (.str "fails")) (ae (ag ixD (aa 0) (fC (.int 1))) ah)))) aD) (ak (aE 2 (ar (dv 25) (ae (ag ixD (aa 0) (fC (.int 1))) (ae (aa 1) ah)))) (ak (fIf (aC (ag eqD (ag ixD (aa 2) (fC (.int 0))) (fC (.str "fails")))) (ay (aa 2)) aD) (ak (fIf (aC (ag eqD (ag ixD (aa 0) (fC (.int 0))) (fC (.str "when")))) (ay (ar (cF n) (ae (bW (aC (ag inG (ag ixD (aa 2) (fC (.int 1))) (ao .tuple (ae (fC (.int 0)) (ae (fC (.str "")) (ae (ao .tuple ah) ah)))))) (ag ixD (aa 0) (fC (.int 3))) (ag ixD (aa 0) (fC (.int 2)))) (ae (aa 1) ah)))) aD) (ak (fIf (aC (ag eqD (ag ixD (aa 0) (fC (.int 0))) (fC (.str "say")))) (ay (ao .tuple (ae (fC (.str "made")) (ae (ag ixD (aa 2) (fC (.int 1))) ah)))) aD) (ak (fIf (bL (aS (ar iu (ae (ag ixD (aa 2) (fC (.int 1))) ah)))) (ay (ao .tuple (ae (fC (.str "fails")) (ae (fC (.str "name")) ah)))) aD) (ay (ao .tuple (ae (ag ixD (aa 0) (fC (.int 0))) (ae (ag ixD (aa 2) (fC (.int 1))) (ae (ag ixD (aa 0) (fC (.int 2))) ah)))))))))))
def iy:FnM:=aL 1 (ak (fIf (aC (ag eqD (ag ixD (aa 0) (fC (.int 0))) (fC (.str "made")))) (ay (ao .tuple (ae (fC (.str "made")) (ae (ar (du 25) (ae (ag ixD (aa 0) (fC (.int 1))) ah)) ah)))) aD) (ak (fIf (aC (ag eqD (ag ixD (aa 0) (fC (.int 0))) (fC (.str "fails")))) (ay (aa 0)) aD) (ay (ao .tuple (ae (fC (.str "wants")) (ae (ag ixD (aa 0) (fC (.int 1))) ah))))))
def jf:FnM:=aL 3 (ak (aE 2 (fCB bz (ae (bM (aZ (ag ixD (aa 1) (fC (.int 1)))) bv (ao .tuple (ae (ag ixD (aa 0) (fC (.int 0))) (ae (ar (du 25) (ae (ag ixD (aa 0) (fC (.int 1))) ah)) ah)))) ah))) (ay (ao .tuple (ae (aa 0) (ae (aa 2) (ae (ar iy (ae (ag ixD (aa 1) (fC (.int 2))) ah)) ah))))))
def kg:FnM:=aL 3 (ak (cA 1) (ak (bc 2 (aZ (aa 0)) (bG 1 (aa 2) (ar jf (ae (aa 2) (ae (ag ixA (aa 0) (aa 2)) ah))))) (ay (aa 1))))
def jl:FnM:=aL 1 (ay (ao .tuple (ae (ao .tuple ah) (ae (ao .tuple ah) (ae (ar (cF 25) (ae (aa 0) (ae (ao .tuple ah) ah))) ah)))))
def dI:FnM:=aL 1 (ay (bW (aC (ag inD (ag ixD (ag ixD (aa 0) (fC (.int 2))) (fC (.int 0))) (fC (.tuple [.str "want",.str "peek"])))) (ag ixD (ag ixD (aa 0) (fC (.int 2))) (fC (.int 1))) (fC .none)))
def iE:FnM:=aL 5 (ak (aE 2 (ag ixD (aa 0) (fC (.int 2)))) (ak (aE 3 (ag aG (ag ixD (aa 0) (fC (.int 0))) (ao .tuple (ae (aa 1) ah)))) (ak (aE 4 (bW (aC (ag eqD (ag ixD (aa 2) (fC (.int 0))) (fC (.str "want")))) (ag aG (ag ixD (aa 0) (fC (.int 1))) (ao .tuple (ae (ao .tuple (ae (ag ixD (aa 2) (fC (.int 1))) (ae (aa 1) ah))) ah))) (ag ixD (aa 0) (fC (.int 1))))) (ay (ao .tuple (ae (aa 3) (ae (aa 4) (ae (ar (cF 25) (ae (ag ixD (aa 2) (fC (.int 2))) (ae (aa 3) ah))) ah))))))))
def jo:FnM:=aL 2 (ak (bR (aC (ag inA (ar dI (ae (aa 0) ah)) (aa 1))) (aE 0 (ar iE (ae (aa 0) (ae (ag ixA (aa 1) (ar dI (ae (aa 0) ah))) ah)))) 100000) (ay (aa 0)))
def ke:FnM:=aL 7 (ak (gh 1 (ag ixD (aa 0) (fC (.int 0)))) (ak (cA 2) (ak (mi 3 4 (ag ixD (aa 0) (fC (.int 1))) (bG 2 (aa 3) (ar jl (ae (aa 4) ah)))) (ak (aE 5 (fC (.bool true))) (ak (bR (aS (aa 5)) (ak (aE 6 (fCB aY (ae (aa 1) ah))) (ak (bc 3 (aZ (ag ixD (aa 0) (fC (.int 1)))) (ak (bG 2 (aa 3) (fG (ar jo (ae (ag ixA (aa 2) (aa 3)) (ae (aa 1) ah))))) (fIf (aC (ag eqD (ag ixD (ag ixD (ag ixA (aa 2) (aa 3)) (fC (.int 2))) (fC (.int 0))) (fC (.str "made")))) (bG 1 (aa 3) (ag ixD (ag ixD (ag ixA (aa 2) (aa 3)) (fC (.int 2))) (fC (.int 1)))) aD))) (aE 5 (ag gtD (fCB aY (ae (aa 1) ah)) (aa 6))))) 100000) (ay (ao .tuple (ae (aa 1) (ae (aa 2) ah)))))))))
def jm:FnM:=aL 1 (ay (ar kg (ae (ag ixD (ar ke (ae (aa 0) ah)) (fC (.int 1))) ah)))
def gK:FnM:=aL 3 (ak (fIf (dh (aC (ag dP (aa 2) (aa 1))) (dh (aC (ag dP (aa 2) (aa 0))) (aC (ag neD (ag ixD (ag ixA (aa 1) (aa 2)) (fC (.int 0))) (ar ip (ae (ag ixA (aa 0) (aa 2)) ah)))))) (ay (fC .none)) aD) (ay (ag ixD (ag ixA (aa 1) (aa 2)) (fC (.int 1)))))
def gL:FnM:=aL 4 (ak (aE 3 (ar gK (ae (aa 0) (ae (aa 1) (ae (ag ixD (aa 2) (fC (.int 0))) ah))))) (ay (cj (ag iP (aa 3) (fC .none)) (cj (ag neG (aa 3) (aa 2)) (mh (ar (d4 25) (ae (ag ixA (aa 0) (ag ixD (aa 2) (fC (.int 0)))) ah)))))))
def fg:FnM:=gn 3 (ak (aE 2 (ar jm (ae (aa 0) ah))) (oS (bM (aZ (fUn f9 (aa 2))) (aS (ar gL (ae (ag ixD (aa 1) (fC (.int 1))) (ae (aa 2) (ae (ag ixA (aa 3) (aa 0)) ah))))) (aa 0))))
def gQ:FnM:=gn 4 (ak (gh 2 (aa 0)) (ak (bc 3 (aZ (aa 1)) (pJ 2 (aa 3))) (jM 2)))
def bx:FnM:=aL 6 (ak (aE 3 (fC (.int 0))) (ak (fIf (aC (ag gtD (fCB aY (ae (aa 0) ah)) (fC (.int 0)))) (ak (aE 3 (ag ixD (aa 0) (ag cO (aa 1) (fCB aY (ae (aa 0) ah))))) (ak (aE 4 (ag pP (aa 3) (ag bA (fC (.int 7)) (fCB lX (ae (fC (.int 90)) (ae (ag ia (aa 1) (fCB aY (ae (aa 0) ah))) ah)))))) (fIf (cX (aC (ag geD (aa 3) (ag fJ (fC (.int 10)) (fC (.int 18))))) (aC (ag gtD (aa 4) (fC (.int 127))))) (ay (ag cO (aa 4) (aa 2))) aD))) aD) (ak (aE 5 (ag cO (ag bA (ag aG (ag aG (ag aG (ag cO (aa 3) (fC (.int 999999937))) (ag bA (ag bA (fC (.int 31)) (aa 1)) (aa 1))) (ag bA (fC (.int 7)) (aa 1))) (fC (.int 1))) (fC (.int 48271))) (fC (.int 2147483647)))) (ay (ag cO (ag ia (ag cO (ag bA (ag ia (aa 5) (fC (.int 7))) (fC (.int 69621))) (fC (.int 2147483629))) (fC (.int 5))) (aa 2))))))
def cE:FnM:=aL 2 (ak (fIf (aS (fUn (br .dct) (aa 1))) (ay (cj (fUn (br .dct) (aa 0)) (ag eqD (iY (fUn gW (aa 0))) (iY (fUn gW (aa 1)))))) aD) (ay (ag eqD (iY (aa 0)) (iY (aa 1)))))
def cD:Nat->FnM
 |0=>fun _ _=>none
 |n+1=>aL 1 (ak (fIf (aS (fUn (br .int) (aa 0))) (ay (fCB gy (ae (aa 0) ah))) aD) (ak (fIf (aS (fUn (br .str) (aa 0))) (ay (ag aG (fC (.str "'")) (aa 0))) aD) (ay (ag aG (ag aG (fC (.str "(")) (ag jY (fC (.str ",")) (bM (aZ (aa 0)) bv (ar (cD n) (ae (aa 0) ah))))) (fC (.str ")"))))))
def ja:FnM:=aL 5 (ak (aE 2 (ao .list (ae (fC (.str "a")) (ae (fC (.str "ab")) (ae (fC (.str "abc")) (ae (fC (.str "b")) (ae (fC (.str "told")) (ae (fC (.str "made")) (ae (fC (.str "say")) (ae (fC (.str "want")) (ae (fC (.str "wants")) (ae (fC (.str "ba")) (ae (fC (.str "zz")) (ae (fC (.str "x")) ah)))))))))))))) (ak (aE 3 (ar bx (ae (aa 0) (ae (aa 1) (ae (fC (.int 12)) ah))))) (ak (aE 4 (ag ixD (ao .list (ae (fC (.int 1)) (ae (fC (.int 5)) (ae (fC (.int 7)) (ae (fC (.int 11)) ah))))) (ar bx (ae (aa 0) (ae (ag aG (aa 1) (fC (.int 1))) (ae (fC (.int 4)) ah)))))) (ay (bM (fF (ag aG (fC (.int 4)) (ar bx (ae (aa 0) (ae (ag aG (aa 1) (fC (.int 2))) (ae (fC (.int 4)) ah)))))) bv (ag ixD (aa 3) (ag cO (ag aG (aa 4) (ag bA (aa 5) (aa 0))) (fC (.int 12)))))))))
def eX:FnM:=aL 4 (ak (aE 3 (ag aG (ao .list (ae (fC (.int 0)) (ae (fC (.int 1)) (ae (fC (.int 2)) (ae (fUn eS (fC (.int 3))) (ae (fC (.str "")) (ae (fC (.str "a")) (ae (fC (.str "-0")) (ae (ao .tuple ah) (ae (ao .tuple (ae (fC (.int 1)) (ae (fC (.str "b")) ah))) (ae (ao .tuple (ae (fC (.str "a")) (ae (ao .tuple (ae (fC (.int 0)) ah)) ah))) (ae (ag fJ (fC (.int 10)) (fC (.int 18))) (ae (fC (.int 1)) (ae (fC (.int 0)) ah)))))))))))))) (aa 2))) (ay (ag ixD (aa 3) (ar bx (ae (aa 0) (ae (aa 1) (ae (fCB aY (ae (aa 3) ah)) ah)))))))
def ki:FnM:=aL 6 (ak (aE 3 (ao .tuple (ae (fC (.str "got")) (ae (fC (.int 0)) ah)))) (ak (aE 4 (ao .tuple (ae (fC (.str "put")) (ae (ar eX (ae (aa 0) (ae (ag aG (aa 1) (fC (.int 1))) (ae (aa 2) ah)))) ah)))) (ak (aE 5 (ao .list (ae (aa 3) (ae (ao .tuple (ae (fC (.str "sum")) (ae (aa 3) (ae (ao .tuple (ae (fC (.str "put")) (ae (fC (.int 1)) ah))) ah)))) (ae (ao .tuple (ae (fC (.str "join")) (ae (aa 3) (ae (ao .tuple (ae (fC (.str "put")) (ae (fC (.str "a")) ah))) ah)))) (ae (ao .tuple (ae (fC (.str "many")) (ae (aa 3) ah))) (ae (ao .tuple (ae (fC (.str "same")) (ae (aa 3) (ae (aa 4) ah)))) ah))))))) (ak (aE 5 (ag aG (aa 5) (ao .list (ae (ao .tuple (ae (fC (.str "row")) (ae (ao .tuple (ae (aa 3) (ae (aa 4) ah))) ah))) (ae (ao .tuple (ae (fC (.str "part")) (ae (aa 3) (ae (ao .tuple (ae (fC (.str "put")) (ae (fC (.int 0)) ah))) ah)))) (ae (ao .tuple (ae (fC (.str "less")) (ae (aa 3) (ae (ao .tuple (ae (fC (.str "put")) (ae (fC (.int 1)) ah))) ah)))) (ae (ao .tuple (ae (fC (.str "many")) (ae (aa 3) ah))) (ae (aa 3) ah)))))))) (ay (ag ixD (aa 5) (ar bx (ae (aa 0) (ae (aa 1) (ae (fC (.int 10)) ah))))))))))
def i9:FnM:=aL 12 (ak (aE 4 (ao .tuple (ae (fC (.str "put")) (ae (ag ixD (aa 2) (ar bx (ae (aa 0) (ae (aa 1) (ae (fCB aY (ae (aa 2) ah)) ah))))) ah)))) (ak (aE 5 (ao .tuple (ae (fC (.str "put")) (ae (ag ixD (aa 2) (ar bx (ae (aa 0) (ae (ag aG (aa 1) (fC (.int 1))) (ae (fCB aY (ae (aa 2) ah)) ah))))) ah)))) (ak (aE 6 (ao .tuple (ae (fC (.str "say")) (ae (ao .tuple (ae (fC (.str "put")) (ae (ar eX (ae (aa 0) (ae (ag aG (aa 1) (fC (.int 2))) (ae (aa 2) ah)))) ah))) ah)))) (ak (aE 7 (ar ki (ae (aa 0) (ae (ag aG (aa 1) (fC (.int 3))) (ae (aa 2) ah))))) (ak (aE 8 (ao .list (ae (ao .tuple (ae (fC (.str "row")) (ae (ao .tuple (ae (ao .tuple (ae (fC (.str "got")) (ae (fC (.int 0)) ah))) (ae (ao .tuple (ae (fC (.str "got")) (ae (fC (.int 1)) ah))) ah))) ah))) (ae (ao .tuple (ae (fC (.str "same")) (ae (ao .tuple (ae (fC (.str "got")) (ae (fC (.int 0)) ah))) (ae (ao .tuple (ae (fC (.str "got")) (ae (fC (.int 1)) ah))) ah)))) (ae (ao .tuple (ae (fC (.str "sum")) (ae (ao .tuple (ae (fC (.str "got")) (ae (fC (.int 1)) ah))) (ae (ao .tuple (ae (fC (.str "got")) (ae (fC (.int 0)) ah))) ah)))) ah))))) (ak (aE 9 (ao .tuple (ae (fC (.str "say")) (ae (ag ixD (aa 8) (ar bx (ae (aa 0) (ae (ag aG (aa 1) (fC (.int 5))) (ae (fC (.int 3)) ah))))) ah)))) (ak (aE 10 (ao .tuple (ae (fC (.str "want")) (ae (aa 5) (ae (ao .tuple (ae (fC (.str "say")) (ae (ao .tuple (ae (fC (.str "got")) (ae (fC (.int 1)) ah))) ah))) ah))))) (ak (aE 11 (ao .list (ae (aa 6) (ae (ao .tuple (ae (fC (.str "want")) (ae (aa 4) (ae (ao .tuple (ae (fC (.str "say")) (ae (aa 7) ah))) ah)))) (ae (ao .tuple (ae (fC (.str "want")) (ae (aa 4) (ae (ao .tuple (ae (fC (.str "want")) (ae (aa 5) (ae (aa 9) ah)))) ah)))) (ae (ao .tuple (ae (fC (.str "want")) (ae (aa 4) (ae (ao .tuple (ae (fC (.str "say")) (ae (aa 7) ah))) ah)))) ah)))))) (ak (aE 11 (ag aG (aa 11) (ao .list (ae (ao .tuple (ae (fC (.str "want")) (ae (aa 4) (ae (ao .tuple (ae (fC (.str "when")) (ae (aa 7) (ae (aa 10) (ae (aa 6) ah))))) ah)))) (ae (ao .tuple (ae (fC (.str "want")) (ae (aa 4) (ae (ao .tuple (ae (fC (.str "want")) (ae (ao .tuple (ae (fC (.str "got")) (ae (fC (.int 0)) ah))) (ae (ao .tuple (ae (fC (.str "say")) (ae (ao .tuple (ae (fC (.str "got")) (ae (fC (.int 1)) ah))) ah))) ah)))) ah)))) ah))))) (ak (aE 11 (ag aG (aa 11) (ao .list (ae (ao .tuple (ae (fC (.str "fail")) (ae (ag ixD (aa 2) (ar bx (ae (aa 0) (ae (ag aG (aa 1) (fC (.int 6))) (ae (fCB aY (ae (aa 2) ah)) ah))))) ah))) (ae (ao .tuple (ae (fC (.str "want")) (ae (aa 4) (ae (ao .tuple (ae (fC (.str "want")) (ae (aa 4) (ae (aa 9) ah)))) ah)))) ah))))) (ak (aE 11 (ag aG (aa 11) (ao .list (ae (ao .tuple (ae (fC (.str "peek")) (ae (aa 4) (ae (ao .tuple (ae (fC (.str "say")) (ae (aa 7) ah))) ah)))) (ae (ao .tuple (ae (fC (.str "peek")) (ae (aa 4) (ae (ao .tuple (ae (fC (.str "when")) (ae (aa 7) (ae (aa 10) (ae (aa 6) ah))))) ah)))) ah))))) (ak (aE 11 (ag aG (aa 11) (ao .list (ae (ao .tuple (ae (fC (.str "want")) (ae (aa 4) (ae (ao .tuple (ae (fC (.str "peek")) (ae (aa 5) (ae (aa 9) ah)))) ah)))) (ae (ao .tuple (ae (fC (.str "peek")) (ae (aa 4) (ae (ao .tuple (ae (fC (.str "want")) (ae (aa 5) (ae (aa 9) ah)))) ah)))) ah))))) (ay (ag ixD (aa 11) (ar bx (ae (aa 0) (ae (ag aG (aa 1) (fC (.int 7))) (ae (aa 3) ah))))))))))))))))))
def jj:FnM:=aL 7 (ak (cA 4) (ak (cA 5) (ak (bc 6 (fF (ag ib (fCB aY (ae (aa 2) ah)) (fC (.int 1)))) (fIf (aC (ag eqD (ar bx (ae (aa 0) (ae (ag aG (aa 1) (ag bA (fC (.int 10)) (aa 6))) (ae (fC (.int 3)) ah)))) (fC (.int 0)))) (bG 4 (ag ixD (aa 2) (aa 6)) (ar eX (ae (aa 0) (ae (ag aG (ag aG (aa 1) (ag bA (fC (.int 10)) (aa 6))) (fC (.int 1))) (ae (aa 2) ah))))) (bG 5 (ag ixD (aa 2) (aa 6)) (ar i9 (ae (aa 0) (ae (ag aG (ag aG (aa 1) (ag bA (fC (.int 10)) (aa 6))) (fC (.int 2))) (ae (aa 2) (ae (aa 3) ah)))))))) (ay (ao .tuple (ae (aa 4) (ae (aa 5) ah)))))))
def cv:Nat->FnM
 |0=>fun _ _=>none
 |n+1=>aL 2 (ak (fIf (aS (fUn (br .tup) (aa 0))) (ay (cj (ag ltD (aa 1) (fC (.int 4))) (cj (ag leD (fCB aY (ae (aa 0) ah)) (fC (.int 8))) (fCB d0 (ae (bM (aZ (aa 0)) bv (ar (cv n) (ae (aa 0) (ae (ag aG (aa 2) (fC (.int 1))) ah)))) ah))))) aD) (ak (fIf (aS (fUn (br .str) (aa 0))) (ay (ag leD (fCB aY (ae (aa 0) ah)) (fC (.int 20)))) aD) (ay (dQ leD leD (fUn eS (ag fJ (fC (.int 10)) (fC (.int 18)))) (aa 0) (ag fJ (fC (.int 10)) (fC (.int 18)))))))
def bB:FnM:=aL 4 (ak (aE 3 (ao .list (ae (fUn (br .int) (aa 1)) (ae (fUn (br .int) (aa 2)) ah)))) (ak (fIf (aC (ag eqD (aa 0) (fC (.str "same")))) (ay (fCB intD (ae (ag eqD (ar (cD 25) (ae (aa 1) ah)) (ar (cD 25) (ae (aa 2) ah))) ah))) aD) (ak (fIf (aC (ag eqD (aa 0) (fC (.str "part")))) (ak (fIf (dh (bL (aS (fUn (br .tup) (aa 1)))) (bL (aS (ag ixD (aa 3) (fC (.int 1)))))) (ay (fC .none)) aD) (ay (bW (aC (dQ leD ltD (fC (.int 0)) (aa 2) (fCB aY (ae (aa 1) ah)))) (ag ixD (aa 1) (aa 2)) (ao .tuple ah)))) aD) (ak (fIf (aC (ag eqD (aa 0) (fC (.str "join")))) (ak (fIf (dh (aS (ag ixD (aa 3) (fC (.int 0)))) (dh (aS (ag ixD (aa 3) (fC (.int 1)))) (aC (ag neD (fUn (br .str) (aa 1)) (fUn (br .str) (aa 2)))))) (ay (fC .none)) aD) (ay (ag aG (aa 1) (aa 2)))) aD) (ak (fIf (aC (ag neG (aa 3) (ao .list (ae (fC (.bool true)) (ae (fC (.bool true)) ah))))) (ay (fC .none)) aD) (ay (bW (aC (ag eqD (aa 0) (fC (.str "sum")))) (ag aG (aa 1) (aa 2)) (fCB intD (ae (ag ltD (aa 1) (aa 2)) ah)))))))))
def bY:Nat->FnM
 |0=>fun _ _=>none
 |n+1=>aL 6 (ak (fIf (aC (ag eqD (ag ixD (aa 0) (fC (.int 0))) (fC (.str "put")))) (ay (ao .tuple (ae (fC (.str "value")) (ae (ag ixD (aa 0) (fC (.int 1))) ah)))) aD) (ak (fIf (aC (ag eqD (ag ixD (aa 0) (fC (.int 0))) (fC (.str "got")))) (ay (ao .tuple (ae (fC (.str "value")) (ae (ag ixD (aa 1) (ag ixD (aa 0) (fC (.int 1)))) ah)))) aD) (ak (aE 2 (bM (aZ (bW (aC (ag eqD (ag ixD (aa 0) (fC (.int 0))) (fC (.str "row")))) (ag ixD (aa 0) (fC (.int 1))) (fSl (aa 0) (fP (fC (.int 1))) cZ))) bv (ar (bY n) (ae (aa 0) (ae (aa 2) ah))))) (ak (bc 3 (aZ (aa 2)) (fIf (aC (ag eqD (ag ixD (aa 3) (fC (.int 0))) (fC (.str "fails")))) (ay (aa 3)) aD)) (ak (aE 4 (bM (aZ (aa 2)) bv (ag ixD (aa 0) (fC (.int 1))))) (ak (fIf (aC (ag eqD (ag ixD (aa 0) (fC (.int 0))) (fC (.str "row")))) (ay (bW (aS (ar (cv 25) (ae (fCB bz (ae (aa 4) ah)) (ae (fC (.int 0)) ah)))) (ao .tuple (ae (fC (.str "value")) (ae (fCB bz (ae (aa 4) ah)) ah))) (ao .tuple (ae (fC (.str "fails")) (ae (fC (.str "great")) ah))))) aD) (ak (fIf (aC (ag eqD (ag ixD (aa 0) (fC (.int 0))) (fC (.str "many")))) (ay (bW (aS (fUn (br .int) (ag ixD (aa 4) (fC (.int 0))))) (ao .tuple (ae (fC (.str "fails")) (ae (fC (.str "kind")) ah))) (ao .tuple (ae (fC (.str "value")) (ae (fCB aY (ae (ag ixD (aa 4) (fC (.int 0))) ah)) ah))))) aD) (ak (aE 5 (ar bB (ae (ag ixD (aa 0) (fC (.int 0))) (ae (ag ixD (aa 4) (fC (.int 0))) (ae (ag ixD (aa 4) (fC (.int 1))) ah))))) (ak (fIf (aC (ag isD (aa 5) (fC .none))) (ay (ao .tuple (ae (fC (.str "fails")) (ae (fC (.str "kind")) ah)))) aD) (ak (fIf (cX (aC (ag eqD (ag ixD (aa 0) (fC (.int 0))) (fC (.str "part")))) (bL (aC (dQ leD ltD (fC (.int 0)) (ag ixD (aa 4) (fC (.int 1))) (fCB aY (ae (ag ixD (aa 4) (fC (.int 0))) ah)))))) (ay (ao .tuple (ae (fC (.str "fails")) (ae (fC (.str "part")) ah)))) aD) (ay (bW (aS (ar (cv 25) (ae (aa 5) (ae (fC (.int 0)) ah)))) (ao .tuple (ae (fC (.str "value")) (ae (aa 5) ah))) (ao .tuple (ae (fC (.str "fails")) (ae (fC (.str "great")) ah)))))))))))))))
def gE:FnM:=aL 1 (ak (fIf (dh (bL (aS (fUn (br .str) (aa 0)))) (bL (aC (dQ leD leD (fC (.int 1)) (fCB aY (ae (aa 0) ah)) (fC (.int 8)))))) (ay (fC (.bool false))) aD) (ay (fCB d0 (ae (bM (aZ (aa 0)) bv (ag inD (aa 0) (fC (.str "abcdefghijklmnopqrstuvwxyz")))) ah))))
def gN:FnM:=aL 5 (ak (eN 2 ah) (ak (eN 3 ah) (ak (bR (aC (ag ft (ag ixD (aa 0) (fC (.int 0))) (ao .tuple (ae (fC (.str "say")) (ae (fC (.str "fail")) ah))))) (ak (aE 4 (eJ (bY 25) (ae (ag ixD (aa 0) (fC (.int 1))) (ae (aa 2) ah)))) (ak (fIf (aC (ag eqD (ag ixD (aa 4) (fC (.int 0))) (fC (.str "fails")))) (ay (ao .tuple (ae (fCB bz (ae (aa 3) ah)) (ae (aa 4) (ae (fC .none) ah))))) aD) (fIf (aC (ag eqD (ag ixD (aa 0) (fC (.int 0))) (fC (.str "when")))) (aE 0 (bW (aC (ag inG (ag ixD (aa 4) (fC (.int 1))) (ao .tuple (ae (fC (.int 0)) (ae (fC (.str "")) (ae (ao .tuple ah) ah)))))) (ag ixD (aa 0) (fC (.int 3))) (ag ixD (aa 0) (fC (.int 2))))) (fIf (bL (aS (ar gE (ae (ag ixD (aa 4) (fC (.int 1))) ah)))) (ay (ao .tuple (ae (fCB bz (ae (aa 3) ah)) (ae (ao .tuple (ae (fC (.str "fails")) (ae (fC (.str "name")) ah))) (ae (fC .none) ah))))) (fIf (aC (ag dP (ag ixD (aa 4) (fC (.int 1))) (aa 1))) (ay (ao .tuple (ae (fCB bz (ae (aa 3) ah)) (ae (ao .tuple (ae (fC (.str "wants")) (ae (ag ixD (aa 4) (fC (.int 1))) ah))) (ae (fC .none) ah))))) (ak (dZ 2 (ag ixA (aa 1) (ag ixD (aa 4) (fC (.int 1))))) (ak (fIf (aC (ag eqD (ag ixD (aa 0) (fC (.int 0))) (fC (.str "want")))) (dZ 3 (ao .tuple (ae (ag ixD (aa 4) (fC (.int 1))) (ae (ar (cD 25) (ae (ag ixD (aa 2) (fUn eS (fC (.int 1)))) ah)) ah)))) aD) (aE 0 (ag ixD (aa 0) (fC (.int 2))))))))))) 100000) (ak (aE 4 (ao .tuple (ae (fC (.str "fails")) (ae (ag ixD (aa 0) (fC (.int 1))) ah)))) (ak (fIf (aC (ag eqD (ag ixD (aa 0) (fC (.int 0))) (fC (.str "say")))) (aE 4 (eJ (bY 25) (ae (ag ixD (aa 0) (fC (.int 1))) (ae (aa 2) ah)))) aD) (ak (fIf (aC (ag eqD (ag ixD (aa 4) (fC (.int 0))) (fC (.str "fails")))) (ay (ao .tuple (ae (fCB bz (ae (aa 3) ah)) (ae (aa 4) (ae (fC .none) ah))))) aD) (ay (ao .tuple (ae (fCB bz (ae (aa 3) ah)) (ae (ao .tuple (ae (fC (.str "made")) (ae (ar (cD 25) (ae (ag ixD (aa 4) (fC (.int 1))) ah)) ah))) (ae (ag ixD (aa 4) (fC (.int 1))) ah)))))))))))
def ji:FnM:=aL 5 (ak (gh 1 (ag ixD (aa 0) (fC (.int 0)))) (ak (aE 2 (fUn eS (fC (.int 1)))) (ak (bR (aC (ag ltD (aa 2) (fCB aY (ae (aa 1) ah)))) (ak (aE 2 (fCB aY (ae (aa 1) ah))) (bc 3 (aZ (ag ixD (aa 0) (fC (.int 1)))) (ak (aE 4 (fG (ar gN (ae (ag ixA (ag ixD (aa 0) (fC (.int 1))) (aa 3)) (ae (aa 1) ah))))) (fIf (cX (aC (ag dP (aa 3) (aa 1))) (aC (ag eqD (ag ixD (ag ixD (aa 4) (fC (.int 1))) (fC (.int 0))) (fC (.str "made"))))) (bG 1 (aa 3) (ag ixD (aa 4) (fC (.int 2)))) aD)))) 100000) (ay (aa 1)))))
def gG:FnM:=aL 4 (ak (aE 1 (ar ji (ae (aa 0) ah))) (ak (cA 2) (ak (bc 3 (aZ (ag ixD (aa 0) (fC (.int 1)))) (bG 2 (aa 3) (ag aG (ao .tuple (ae (aa 3) ah)) (fSl (ar gN (ae (ag ixA (ag ixD (aa 0) (fC (.int 1))) (aa 3)) (ae (aa 1) ah))) cZ (fP (fC (.int 2))))))) (ay (aa 2)))))
def bX:Nat->FnM
 |0=>fun _ _=>none
 |n+1=>aL 3 (ak (fIf (aC (ag eqD (ag ixD (aa 0) (fC (.int 0))) (fC (.str "put")))) (ay (ao .list (ae (fC (.str "put")) (ae (ar (cD 25) (ae (ag ixD (aa 0) (fC (.int 1))) ah)) ah)))) aD) (ak (fIf (aC (ag eqD (ag ixD (aa 0) (fC (.int 0))) (fC (.str "row")))) (ak (aE 1 (ao .list (ae (fC (.str "row")) (ae (fCB eA (ae (fCB aY (ae (ag ixD (aa 0) (fC (.int 1))) ah)) ah)) ah)))) (ak (bc 2 (aZ (ag ixD (aa 0) (fC (.int 1)))) (aE 1 (ag aG (aa 1) (ar (bX n) (ae (aa 2) ah))))) (ay (aa 1)))) aD) (ak (aE 1 (ao .list (ae (ag ixD (aa 0) (fC (.int 0))) ah))) (ak (bc 2 (aZ (fSl (aa 0) (fP (fC (.int 1))) cZ)) (aE 1 (ag aG (aa 1) (bW (aS (fUn (br .tup) (aa 2))) (ar (bX n) (ae (aa 2) ah)) (ao .list (ae (fCB eA (ae (aa 2) ah)) ah)))))) (ay (aa 1))))))
def gF:FnM:=aL 1 (ay (ag jZ (fC (.str " ")) (ar (bX 25) (ae (aa 0) ah))))
def iq:FnM:=aL 1 (ay (ag ft (fC (.str "peek")) (ar (bX 25) (ae (aa 0) ah))))
def jb:FnM:=aL 6 (ak (cA 4) (ak (bc 5 (aZ (ag ixD (aa 3) (fC (.int 0)))) (ak (bG 4 (aa 5) (ag ixA (ag ixD (aa 3) (fC (.int 0))) (aa 5))) (fIf (aC (ag eqD (ar bx (ae (aa 0) (ae (ag aG (aa 1) (ag bA (fC (.int 2)) (fCB aY (ae (aa 4) ah)))) (ae (fC (.int 2)) ah)))) (fC (.int 0)))) (bG 4 (aa 5) (ar eX (ae (aa 0) (ae (ag aG (ag aG (aa 1) (fC (.int 1))) (ag bA (fC (.int 2)) (fCB aY (ae (aa 4) ah)))) (ae (aa 2) ah))))) aD))) (ay (ao .tuple (ae (aa 4) (ae (ag ixD (aa 3) (fC (.int 1))) ah))))))
def dr:FnM:=aL 12 (ak (aE 6 (ar bx (ae (aa 0) (ae (aa 1) (ae (fC (.int 7)) ah))))) (ak (aE 7 (fUn f9 (ag ixD (aa 3) (fC (.int 1))))) (ak (fIf (cX (aC (ag gtD (aa 6) (fC (.int 4)))) (aC (ag gtD (fCB aY (ae (aa 7) ah)) (fC (.int 0))))) (ak (aE 8 (ag ixD (aa 7) (ar bx (ae (aa 0) (ae (ag aG (aa 1) (fC (.int 1))) (ae (fCB aY (ae (aa 7) ah)) ah)))))) (ak (aE 9 (ag aG (ao .tuple (ae (aa 2) ah)) (fSl (ag ixA (ag ixD (ao .list (ae (aa 4) (ae (aa 5) ah))) (ag ib (aa 6) (fC (.int 5)))) (aa 8)) (fP (fC (.int 1))) cZ))) (ay (ao .list (ae (ao .tuple (ae (ar gF (ae (ag ixA (ag ixD (aa 3) (fC (.int 1))) (aa 8)) ah)) (ae (aa 9) ah))) ah))))) aD) (ak (fIf (dh (aC (ag dP (aa 2) (ag ixD (aa 3) (fC (.int 1))))) (aC (ag eqD (aa 6) (fC (.int 0))))) (ay (ao .list ah)) aD) (ak (aE 10 (ar gF (ae (ag ixA (ag ixD (aa 3) (fC (.int 1))) (aa 2)) ah))) (ak (fIf (cX (aC (ag eqD (aa 6) (fC (.int 1)))) (bL (aS (ar iq (ae (ag ixA (ag ixD (aa 3) (fC (.int 1))) (aa 2)) ah))))) (ak (aE 11 (fSl (ao .tuple (ae (ao .tuple (ae (fC (.str "a")) (ae (fC (.str "1")) ah))) (ae (ao .tuple (ae (fC (.str "zz")) (ae (fC (.str "'")) ah))) ah))) cZ (fP (ar bx (ae (aa 0) (ae (ag aG (aa 1) (fC (.int 1))) (ae (fC (.int 3)) ah))))))) (ay (ao .list (ae (ao .tuple (ae (aa 10) (ae (ao .tuple (ae (aa 2) (ae (aa 11) (ae (ag ixD (ao .list (ae (ao .tuple (ae (fC (.str "made")) (ae (fC (.str "1")) ah))) (ae (ao .tuple (ae (fC (.str "wants")) (ae (fC (.str "a")) ah))) (ae (ao .tuple (ae (fC (.str "fails")) (ae (fC (.str "b")) ah))) ah)))) (ar bx (ae (aa 0) (ae (ag aG (aa 1) (fC (.int 2))) (ae (fC (.int 3)) ah))))) ah)))) ah))) ah)))) aD) (ay (ao .list (ae (ao .tuple (ae (aa 10) (ae (ag ixA (ag ixD (ao .list (ae (aa 4) (ae (aa 5) ah))) (ag cO (aa 6) (fC (.int 2)))) (aa 2)) ah))) ah)))))))))
def jh:FnM:=aL 4 (ak (cA 2) (ak (bc 3 (aZ (aa 0)) (fIf (aC (ag ft (aa 3) (aa 1))) (bG 2 (aa 3) (ag ixA (aa 0) (aa 3))) aD)) (ay (aa 2))))
def lY:FnM:=aL 15 (ak (aE 1 (ar ja (ae (aa 0) (ae (fC (.int 0)) ah)))) (ak (aE 2 (ar jj (ae (aa 0) (ae (fC (.int 10)) (ae (aa 1) (ae (ag ixD (ao .list (ae (fC (.int 8)) (ae (fC (.int 12)) (ae (fC (.int 12)) ah)))) (ar bx (ae (aa 0) (ae (fC (.int 4)) (ae (fC (.int 3)) ah))))) ah)))))) (ak (aE 3 (ar gG (ae (aa 2) ah))) (ak (aE 4 (ar gG (ae (ar jb (ae (aa 0) (ae (fC (.int 100)) (ae (aa 1) (ae (aa 2) ah))))) ah))) (ak (cA 5) (ak (bc 6 (fF (fCB aY (ae (aa 1) ah))) (bc 7 (aZ (ar dr (ae (aa 0) (ae (ag aG (fC (.int 130)) (ag bA (fC (.int 4)) (aa 6))) (ae (ag ixD (aa 1) (aa 6)) (ae (aa 2) (ae (aa 3) (ae (aa 4) ah)))))))) (bG 5 (ag ixD (aa 1) (aa 6)) (aa 7)))) (kb 5 (ak (eN 8 ah) (ak (bc 9 (aZ (fUn f9 (aa 5))) (fIf (cX (aC (ag inA (aa 9) (ag ixD (aa 2) (fC (.int 1))))) (cX (bL (aS (ar iq (ae (ag ixA (ag ixD (aa 2) (fC (.int 1))) (aa 9)) ah)))) (aC (ag eqD (ag ixD (ag ixA (aa 5) (aa 9)) (fC (.int 0))) (ar gF (ae (ag ixA (ag ixD (aa 2) (fC (.int 1))) (aa 9)) ah)))))) (fIf (aC (ag neG (ag ixD (ag ixA (aa 5) (aa 9)) (fC (.int 1))) (ag ixA (aa 3) (aa 9)))) (dZ 8 (aa 9)) aD) aD)) (kb 8 (ak (aE 10 (j4 (aa 5))) (ak (lK 11 fg (ae (aa 2) (ae (aa 5) ah))) (ak (fIf (bL (aS (eJ cE (ae (aa 11) (ae (aa 8) ah))))) (ay (fC (.bool false))) aD) (ak (aE 12 (ag aG (bM (fF (fCB aY (ae (aa 1) ah))) (aC (ag eqD (ar bx (ae (aa 1) (ae (ag aG (fC (.int 170)) (aa 0)) (ae (fC (.int 2)) ah)))) (fC (.int 0)))) (ag ixD (aa 2) (aa 0))) (ao .list (ae (fC (.str "nobody")) ah)))) (ak (bc 13 (aZ (ao .tuple (ae (aa 8) (ae (aa 12) (ae (ao .list ah) ah))))) (ak (mf 14 gQ (ae (aa 5) (ae (fCB eh (ae (aa 13) ah)) ah))) (ak (fIf (bL (aS (fG (ar cE (ae (aa 14) (ae (ar jh (ae (aa 10) (ae (aa 13) ah))) ah)))))) (ay (fC (.bool false))) aD) (bG 14 (fC (.str "x")) (ao .tuple (ae (fC (.str "")) (ae (ao .tuple ah) ah))))))) (ak (dZ 11 (fC (.str "x"))) (ay (cj (ar cE (ae (iG fg (ae (aa 2) (ae (lL gQ (ae (aa 5) (ae (aa 8) ah))) ah))) (ae (ao .list ah) ah))) (cj (ar cE (ae (aa 5) (ae (aa 10) ah))) (ar cE (ae (iG fg (ae (aa 2) (ae (aa 5) ah))) (ae (aa 8) ah))))))))))))))))))))))
def qa(n:Nat):FS:=(fL 1 (ar (c6 n) (ae (aa 2) ah)))
theorem xj(n:Nat):c6 (n+1)=aL 3 (ak (eO 1 (ao .list (ae (ag ixD (aa 0) (fC (.int 0))) ah)) (ar eW (ae (aa 0) ah))) (ak (bc 2 (aZ (ar cu (ae (aa 0) ah))) (qa n)) (ay (aa 1)))):=rfl
def mB(n:Nat):FS:=(fL 1 (ar (d3 n) (ae (aa 2) ah)))
theorem p8(n:Nat):d3 (n+1)=aL 3 (ak (fIf (aC (ag eqD (ag ixD (aa 0) (fC (.int 0))) (fC (.str "fail")))) (ay (ao .list (ae (ag ixD (aa 0) (fC (.int 0))) (ae (ag ixD (aa 0) (fC (.int 1))) ah)))) aD) (ak (eO 1 (ao .list (ae (ag ixD (aa 0) (fC (.int 0))) ah)) (ar (c6 25) (ae (ag ixD (aa 0) (fC (.int 1))) ah))) (ak (bc 2 (aZ (fSl (aa 0) (fP (fC (.int 2))) cZ)) (mB n)) (ay (aa 1))))):=rfl
def qt:FS:=(pJ 2 (aa 3))
theorem xR:gQ=gn 4 (ak (gh 2 (aa 0)) (ak (bc 3 (aZ (aa 1)) qt) (jM 2))):=rfl
def kJ:FS:=(fIf (aC (ag eqD (ar bx (ae (aa 0) (ae (ag aG (aa 1) (ag bA (fC (.int 10)) (aa 6))) (ae (fC (.int 3)) ah)))) (fC (.int 0)))) (bG 4 (ag ixD (aa 2) (aa 6)) (ar eX (ae (aa 0) (ae (ag aG (ag aG (aa 1) (ag bA (fC (.int 10)) (aa 6))) (fC (.int 1))) (ae (aa 2) ah))))) (bG 5 (ag ixD (aa 2) (aa 6)) (ar i9 (ae (aa 0) (ae (ag aG (ag aG (aa 1) (ag bA (fC (.int 10)) (aa 6))) (fC (.int 2))) (ae (aa 2) (ae (aa 3) ah)))))))
theorem zd:jj=aL 7 (ak (cA 4) (ak (cA 5) (ak (bc 6 (fF (ag ib (fCB aY (ae (aa 2) ah)) (fC (.int 1)))) kJ) (ay (ao .tuple (ae (aa 4) (ae (aa 5) ah))))))):=rfl
def fV:FS:=(ak (aE 4 (eJ (bY 25) (ae (ag ixD (aa 0) (fC (.int 1))) (ae (aa 2) ah)))) (ak (fIf (aC (ag eqD (ag ixD (aa 4) (fC (.int 0))) (fC (.str "fails")))) (ay (ao .tuple (ae (fCB bz (ae (aa 3) ah)) (ae (aa 4) (ae (fC .none) ah))))) aD) (fIf (aC (ag eqD (ag ixD (aa 0) (fC (.int 0))) (fC (.str "when")))) (aE 0 (bW (aC (ag inG (ag ixD (aa 4) (fC (.int 1))) (ao .tuple (ae (fC (.int 0)) (ae (fC (.str "")) (ae (ao .tuple ah) ah)))))) (ag ixD (aa 0) (fC (.int 3))) (ag ixD (aa 0) (fC (.int 2))))) (fIf (bL (aS (ar gE (ae (ag ixD (aa 4) (fC (.int 1))) ah)))) (ay (ao .tuple (ae (fCB bz (ae (aa 3) ah)) (ae (ao .tuple (ae (fC (.str "fails")) (ae (fC (.str "name")) ah))) (ae (fC .none) ah))))) (fIf (aC (ag dP (ag ixD (aa 4) (fC (.int 1))) (aa 1))) (ay (ao .tuple (ae (fCB bz (ae (aa 3) ah)) (ae (ao .tuple (ae (fC (.str "wants")) (ae (ag ixD (aa 4) (fC (.int 1))) ah))) (ae (fC .none) ah))))) (ak (dZ 2 (ag ixA (aa 1) (ag ixD (aa 4) (fC (.int 1))))) (ak (fIf (aC (ag eqD (ag ixD (aa 0) (fC (.int 0))) (fC (.str "want")))) (dZ 3 (ao .tuple (ae (ag ixD (aa 4) (fC (.int 1))) (ae (ar (cD 25) (ae (ag ixD (aa 2) (fUn eS (fC (.int 1)))) ah)) ah)))) aD) (aE 0 (ag ixD (aa 0) (fC (.int 2)))))))))))
def dN:FS:=(ak (aE 4 (fG (ar gN (ae (ag ixA (ag ixD (aa 0) (fC (.int 1))) (aa 3)) (ae (aa 1) ah))))) (fIf (cX (aC (ag dP (aa 3) (aa 1))) (aC (ag eqD (ag ixD (ag ixD (aa 4) (fC (.int 1))) (fC (.int 0))) (fC (.str "made"))))) (bG 1 (aa 3) (ag ixD (aa 4) (fC (.int 2)))) aD))
def kI:FS:=(ak (aE 2 (fCB aY (ae (aa 1) ah))) (bc 3 (aZ (ag ixD (aa 0) (fC (.int 1)))) dN))
theorem zc:ji=aL 5 (ak (gh 1 (ag ixD (aa 0) (fC (.int 0)))) (ak (aE 2 (fUn eS (fC (.int 1)))) (ak (bR (aC (ag ltD (aa 2) (fCB aY (ae (aa 1) ah)))) kI 100000) (ay (aa 1))))):=rfl
def ko:FS:=(bG 2 (aa 3) (ag aG (ao .tuple (ae (aa 3) ah)) (fSl (ar gN (ae (ag ixA (ag ixD (aa 0) (fC (.int 1))) (aa 3)) (ae (aa 1) ah))) cZ (fP (fC (.int 2))))))
theorem yu:gG=aL 4 (ak (aE 1 (ar ji (ae (aa 0) ah))) (ak (cA 2) (ak (bc 3 (aZ (ag ixD (aa 0) (fC (.int 1)))) ko) (ay (aa 2))))):=rfl
def qS(n:Nat):FS:=(aE 1 (ag aG (aa 1) (ar (bX n) (ae (aa 2) ah))))
def qR(n:Nat):FS:=(aE 1 (ag aG (aa 1) (bW (aS (fUn (br .tup) (aa 2))) (ar (bX n) (ae (aa 2) ah)) (ao .list (ae (fCB eA (ae (aa 2) ah)) ah)))))
theorem mI(n:Nat):bX (n+1)=aL 3 (ak (fIf (aC (ag eqD (ag ixD (aa 0) (fC (.int 0))) (fC (.str "put")))) (ay (ao .list (ae (fC (.str "put")) (ae (ar (cD 25) (ae (ag ixD (aa 0) (fC (.int 1))) ah)) ah)))) aD) (ak (fIf (aC (ag eqD (ag ixD (aa 0) (fC (.int 0))) (fC (.str "row")))) (ak (aE 1 (ao .list (ae (fC (.str "row")) (ae (fCB eA (ae (fCB aY (ae (ag ixD (aa 0) (fC (.int 1))) ah)) ah)) ah)))) (ak (bc 2 (aZ (ag ixD (aa 0) (fC (.int 1)))) (qS n)) (ay (aa 1)))) aD) (ak (aE 1 (ao .list (ae (ag ixD (aa 0) (fC (.int 0))) ah))) (ak (bc 2 (aZ (fSl (aa 0) (fP (fC (.int 1))) cZ)) (qR n)) (ay (aa 1)))))):=rfl
def kq:FS:=(ak (bG 4 (aa 5) (ag ixA (ag ixD (aa 3) (fC (.int 0))) (aa 5))) (fIf (aC (ag eqD (ar bx (ae (aa 0) (ae (ag aG (aa 1) (ag bA (fC (.int 2)) (fCB aY (ae (aa 4) ah)))) (ae (fC (.int 2)) ah)))) (fC (.int 0)))) (bG 4 (aa 5) (ar eX (ae (aa 0) (ae (ag aG (ag aG (aa 1) (fC (.int 1))) (ag bA (fC (.int 2)) (fCB aY (ae (aa 4) ah)))) (ae (aa 2) ah))))) aD))
theorem yv:jb=aL 6 (ak (cA 4) (ak (bc 5 (aZ (ag ixD (aa 3) (fC (.int 0)))) kq) (ay (ao .tuple (ae (aa 4) (ae (ag ixD (aa 3) (fC (.int 1))) ah)))))):=rfl
def kH:FS:=(fIf (aC (ag ft (aa 3) (aa 1))) (bG 2 (aa 3) (ag ixA (aa 0) (aa 3))) aD)
theorem zb:jh=aL 4 (ak (cA 2) (ak (bc 3 (aZ (aa 0)) kH) (ay (aa 2)))):=rfl
def tj:FS:=(bG 5 (ag ixD (aa 1) (aa 6)) (aa 7))
def jx:FS:=(bc 7 (aZ (ar dr (ae (aa 0) (ae (ag aG (fC (.int 130)) (ag bA (fC (.int 4)) (aa 6))) (ae (ag ixD (aa 1) (aa 6)) (ae (aa 2) (ae (aa 3) (ae (aa 4) ah)))))))) tj)
def fU:FS:=(fIf (cX (aC (ag inA (aa 9) (ag ixD (aa 2) (fC (.int 1))))) (cX (bL (aS (ar iq (ae (ag ixA (ag ixD (aa 2) (fC (.int 1))) (aa 9)) ah)))) (aC (ag eqD (ag ixD (ag ixA (aa 5) (aa 9)) (fC (.int 0))) (ar gF (ae (ag ixA (ag ixD (aa 2) (fC (.int 1))) (aa 9)) ah)))))) (fIf (aC (ag neG (ag ixD (ag ixA (aa 5) (aa 9)) (fC (.int 1))) (ag ixA (aa 3) (aa 9)))) (dZ 8 (aa 9)) aD) aD)
def nL:FS:=(ak (mf 14 gQ (ae (aa 5) (ae (fCB eh (ae (aa 13) ah)) ah))) (ak (fIf (bL (aS (fG (ar cE (ae (aa 14) (ae (ar jh (ae (aa 10) (ae (aa 13) ah))) ah)))))) (ay (fC (.bool false))) aD) (bG 14 (fC (.str "x")) (ao .tuple (ae (fC (.str "")) (ae (ao .tuple ah) ah))))))
theorem Ae:lY=aL 15 (ak (aE 1 (ar ja (ae (aa 0) (ae (fC (.int 0)) ah)))) (ak (aE 2 (ar jj (ae (aa 0) (ae (fC (.int 10)) (ae (aa 1) (ae (ag ixD (ao .list (ae (fC (.int 8)) (ae (fC (.int 12)) (ae (fC (.int 12)) ah)))) (ar bx (ae (aa 0) (ae (fC (.int 4)) (ae (fC (.int 3)) ah))))) ah)))))) (ak (aE 3 (ar gG (ae (aa 2) ah))) (ak (aE 4 (ar gG (ae (ar jb (ae (aa 0) (ae (fC (.int 100)) (ae (aa 1) (ae (aa 2) ah))))) ah))) (ak (cA 5) (ak (bc 6 (fF (fCB aY (ae (aa 1) ah))) jx) (kb 5 (ak (eN 8 ah) (ak (bc 9 (aZ (fUn f9 (aa 5))) fU) (kb 8 (ak (aE 10 (j4 (aa 5))) (ak (lK 11 fg (ae (aa 2) (ae (aa 5) ah))) (ak (fIf (bL (aS (eJ cE (ae (aa 11) (ae (aa 8) ah))))) (ay (fC (.bool false))) aD) (ak (aE 12 (ag aG (bM (fF (fCB aY (ae (aa 1) ah))) (aC (ag eqD (ar bx (ae (aa 1) (ae (ag aG (fC (.int 170)) (aa 0)) (ae (fC (.int 2)) ah)))) (fC (.int 0)))) (ag ixD (aa 2) (aa 0))) (ao .list (ae (fC (.str "nobody")) ah)))) (ak (bc 13 (aZ (ao .tuple (ae (aa 8) (ae (aa 12) (ae (ao .list ah) ah))))) nL) (ak (dZ 11 (fC (.str "x"))) (ay (cj (ar cE (ae (iG fg (ae (aa 2) (ae (lL gQ (ae (aa 5) (ae (aa 8) ah))) ah))) (ae (ao .list ah) ah))) (cj (ar cE (ae (aa 5) (ae (aa 10) ah))) (ar cE (ae (iG fg (ae (aa 2) (ae (aa 5) ah))) (ae (aa 8) ah)))))))))))))))))))))):=rfl
end G
namespace K1
open PySem
structure Sh(d:PyData)(k n:Nat):Prop where
 sh:d.showable=true
 lv:d.leavesShort 200=true
 dp:d.depth<=k
 wt:d.weight<=n
theorem Sh.mono{d:PyData}{k n k' n':Nat}(h:Sh d k n)(hk:k<=k')(hn:n<=n'):Sh d k' n':=⟨h.sh,h.lv,Nat.le_trans h.dp hk,Nat.le_trans h.wt hn⟩
theorem Sh.int{i:Int}(h:i.natAbs<10^40):Sh (.int i) 0 200:=by
 have l:i.natAbs.log2<150:=by
  by_cases h0:i.natAbs=0
  .rw[h0];decide
  .exact(Nat.log2_lt h0).mpr (Nat.lt_trans h (by decide))
 refine⟨?_,?_,Nat.le_refl _,?_⟩
 .show decide (i.natAbs.log2<1920)=true
  exact decide_eq_true (by omega)
 .show decide ((PyData.shown (.int i)).length<=200)=true
  refine decide_eq_true ?_;have e:=int_text_length_le10 (k:=40) (by decide) h;show (Str.ofString (toString i)).length<=200;rw[ofString_length];omega
 .show (if i == 0 then 0 else i.natAbs.log2+1)<=200
  split <;> omega
theorem Sh.str{x:Str}{n:Nat}(h:∀c∈x.cps.toList,c<128)(hn:x.length<=n):Sh (.str x) 0 n:=by
 refine⟨rfl,?_,Nat.le_refl _,hn⟩;show (x.cps.toList.all fun c=>decide (c<16^8))=true;exact List.all_eq_true.mpr fun c hc=>decide_eq_true (Nat.lt_trans (h c hc) (by decide))
structure Shs(ds:List PyData)(k n:Nat):Prop where
 sh:PyData.showableAll ds=true
 lv:PyData.leavesShortAll 200 ds=true
 dp:PyData.depthAll ds<=k
 wt:PyData.weightAll ds<=n
theorem Shs.nil(k n:Nat):Shs [] k n:=⟨rfl,rfl,Nat.zero_le _,Nat.zero_le _⟩
theorem Shs.cons{d:PyData}{ds:List PyData}{k n m:Nat}(h:Sh d k n)(t:Shs ds k m):Shs (d::ds) k (n+1+m):=by
 refine⟨?_,?_,?_,?_⟩
 .show (d.showable&&PyData.showableAll ds)=true
  rw[h.sh,t.sh];rfl
 .show (d.leavesShort 200&&PyData.leavesShortAll 200 ds)=true
  rw[h.lv,t.lv];rfl
 .show max d.depth (PyData.depthAll ds)<=k
  exact Nat.max_le.mpr ⟨h.dp,t.dp⟩
 .show d.weight+1+PyData.weightAll ds<=n+1+m
  have:=h.wt;have:=t.wt;omega
theorem Shs.of:∀{ds:List PyData}{k:Nat}{f:PyData->Nat},(∀d∈ds,Sh d k (f d))->Shs ds k ((ds.map fun d=>f d+1).sum)
 |[],k,f,_=>Shs.nil _ _
 |d::r,k,f,h=>by
  have q:=Shs.of (ds:=r) (f:=f) fun x hx=>h x (List.mem_cons_of_mem _ hx);have z:=Shs.cons (h d List.mem_cons_self) q;simpa using z
theorem Sh.tuple{ds:List PyData}{k n:Nat}(h:Shs ds k n):Sh (.tuple ds) (k+1) n:=⟨h.sh,h.lv,Nat.succ_le_succ h.dp,h.wt⟩
theorem iQ{s x:Str}(hs:∀c∈s.cps.toList,c<128)(h:has s x=true):∀c∈x.cps.toList,c<128:=fun c hc=>
 hs c (of_decide_eq_true (List.all_eq_true.mp h c hc))
theorem iS:∀c∈TXT.cps.toList,c<128:=by decide +kernel
theorem oK:∀(n:Nat) (d:PyData),aH n d=true->Sh d n (201*(aI n d).toNat)/\1<=aI n d
 |0,d,h=>by
  cases d with
  |int i=>
   have h':=of_decide_eq_true (p:=(if i<0 then -i else i)<=10^18) h;refine⟨(Sh.int ?_).mono (Nat.le_refl _) (by show 200<=201*(1:Int).toNat;decide),Int.le_refl 1⟩
   have:i.natAbs<=10^18:=by split at h' <;> omega
   exact Nat.lt_of_le_of_lt this (by decide)
  |str x=>
   have h':(decide (x.length<=20)&&has TXT x)=true:=h;rw[Bool.and_eq_true] at h';have:=of_decide_eq_true h'.1;exact⟨(Sh.str (n:=20) (iQ iS h'.2) this).mono (Nat.le_refl _) (by show 20<=201*(1:Int).toNat;decide),Int.le_refl 1⟩
  |_=>cases h
 |n+1,d,h=>by
  cases d with
  |int i=>
   have h':=of_decide_eq_true (p:=(if i<0 then -i else i)<=10^18) h;refine⟨(Sh.int ?_).mono (Nat.zero_le _) (by show 200<=201*(1:Int).toNat;decide),Int.le_refl 1⟩
   have:i.natAbs<=10^18:=by split at h' <;> omega
   exact Nat.lt_of_le_of_lt this (by decide)
  |str x=>
   have h':(decide (x.length<=20)&&has TXT x)=true:=h;rw[Bool.and_eq_true] at h';have:=of_decide_eq_true h'.1;exact⟨(Sh.str (n:=20) (iQ iS h'.2) this).mono (Nat.zero_le _) (by show 20<=201*(1:Int).toNat;decide),Int.le_refl 1⟩
  |tuple ds=>
   have h':(decide (ds.length<=8)&&ds.all (aH n))=true:=h;rw[Bool.and_eq_true] at h';have ha:=List.all_eq_true.mp h'.2;have q:=Shs.of (ds:=ds) (k:=n) (f:=fun x=>201*(aI n x).toNat) fun x hx=>(oK n x (ha x hx)).1
   have key:∀l:List PyData,(∀x∈l,1<=aI n x)->0<=(l.map (aI n)).sum/\(l.map fun x=>201*(aI n x).toNat+1).sum<=201*((l.map (aI n)).sum).toNat+l.length:=by
    intro l
    induction l with
    |nil=>intro _;exact⟨by simp,by simp⟩
    |cons x r ih=>
     intro hx;have h1:=hx x List.mem_cons_self;have h2:=ih fun y hy=>hx y (List.mem_cons_of_mem _ hy);simp only[List.map_cons,List.sum_cons,List.length_cons];omega
   have kk:=key ds fun x hx=>(oK n x (ha x hx)).2;have hl:=of_decide_eq_true h'.1;have e:aI (n+1) (.tuple ds)=1+(ds.map (aI n)).sum:=rfl;refine⟨(Sh.tuple q).mono (Nat.le_refl _) ?_,?_⟩
   .rw[e];omega
   .rw[e];omega
  |_=>cases h
end K1
namespace K1
open PySem
def Good(d:PyData):Prop:=Sh d 60 60000
end K1
namespace G
open PySem PySem.Spec PyProof.Rows L2 D
open K1 (has LET TXT single aH aI lsz isName aR tdp bf ldp)
mutual
def smB:PyData->Bool
 |.str x=>decide (x.length<=60000)&&x.cps.toList.all fun c=>decide (c<128)
 |.tuple ds=>gz ds
 |_=>true
def gz:List PyData->Bool
 |[]=>true
 |d::r=>smB d&&gz r
end
def Sm(d:PyData):Prop:=smB d=true
theorem Sm.both{x:Str}(h:Sm (.str x)):x.length<=60000/\∀c∈x.cps.toList,c<128:=by
 have h':(decide (x.length<=60000)&&x.cps.toList.all fun c=>decide (c<128))=true:=by
  have:smB (.str x)=true:=h;rw[smB] at this;exact this
 rw[Bool.and_eq_true,List.all_eq_true] at h';exact⟨of_decide_eq_true h'.1,fun c hc=>of_decide_eq_true (h'.2 c hc)⟩
theorem Sm.str{x:Str}(h:Sm (.str x)):x.cps.size<=60000:=h.both.1
theorem Sm.mkS{x:Str}(h:x.length<=60000)(h2:∀c∈x.cps.toList,c<128):Sm (.str x):=by
 show smB (.str x)=true;rw[smB,Bool.and_eq_true,List.all_eq_true];exact⟨decide_eq_true h,fun c hc=>decide_eq_true (h2 c hc)⟩
theorem Sm.ok{x:Str}(h:Sm (.str x)):PyData.strOk x=true:=by
 unfold PyData.strOk;rw[Array.all_eq_true'];intro c hc;exact decide_eq_true (Nat.lt_trans (h.both.2 c (by simpa using hc)) (by decide))
theorem sf:∀{ds:List PyData}{d:PyData},gz ds=true->d∈ds->smB d=true
 |e::r,d,h,hd=>by
  have h':(smB e&&gz r)=true:=by simpa[gz] using h
  rw[Bool.and_eq_true] at h'
  rcases List.mem_cons.mp hd with z|z
  .rw[z];exact h'.1
  .exact sf h'.2 z
theorem Sm.part{ds:List PyData}{d:PyData}(h:Sm (.tuple ds))(hd:d∈ds):Sm d:=sf (by simpa[Sm,smB] using h) hd
theorem tB:∀{ds:List PyData},(∀d∈ds,Sm d)->gz ds=true
 |[],_=>by simp[gz]
 |d::r,h=>by
  have h1:smB d=true:=h d List.mem_cons_self;simp[gz,h1,tB (ds:=r) fun x hx=>h x (List.mem_cons_of_mem _ hx)]
theorem Sm.tup{ds:List PyData}(h:∀d∈ds,Sm d):Sm (.tuple ds):=by simp[Sm,smB,tB h]
def whole:PyData->Bool
 |.int _=>true
 |_=>false
theorem iH(x:PyData)(T:Tp):d8 [.d x] T=some (.bool (whole x),T):=by cases x <;> rfl
theorem rb(y x:Str):(D.signs x).all (jG y)=has y x:=by
 unfold D.signs has;rw[List.all_map]
 congr 1
 funext c;exact Av y c
theorem wq{x y:Str}(T:Tp)(h:x.length<=sizeLine):gM [.d (.str x),.d (.str y)] T=some (.bool (has y x),T):=by
 have hc:bE bv (ag inD (aa 0) (aa 2)) [some (.d (.str x)),some (.d (.str y))] (D.signs x) T=some ((D.signs x).map fun d=>.bool (jG y d),T):=d9 fun d hd=>by
  obtain⟨c,_,rfl⟩:=q8 hd;rfl
 simp[gM,h,hc,rb]
theorem AU{d:PyData}(T:Tp)(h:Sm d):jg [.d d] T=some (.bool (single d),T):=by
 cases d with
 |str x=>
  have hz:x.length<=sizeLine:=Nat.le_trans h.str (by decide);have hh:∀T,gM [.d (.str x),.d (.str "abcdefghijklmnopqrstuvwxyz0123456789-")] T=some (.bool (has TXT x),T):=fun T=>wq T hz;have e:single (.str x)=(decide (x.length<=20)&&has TXT x):=rfl;have hi:bU .str .str=true:=rfl
  by_cases hk:x.length<=20
  .have hk':(x.length:Int)<=20:=by omega
   simp[jg,iH,whole,hh,hz,hi,e,hk,hk']
  .have hk':¬(x.length:Int)<=20:=by omega
   simp[jg,iH,whole,hh,hz,hi,e,hk,hk']
 |_=>rfl
theorem lG{d:PyData}(h:kd d=.tup):∃ds,d=.tuple ds:=by cases d <;> first|exact⟨_,rfl⟩|cases h
theorem tJ{d:PyData}(h:kd d≠.tup):bU (kd d) .tup=false:=by
 revert h
 cases kd d <;> simp[bU]
theorem qr{n:Nat}{d:PyData}(h:kd d≠.tup):aH n d=single d:=by cases d <;> first|(cases n <;> rfl)|exact absurd rfl h
theorem qB{n:Nat}{d:PyData}(h:kd d≠.tup):aI n d=1:=by cases d <;> first|(cases n <;> rfl)|exact absurd rfl h
theorem Fc{d:PyData}(h:tdp 0 d=true):kd d≠.tup:=by
 intro z
 cases d <;> first|cases h;done|cases z
theorem lH:bU .tup .tup=true:=rfl
theorem uv:∀(n k:Nat) (d:PyData) (T:Tp),Sm d->n<k->eG k [.d d,.d (.int n)] T=some (.bool (aH n d),T)
 |n,0,d,T,_,hk=>absurd hk (Nat.not_lt_zero _)
 |n,k+1,d,T,hg,hk=>by
  by_cases ht:kd d=.tup
  .obtain⟨ds,rfl⟩:=lG ht
   cases n with
   |zero=>simp[eG,lH,aH]
   |succ n=>
    have e:aH (n+1) (.tuple ds)=(decide (ds.length<=8)&&ds.all (aH n)):=rfl
    have h0:¬((n+1:Nat):Int)=0:=by omega
    have h0':¬(n:Int)+1=0:=by omega
    by_cases h8:ds.length<=8
    .have h8':¬(8:Int)<(ds.length:Int):=by omega
     have hs:((n+1:Nat):Int)-1=(n:Int):=by omega
     have hc:bE bv (ar (eG k) (ae (aa 0) (ae (ag ib (aa 2) (fC (.int 1))) ah))) [some (.d (.tuple ds)),some (.d (.int ((n+1:Nat):Int)))] ds T=some (ds.map fun x=>.bool (aH n x),T):=d9 fun x hx=>by
      have:=uv n k x T (hg.part hx) (by omega);simp[hs,this]
     simp[eG,lH,e,h0,h0',h8,h8'] at hc ⊢;simp[hc]
    .have h8':(8:Int)<(ds.length:Int):=by omega
     simp[eG,lH,e,h0,h0',h8,h8']
  .simp[eG,tJ ht,qr ht,AU T hg]
theorem vF:∀(n k:Nat) (d:PyData) (T:Tp),tdp n d=true->n<k->gO k [.d d] T=some (.int (aI n d),T)
 |n,0,d,T,_,hk=>absurd hk (Nat.not_lt_zero _)
 |n,k+1,d,T,hg,hk=>by
  by_cases ht:kd d=.tup
  .cases n with
   |zero=>exact absurd ht (Fc hg)
   |succ n=>
    obtain⟨ds,rfl⟩:=lG ht;have hg':ds.all (tdp n)=true:=hg;have e:aI (n+1) (.tuple ds)=1+(ds.map (aI n)).sum:=rfl
    have hc:bE bv (ar (gO k) (ae (aa 0) ah)) [some (.d (.tuple ds))] ds T=some (ds.map fun x=>.int (aI n x),T):=d9 fun x hx=>by
     have:=vF n k x T (List.all_eq_true.mp hg' x hx) (by omega);simp[this]
    simp[gO,lH,e,hc]
  .simp[gO,tJ ht,qB ht]
theorem Cb{d:PyData}(T:Tp)(h:Sm d):jn [.d d] T=some (.bool (aR d),T):=by
 have h1:=uv 4 25 d T h (by decide);have h1':eG 25 [.d d,.d (.int 4)] T=some (.bool (aH 4 d),T):=h1;have e:aR d=(aH 4 d&&decide (aI 4 d<=40)):=rfl
 cases hb:aH 4 d with
 |false=>simp[jn,h1',e,hb]
 |true=>
  have h2:=vF 4 25 d T (K1.rR 4 d hb) (by decide);simp[jn,h1',h2,e,hb]
end G
namespace D
open PySem PySem.Spec PyProof.Rows L2
def cd(x:Str):List Nat:=x.cps.toList
theorem hJ{x y:Str}(h:cd x=cd y):x=y:=by
 obtain⟨x⟩:=x;obtain⟨y⟩:=y;have h':x.toList=y.toList:=h;exact congrArg Str.mk (Array.toList_inj.mp h')
theorem lQ(x:Str):(cd x).length=x.length:=Array.length_toList
theorem jP(x y:Str):cd (x++y)=cd x++cd y:=cps_toList_append x y
def bJ(c:List Nat):List (List Nat)->List Nat
 |[]=>[]
 |[x]=>x
 |x::y::r=>x++c++bJ c (y::r)
theorem tV(z:Str):∀ys:List Str,cd (Str.join z ys)=bJ (cd z) (ys.map cd)
 |[]=>rfl
 |[x]=>by
  show cd (Str.join z [x])=cd x;simp[Str.join]
 |x::y::r=>by
  have ih:=tV z (y::r);show cd ((x++z)++Str.join z (y::r))=_;rw[jP,jP,ih];rfl
theorem yb(c x:List Nat)(r:List (List Nat)):bJ c (x::r)=x++(r.map (c++·)).flatten:=by
 induction r generalizing x with
 |nil=>simp[bJ]
 |cons y r ih=>
  show x++c++bJ c (y::r)=_;rw[ih y];simp
end D
namespace G
open PySem PySem.Spec PyProof.Rows L2 D
open K1 (has LET TXT single aH aI lsz isName aR tdp bf ldp)
def mk(l:List Nat):Str:=⟨l.toArray⟩
theorem cM(l:List Nat):cd (mk l)=l:=by simp[cd,mk]
theorem vV(x:Str):mk (cd x)=x:=hJ (cM _)
theorem cV(l:List Nat):(mk l).length=l.length:=by simp[mk,Str.length]
def dg(m:Nat):List Nat:=(Nat.toDigits 10 m).map Char.toNat
theorem mj(m:Nat):NumText.AllDigits (dg m):=fun c hc=>by
 obtain⟨ch,hch,e⟩:=List.mem_map.mp hc;rw[←e];exact digit_range (Nat.isDigit_of_mem_toDigits (by decide) (by decide) hch)
theorem lM(m:Nat):NumText.digitsVal (dg m)=m:=W.KIN.val_back m
theorem EQ(m:Nat):dg m≠[]:=fun e=>by
 have h:=toDigits_len_ge 10 m;rw[List.map_eq_nil_iff.mp e] at h;exact absurd h (by decide)
theorem vj{m:Nat}(h:m<=10^18):(dg m).length<=19:=by
 unfold dg;rw[List.length_map];exact toDigits_len_pow (by decide) (by decide) (Nat.lt_of_le_of_lt h (by decide))
def nc:Int->List Nat
 |.ofNat m=>dg m
 |.negSucc m=>45::dg (m+1)
theorem Ez(i:Int):cd (Str.ofString (toString i))=nc i:=by
 cases i with
 |ofNat m=>exact W.KIN.signs_num m
 |negSucc m=>
  have e:toString (Int.negSucc m)="-"++toString (m+1):=rfl;unfold cd;rw[e,signs_ofString];show ("-"++Nat.repr (m+1)).toList.map Char.toNat=_;rw[String.toList_append,List.map_append,Nat.toList_repr];rfl
theorem iD(i:Int):∀c∈nc i,c=45\/(48<=c/\c<=57):=by
 cases i with
 |ofNat m=>exact fun c hc=>.inr (mj m c hc)
 |negSucc m=>
  intro c hc
  rcases List.mem_cons.mp hc with h|h
  .exact .inl h
  .exact .inr (mj _ c h)
theorem Ey(i:Int):nc i≠[]:=by
 cases i with
 |ofNat m=>exact EQ m
 |negSucc m=>exact fun h=>nomatch h
theorem mH{i:Int}(h:single (.int i)=true):i.natAbs<=10^18:=by
 have h':(if i<0 then -i else i)<=10^18:=of_decide_eq_true h
 have e:((10:Int)^18)=1000000000000000000:=by decide
 have e2:((10:Nat)^18)=1000000000000000000:=by decide
 rw[e] at h';rw[e2]
 split at h' <;> omega
theorem Dd{i:Int}(h:single (.int i)=true):(nc i).length<=20:=by
 have h:=mH h
 cases i with
 |ofNat m=>
  have:=vj (m:=m) h;show (dg m).length<=20;omega
 |negSucc m=>
  have:=vj (m:=m+1) h;show (dg (m+1)).length+1<=20;omega
theorem dH{d:PyData}(h:single d=true):(∃i,d=.int i)\/∃x,d=.str x:=by cases d <;> first|exact .inl ⟨_,rfl⟩|exact .inr ⟨_,rfl⟩|cases h
theorem d6{n:Nat}{d:PyData}(h:aH n d=true):single d=true\/∃m ds,n=m+1/\d=.tuple ds/\ds.length<=8/\∀x∈ds,aH m x=true:=by
 by_cases k:kd d=.tup
 .obtain⟨ds,rfl⟩:=lG k
  cases n with
  |zero=>cases h
  |succ m=>
   right;have h':(decide (ds.length<=8)&&ds.all (aH m))=true:=h;rw[Bool.and_eq_true] at h';exact⟨m,ds,rfl,rfl,of_decide_eq_true h'.1,List.all_eq_true.mp h'.2⟩
 .left
  rw[qr k] at h;exact h
theorem uP{i j:Int}(h:nc i=nc j):i=j:=by
 cases i with
 |ofNat m=>
  cases j with
  |ofNat k=>
   have h':dg m=dg k:=h;have:=congrArg NumText.digitsVal h';rw[lM,lM] at this;rw[this]
  |negSucc k=>
   have h':dg m=45::dg (k+1):=h;have:=mj m 45 (by rw[h'];exact List.mem_cons_self);omega
 |negSucc m=>
  cases j with
  |ofNat k=>
   have h':45::dg (m+1)=dg k:=h;have:=mj k 45 (by rw[←h'];exact List.mem_cons_self);omega
  |negSucc k=>
   have h':45::dg (m+1)=45::dg (k+1):=h;have:=congrArg NumText.digitsVal (List.cons.inj h').2;rw[lM,lM] at this
   have:m=k:=by omega
   rw[this]
theorem lO{p:Nat->Bool}{a b r s:List Nat}(ha:∀c∈a,p c=false)(hb:∀c∈b,p c=false)(hr:∀c,r.head? = some c->p c=true)(hs:∀c,s.head? = some c->p c=true)(h:a++r=b++s):a=b/\r=s:=by
 have key:∀{a r:List Nat},(∀c∈a,p c=false)->(∀c,r.head? = some c->p c=true)->(a++r).takeWhile (fun c=>!p c)=a:=fun {a r} ha hr=>by
  rw[List.takeWhile_append_of_pos (fun c hc=>by rw[ha c hc];rfl)]
  cases r with
  |nil=>simp
  |cons x r=>
   have:=hr x rfl;rw[List.takeWhile_cons,this];simp
 have e:=congrArg (List.takeWhile fun c=>!p c) h;rw[key ha hr,key hb hs] at e;subst e;exact⟨rfl,List.append_cancel_left h⟩
def tl(f:PyData->List Nat)(ds:List PyData)(r:List Nat):List Nat:=(ds.map fun d=>44::32::f d).flatten++41::r
theorem yl{x:Str}(h:single (.str x)=true):has TXT x=true:=by
 have h':(decide (x.length<=20)&&has TXT x)=true:=h;rw[Bool.and_eq_true] at h';exact h'.2
def Beh(r:List Nat):Prop:=∀c,r.head? = some c->c=44\/c=41
def bnB(c:Nat):Bool:=decide (c=44)||decide (c=41)
theorem gw{r:List Nat}(h:Beh r):∀c,r.head? = some c->bnB c=true:=fun c hc=>by
 rcases h c hc with z|z <;> simp[bnB,z]
open K1 (has LET TXT single aH aI lsz isName aR tdp bf ldp Sh Shs)
theorem u7:bU .str .str=true:=rfl
theorem u6:bU .tup .str=false:=rfl
def sam(a b:PyData):Bool:=@decide (a=b) (Classical.propDecidable _)
theorem sam_iff{a b:PyData}:sam a b=true↔a=b:=by
 unfold sam;exact @decide_eq_true_iff _ (Classical.propDecidable _)
def gt(ds:List PyData)(i:Int):PyData:=(ds[i.toNat]?).getD .none
def both(ds es:List PyData):PyData->Bool
 |.int i=>sam (gt ds i) (gt es i)
 |_=>true
theorem nI:∀(n:Nat) (v:PyData),aH n v=true->Sm v
 |n,v,h=>by
  rcases d6 h with h1|⟨m,ds,rfl,rfl,_,hd⟩
  .rcases dH h1 with⟨i,rfl⟩|⟨x,rfl⟩
   .show smB (.int i)=true
    rw[smB];intro _ z;cases z;intro _ z;cases z
   .have h2:(decide (x.length<=20)&&has TXT x)=true:=h1
    rw[Bool.and_eq_true] at h2;exact Sm.mkS (Nat.le_trans (of_decide_eq_true h2.1) (by decide)) (K1.iQ K1.iS h2.2)
  .exact Sm.tup fun d hx=>nI m d (hd d hx)
termination_by n=>n
theorem uy{v:PyData}(h:aR v=true):Sm v:=by
 have h':(aH 4 v&&decide (aI 4 v<=40))=true:=h;rw[Bool.and_eq_true] at h';exact nI 4 v h'.1
theorem dM{v:PyData}(h:aR v=true):aH 4 v=true/\aI 4 v<=40:=by
 have h':(aH 4 v&&decide (aI 4 v<=40))=true:=h;rw[Bool.and_eq_true] at h';exact⟨h'.1,of_decide_eq_true h'.2⟩
theorem nB(n:Nat):∀d,1<=aI n d:=by
 induction n with
 |zero=>intro d;cases d <;> exact Int.le_refl _
 |succ n ih=>
  intro d
  by_cases k:kd d=.tup
  .obtain⟨ds,rfl⟩:=lG k
   have:=K1.uB (aI n) ih ds;show 1<=1+(ds.map (aI n)).sum;omega
  .rw[qB k]
   exact Int.le_refl _
theorem r9{f:PyData->Int}(h:∀d,0<=f d):∀{ds:List PyData}{d:PyData},d∈ds->f d<=(ds.map f).sum
 |e::r,d,hd=>by
  have nn:∀l:List PyData,0<=(l.map f).sum:=fun l=>by
   induction l with
   |nil=>exact Int.le_refl _
   |cons a l ih=>rw[List.map_cons,List.sum_cons];have:=h a;omega
  rw[List.map_cons,List.sum_cons]
  rcases List.mem_cons.mp hd with z|z
  .subst z
   have:=nn r;omega
  .have:=r9 h (ds:=r) z
   have:=h e;omega
theorem rC{n:Nat}{ds:List PyData}{d:PyData}(h:d∈ds):aI n d<=aI (n+1) (.tuple ds):=by
 have:=r9 (f:=aI n) (fun d=>by have:=nB n d;omega) h;show aI n d<=1+(ds.map (aI n)).sum;omega
theorem cS{n:Nat}(h:n<=2000):n<=sizeLine:=Nat.le_trans h (by decide)
theorem qG{P:PyData->Prop}(h:∀a b,P a->P b->(PyData.eqv a b=true↔a=b)):∀(ds es:List PyData),(∀d∈ds,P d)->(∀d∈es,P d)->(PyData.eqvAll ds es=true↔ds=es)
 |[],[],_,_=>by simp[PyData.eqvAll]
 |[],e::es,_,_=>by simp[PyData.eqvAll]
 |d::ds,[],_,_=>by simp[PyData.eqvAll]
 |d::ds,e::es,hd,he=>by
  have ih:=qG h ds es (fun x hx=>hd x (List.mem_cons_of_mem _ hx)) (fun x hx=>he x (List.mem_cons_of_mem _ hx));have i0:=h d e (hd d List.mem_cons_self) (he e List.mem_cons_self);simp only[PyData.eqvAll];rw[Bool.and_eq_true,i0,ih];simp
theorem tZ:∀(n:Nat) (a b:PyData),aH n a=true->aH n b=true->(PyData.eqv a b=true↔a=b)
 |n,a,b,ha,hb=>by
  rcases d6 ha with h1|⟨m,ds,rfl,rfl,h8,hd⟩
  .rcases dH h1 with⟨i,rfl⟩|⟨x,rfl⟩
   .rcases d6 hb with h2|⟨m,es,rfl,rfl,g8,he⟩
    .rcases dH h2 with⟨j,rfl⟩|⟨y,rfl⟩
     .simp[PyData.eqv]
     .simp[PyData.eqv]
    .simp[PyData.eqv]
   .rcases d6 hb with h2|⟨m,es,rfl,rfl,g8,he⟩
    .rcases dH h2 with⟨j,rfl⟩|⟨y,rfl⟩
     .simp[PyData.eqv]
     .simp[PyData.eqv]
    .simp[PyData.eqv]
  .rcases d6 hb with h2|⟨m',es,e,rfl,g8,he⟩
   .rcases dH h2 with⟨j,rfl⟩|⟨y,rfl⟩
    .simp[PyData.eqv]
    .simp[PyData.eqv]
   .cases e
    have:=qG (P:=fun d=>aH m d=true) (tZ m) ds es hd he;simp only[PyData.eqv];rw[this];simp
termination_by n=>n
theorem BS{a b:PyData}(ha:aR a=true)(hb:aR b=true):PyData.eqv a b=sam a b:=by rw[Bool.eq_iff_iff,tZ 4 a b (dM ha).1 (dM hb).1,sam_iff]
theorem jD{ds:List PyData}(h:∀d∈ds,d.canLay0=true):PyData.canLayAll0 ds=true:=by
 induction ds with
 |nil=>simp[PyData.canLayAll0]
 |cons d r ih=>
  simp only[PyData.canLayAll0];rw[h d List.mem_cons_self,ih fun x hx=>h x (List.mem_cons_of_mem _ hx)];rfl
theorem qN:∀(n:Nat) (d:PyData),aH n d=true->d.canLay0=true
 |n,d,h=>by
  rcases d6 h with h1|⟨m,ds,rfl,rfl,h8,hd⟩
  .rcases dH h1 with⟨i,rfl⟩|⟨x,rfl⟩
   .simp[PyData.canLay0]
   .have hx:=yl h1
    simp only[PyData.canLay0];unfold PyData.strOk;rw[←Array.all_toList,List.all_eq_true];intro c hc;have:=K1.iQ K1.iS hx c hc;exact decide_eq_true (by omega)
  .simp only[PyData.canLay0]
   exact jD fun d hd'=>qN m d (hd d hd')
termination_by n=>n
theorem ux{f:PyData->Int}:∀{ds:List PyData},(∀d∈ds,(d.weight:Int)+1<=61*f d)->(PyData.weightAll ds:Int)<=61*(ds.map f).sum
 |[],_=>by simp[PyData.weightAll]
 |d::r,h=>by
  have h1:=h d List.mem_cons_self;have h2:=ux (ds:=r) fun x hx=>h x (List.mem_cons_of_mem _ hx);simp only[PyData.weightAll,List.map_cons,List.sum_cons];omega
theorem uw:∀(n:Nat) (d:PyData),aH n d=true->(d.weight:Int)+1<=61*aI n d
 |n,d,h=>by
  have hp:=nB n d
  rcases d6 h with h1|⟨m,ds,rfl,rfl,h8,hd⟩
  .rcases dH h1 with⟨i,rfl⟩|⟨x,rfl⟩
   .have ha:=mH h1
    have:(PyData.int i).weight<=60:=by
     simp only[PyData.weight];split
     .omega
     .rename_i hz
      have z:i.natAbs≠0:=by simp at hz;omega
      have:=(Nat.log2_lt (k:=60) z).mpr (Nat.lt_of_le_of_lt ha (by decide));omega
    omega
   .have h':(decide (x.length<=20)&&has TXT x)=true:=h1
    rw[Bool.and_eq_true] at h';have hx:x.cps.size<=20:=of_decide_eq_true h'.1
    have:(PyData.str x).weight=x.cps.size:=by simp only[PyData.weight]
    omega
  .have:=ux (f:=aI m) (ds:=ds) fun d hd'=>uw m d (hd d hd')
   have e:(PyData.tuple ds).weight=PyData.weightAll ds:=by simp only[PyData.weight]
   rw[e];show _<=61*(1+(ds.map (aI m)).sum);omega
termination_by n=>n
theorem zO{n:Nat}{d:PyData}(h:aH n d=true):Sh d n (61*aI n d).toNat:=by
 obtain⟨s,_⟩:=K1.oK n d h;have:=uw n d h;exact⟨s.sh,s.lv,s.dp,by omega⟩
theorem zN{v:PyData}(h:aR v=true):Sh v 4 2440:=by
 obtain⟨hb,hm⟩:=dM h;exact(zO hb).mono (Nat.le_refl _) (by omega)
theorem ir{v:PyData}(h:aR v=true):SeqAt.shaped v=true:=by
 have:=(zN h).dp;unfold SeqAt.shaped;rw[qN 4 v (dM h).1,decide_eq_true (by omega)];rfl
theorem BL{d:PyData}(h:Sh d 60 60000)(hd:d.hasDict=false):gq d=true:=by
 unfold gq;rw[h.sh,h.lv,decide_eq_true h.dp,decide_eq_true h.wt,hd];rfl
theorem vC{α:Type}{xs:List α}{i:Int}(h0:0<=i)(h1:i<(xs.length:Int)):∃a,atI xs i=some a/\a∈xs:=by
 have h:i.toNat<xs.length:=by omega
 refine⟨xs[i.toNat],?_,List.getElem_mem h⟩;unfold atI ixN;rw[if_pos h0,if_pos h1];show xs[i.toNat]? = _;rw[List.getElem?_eq_getElem h]
theorem sO{z:Str}{xs:List PyData}{ys:List Str}(h:b9 xs=some ys):jY (.str z) (.list xs)=if (ys.map (·.length)).sum+ys.length*z.length<=16777216 then some (.str (Str.join z ys)) else none:=by
 show (match b9 xs with|some (ys:List Str)=>if (ys.map fun x:Str=>x.length).sum+ys.length*z.length<=16777216 then some (PyData.str (Str.join z ys)) else none|none=>none)=_;rw[h]
theorem nA(n:Nat):(cy 0 n).length=n:=by simp[cy]
theorem mO{j:Int}(h0:0<=j)(h1:j<=1000):gk j=true:=decide_eq_true (by omega)
theorem xS{x:Str}(h:isName (.str x)=true):single (.str x)=true:=by
 have h':(decide (1<=x.length)&&decide (x.length<=8)&&has LET x)=true:=h;rw[Bool.and_eq_true,Bool.and_eq_true] at h';have h8:=of_decide_eq_true h'.1.2;show (decide (x.length<=20)&&has TXT x)=true;rw[decide_eq_true (by omega)]
 have sub:∀c∈LET.cps.toList,c∈TXT.cps.toList:=by decide +kernel
 exact List.all_eq_true.mpr fun c hc=>decide_eq_true (sub c (of_decide_eq_true (List.all_eq_true.mp h'.2 c hc)))
theorem qy{i:Int}(h : -1000000000000000000<=i)(h':i<=1000000000000000000):single (.int i)=true:=by
 show decide ((if i<0 then -i else i)<=10^18)=true;refine decide_eq_true ?_
 split <;> omega
theorem gH{n:Nat}{d:PyData}(h:single d=true):aH n d=true/\aI n d=1:=by
 cases d with
 |int i=>exact⟨by cases n <;> exact h,by cases n <;> rfl⟩
 |str x=>exact⟨by cases n <;> exact h,by cases n <;> rfl⟩
 |_=>cases h
theorem uA{f:PyData->Int}{q:Int}:∀{l:List PyData},(∀d∈l,f d<=q)->(l.map f).sum<=l.length*q
 |[],_=>by simp
 |a::r,h=>by
  have h1:=h a List.mem_cons_self;have h2:=uA (l:=r) fun d hd=>h d (List.mem_cons_of_mem _ hd);rw[List.map_cons,List.sum_cons,List.length_cons]
  have:((r.length+1:Nat):Int)*q=r.length*q+q:=by rw[Int.natCast_add,Int.add_mul];simp
  omega
open K1 (has LET TXT single aH aI lsz isName aR tdp bf ldp Good Sh Shs)
@[simp] theorem Bv{a b:String}:Str.ofString a=Str.ofString b↔a=b:=by
 constructor
 .intro h
  have h2:(Str.ofString a).cps.toList=(Str.ofString b).cps.toList:=by rw[h]
  rw[signs_ofString,signs_ofString] at h2;have inj:Function.Injective Char.toNat:=fun x y e=>Char.ext (UInt32.toNat_inj.mp e);exact String.toList_inj.mp ((List.map_inj_right (fun x y e=>inj e)).mp h2)
 .rintro rfl;rfl
@[simp] theorem Hv{f:FE}{ρ:Rho}{T:Tp}:iY f ρ T=bnd (f ρ T) fun w T1=>jR T1 w:=rfl
inductive Va:Nat->PyData->Prop where
 |int {n:Nat}{i:Int}:single (.int i)=true->Va n (.int i)
 |str {n:Nat}{x:Str}:single (.str x)=true->Va n (.str x)
 |tup {n:Nat}{ds:List PyData}:ds.length<=2->(∀d∈ds,Va n d)->Va (n+1) (.tuple ds)
abbrev VV(v:PyData):Prop:=Va 4 v
theorem Va.up{n m:Nat}{v:PyData}(h:Va n v)(l:n<=m):Va m v:=by
 induction h generalizing m with
 |int h=>exact .int h
 |str h=>exact .str h
 |tup h g ih=>
  obtain⟨k,rfl⟩:∃k,m=k+1:=⟨m-1,by omega⟩;exact .tup h fun d hd=>ih d hd (by omega)
theorem Va.blt{n:Nat}{v:PyData}(h:Va n v):aH n v=true/\aI n v+1<=2^(n+1):=by
 induction h with
 |@int n i h=>
  have p:(2:Int)<=2^(n+1):=by
   have:2^1<=2^(n+1):=Nat.pow_le_pow_right (by decide) (by omega)
   exact_mod_cast this
  exact⟨(gH h).1,by rw[(gH (n:=n) h).2];omega⟩
 |@str n x h=>
  have p:(2:Int)<=2^(n+1):=by
   have:2^1<=2^(n+1):=Nat.pow_le_pow_right (by decide) (by omega)
   exact_mod_cast this
  exact⟨(gH h).1,by rw[(gH (n:=n) h).2];omega⟩
 |@tup n ds h g ih=>
  refine⟨?_,?_⟩
  .show (decide (ds.length<=8)&&ds.all (aH n))=true
   rw[decide_eq_true (by omega),List.all_eq_true.mpr fun d hd=>(ih d hd).1];rfl
  .have s:=uA (f:=aI n) (q:=2^(n+1)-1) (l:=ds) fun d hd=>by have:=(ih d hd).2;omega
   have p:(1:Int)<=2^(n+1):=by
    have:2^0<=2^(n+1):=Nat.pow_le_pow_right (by decide) (by omega)
    exact_mod_cast this
   have e:(2:Int)^(n+1+1)=2^(n+1)*2:=Int.pow_succ 2 (n+1);have q:(ds.length:Int)*(2^(n+1)-1)<=2*(2^(n+1)-1):=Int.mul_le_mul_of_nonneg_right (by omega) (by omega);show 1+(ds.map (aI n)).sum+1<=_;rw[e];omega
theorem VV.val{v:PyData}(h:VV v):aR v=true:=by
 have:=h.blt;show (aH 4 v&&decide (aI 4 v<=40))=true;rw[this.1,decide_eq_true (by have:=this.2;omega)];rfl
theorem Va.low{n:Nat}{v:PyData}(h:Va n v):∀m,aH m v=true->Va m v:=by
 induction h with
 |int h=>exact fun _ _=>.int h
 |str h=>exact fun _ _=>.str h
 |@tup n ds h g ih=>
  intro m hb
  cases m with
  |zero=>cases hb
  |succ m=>
   have hb':(decide (ds.length<=8)&&ds.all (aH m))=true:=hb;rw[Bool.and_eq_true] at hb';exact .tup h fun d hd=>ih d hd m (List.all_eq_true.mp hb'.2 d hd)
theorem VV.part{ds:List PyData}{d:PyData}(h:VV (.tuple ds))(hd:d∈ds):VV d:=by cases h with|tup _ g=>exact(g d hd).up (by decide)
theorem lq{i:Int}(h : -1000000000000000000<=i)(h':i<=1000000000000000000):VV (.int i):=.int (qy h h')
theorem jF{x:Str}(h:VV (.str x)):has TXT x=true/\x.length<=20:=by
 cases h with
 |str h=>
  have h':(decide (x.length<=20)&&has TXT x)=true:=h;rw[Bool.and_eq_true] at h';exact⟨h'.2,of_decide_eq_true h'.1⟩
theorem VV.cases{v:PyData}(h:VV v):(∃i,v=.int i/\single (.int i)=true)\/(∃x,v=.str x/\x.length<=20/\(∀c∈x.cps.toList,c<128)/\has TXT x=true)\/∃ds,v=.tuple ds/\ds.length<=2/\∀d∈ds,Va 3 d:=by
 cases h with
 |int h=>exact .inl ⟨_,rfl,h⟩
 |@str _ x h=>
  have h':=jF (.str h);exact .inr (.inl ⟨x,rfl,h'.2,K1.iQ K1.iS h'.1,h'.1⟩)
 |@tup _ ds h g=>exact .inr (.inr ⟨ds,rfl,h,g⟩)
inductive CQ:PyData->Prop where
 |int (i:Int):CQ (.int i)
 |str {x:Str}:x.length<=60000->has TXT x=true->CQ (.str x)
 |tup {ds:List PyData}:ds.length<=2->(∀d∈ds,VV d)->CQ (.tuple ds)
theorem CQ.of{v:PyData}(h:VV v):CQ v:=by
 rcases h.cases with⟨i,rfl,_⟩|⟨x,rfl,hx,_,ht⟩|⟨ds,rfl,hd,hv⟩
 .exact .int i
 .exact .str (by omega) ht
 .exact .tup hd fun d q=>(hv d q).up (by decide)
theorem CQ.vv{v:PyData}(h:CQ v)(hv:aR v=true):VV v:=by
 have hb:=(dM hv).1
 cases h with
 |int i=>exact .int hb
 |str _ _=>exact .str hb
 |tup h g=>exact(Va.tup h g).low 4 hb
theorem uz{x:Str}(h:has TXT x=true):∀c∈x.cps.toList,c<128:=K1.iQ K1.iS h
theorem CQ.sm{v:PyData}(h:CQ v):Sm v:=by
 cases h with
 |int i=>simp[Sm,smB]
 |str h g=>exact Sm.mkS h (uz g)
 |tup h g=>exact Sm.tup fun d hd=>uy (g d hd).val
def cst:Nat->PyData->List Nat
 |n+1,.tuple ds=>40::(bJ [44] (ds.map (cst n))++[41])
 |0,.tuple _=>[]
 |_,.int i=>nc i
 |_,.str x=>39::cd x
 |_,_=>[]
theorem dO(n:Nat)(i:Int):cst n (.int i)=nc i:=by cases n <;> rfl
theorem fj(n:Nat)(x:Str):cst n (.str x)=39::cd x:=by cases n <;> rfl
theorem sg{d:PyData}{n:Nat}(h:single d=true):(cst n d).length<=21:=by
 rcases dH h with⟨i,rfl⟩|⟨x,rfl⟩
 .rw[dO]
  have:=Dd h;omega
 .rw[fj]
  have h':(decide (x.length<=20)&&has TXT x)=true:=h;rw[Bool.and_eq_true] at h';have:=of_decide_eq_true h'.1;rw[List.length_cons,lQ];omega
theorem mK(f:PyData->List Nat):∀ds:List PyData,(ds.map fun d=>(f d).length).sum+ds.length<=(bJ [44] (ds.map f)).length+1/\(bJ [44] (ds.map f)).length<=(ds.map fun d=>(f d).length).sum+ds.length
 |[]=>by simp[bJ]
 |[d]=>by simp[bJ]
 |d::e::r=>by
  have ih:=mK f (e::r);have e1:bJ [44] ((d::e::r).map f)=f d++[44]++bJ [44] ((e::r).map f):=rfl;rw[e1];simp only[List.map_cons,List.sum_cons,List.length_cons,List.length_append,List.length_nil] at ih ⊢;omega
theorem n8{n:Nat}:∀{ds:List PyData},(∀d∈ds,((cst n d).length:Int)+1<=25*aI n d)->(((ds.map fun d=>(cst n d).length).sum+ds.length:Nat):Int)<=25*(ds.map (aI n)).sum
 |[],_=>by simp
 |d::r,h=>by
  have h1:=h d List.mem_cons_self;have h2:=n8 (ds:=r) fun x hx=>h x (List.mem_cons_of_mem _ hx);simp only[List.map_cons,List.sum_cons,List.length_cons];omega
theorem oz:∀(n:Nat) (d:PyData),aH n d=true->((cst n d).length:Int)+1<=25*aI n d
 |n,d,h=>by
  rcases d6 h with h1|⟨m,ds,rfl,rfl,h8,hb⟩
  .have:=sg (n:=n) h1
   have:=nB n d;omega
  .have ih:=oz m
   have h1:=n8 (ds:=ds) fun d hd=>ih d (hb d hd);have h2:=(mK (cst m) ds).2;show (((40::(bJ [44] (ds.map (cst m))++[41])).length:Nat):Int)+1<=25*(1+(ds.map (aI m)).sum);simp only[List.length_cons,List.length_append,List.length_nil];omega
termination_by n=>n
theorem k7{i:Int}(h:single (.int i)=true):gy [.int i]=some (.str (mk (nc i))):=by
 have h1:=mH h
 have h2:i.natAbs.log2<1920:=by
  by_cases z:i.natAbs=0
  .rw[z];decide
  .exact Nat.lt_of_lt_of_le ((Nat.log2_lt (k:=64) z).mpr (Nat.lt_of_le_of_lt h1 (by decide))) (by decide)
 have e:Str.ofString (toString i)=mk (nc i):=hJ (by rw[Ez,cM]);show (if i.natAbs.log2<1920 then some (PyData.str (Str.ofString (toString i))) else none)=_;rw[if_pos h2,e]
theorem iM(a b:List Nat):mk a++mk b=mk (a++b):=hJ (by rw[jP,cM,cM,cM])
theorem lit{s:String}{l:List Nat}(h:cd (Str.ofString s)=l):Str.ofString s=mk l:=hJ (by rw[h,cM])
theorem tM(f:PyData->List Nat)(ds:List PyData):((ds.map fun d=>mk (f d)).map (·.length)).sum=(ds.map fun d=>(f d).length).sum:=by
 rw[List.map_map];exact congrArg List.sum (List.map_congr_left fun d _=>cV _)
theorem tU(f:PyData->List Nat)(ds:List PyData):Str.join (mk [44]) (ds.map fun d=>mk (f d))=mk (bJ [44] (ds.map f)):=hJ (by
 rw[tV,cM,cM,List.map_map]
 exact congrArg (bJ [44]) (List.map_congr_left fun d _=>cM _))
theorem sX{m:Nat}{ds:List PyData}(hm:aI (m+1) (.tuple ds)<=40)(hb:∀x∈ds,aH m x=true):(bJ [44] (ds.map (cst m))).length<=1000/\(ds.map fun d=>(cst m d).length).sum+ds.length<=1000:=by
 have h1:=n8 (ds:=ds) fun d hd=>oz m d (hb d hd);have h2:=(mK (cst m) ds).2;have h3:1+(ds.map (aI m)).sum<=40:=hm;omega
theorem str_len{n:Nat}{x:Str}(h:single (.str x)=true):x.length<=20:=by
 have h':(decide (x.length<=20)&&has TXT x)=true:=h;rw[Bool.and_eq_true] at h';exact of_decide_eq_true h'.1
theorem ur:∀(n k:Nat) (d:PyData) (T:Tp),aH n d=true->aI n d<=40->n<k->du k [.d d] T=some (.str (mk (cst n d)),T)
 |n,0,d,T,h,hm,hk=>absurd hk (Nat.not_lt_zero _)
 |n,k+1,d,T,h,hm,hk=>by
  have q1:=lit (s:="'") (l:=[39]) (by decide +kernel);have q2:=lit (s:="(") (l:=[40]) (by decide +kernel);have q3:=lit (s:=")") (l:=[41]) (by decide +kernel);have q4:=lit (s:=",") (l:=[44]) (by decide +kernel)
  rcases d6 h with h1|⟨m,ds,rfl,rfl,h8,hb⟩
  .rcases dH h1 with⟨i,rfl⟩|⟨x,rfl⟩
   .simp[du,iH,whole,k7 h1,dO]
   .have e:mk [39]++x=mk (39::cd x):=by rw[←vV x,iM,cM];rfl
    have l:(mk [39]).length+x.length<=sizeLine:=cS (by rw[cV];have:=str_len (n:=0) h1;simp;omega);simp[du,iH,whole,fj,u7,q1,l,e]
  .obtain⟨l1,l2⟩:=sX hm hb
   have c:=d9 (e:=ar (du k) (ae (aa 0) ah)) (ρ:=[some (.d (.tuple ds))]) (T:=T) (g:=fun d=>.str (mk (cst m d))) (ds:=ds) fun d hd=>by
    have:=ur m k d T (hb d hd) (Int.le_trans (rC hd) hm) (by omega);simp[this]
   have j:=sO (z:=mk [44]) (kr (fun d=>mk (cst m d)) ds);rw[tM,tU,List.length_map,cV] at j;rw[if_pos (by simp;omega)] at j;have a1:(mk [40]).length+(mk (bJ [44] (ds.map (cst m)))).length<=sizeLine:=cS (by rw[cV,cV];simp;omega);have a2:(mk (40::bJ [44] (ds.map (cst m)))).length+(mk [41]).length<=sizeLine:=cS (by rw[cV,cV];simp;omega)
   have e1:mk [40]++mk (bJ [44] (ds.map (cst m)))=mk (40::bJ [44] (ds.map (cst m))):=by rw[iM];rfl
   have e2:mk (40::bJ [44] (ds.map (cst m)))++mk [41]=mk (cst (m+1) (.tuple ds)):=by rw[iM];rfl
   simp[du,iH,whole,u6,q2,q3,q4,c,j,a1,a2,e1,e2]
def tlS(f:PyData->List Nat)(ds:List PyData)(r:List Nat):List Nat:=(ds.map fun d=>44::f d).flatten++41::r
theorem li(f:PyData->List Nat)(ds:List PyData)(r:List Nat):Beh (tlS f ds r):=fun c hc=>by
 cases ds with
 |nil=>cases hc;exact .inr rfl
 |cons=>cases hc;exact .inl rfl
theorem tu{f:PyData->List Nat}{P:PyData->Prop}(hf:∀a b r s,P a->P b->Beh r->Beh s->f a++r=f b++s->a=b/\r=s):∀(ds es:List PyData) (r s:List Nat),(∀d∈ds,P d)->(∀d∈es,P d)->tlS f ds r=tlS f es s->ds=es/\r=s
 |[],[],r,s,_,_,h=>⟨rfl,(List.cons.inj h).2⟩
 |[],e::es,r,s,_,_,h=>by simp[tlS] at h
 |d::ds,[],r,s,_,_,h=>by simp[tlS] at h
 |d::ds,e::es,r,s,hd,he,h=>by
  have h':f d++tlS f ds r=f e++tlS f es s:=by simpa[tlS] using h
  obtain⟨e1,e2⟩:=hf d e _ _ (hd d List.mem_cons_self) (he e List.mem_cons_self) (li _ _ _) (li _ _ _) h';obtain⟨e3,e4⟩:=tu hf ds es r s (fun x hx=>hd x (List.mem_cons_of_mem _ hx)) (fun x hx=>he x (List.mem_cons_of_mem _ hx)) e2;exact⟨by rw[e1,e3],e4⟩
theorem jO(m:Nat):cst (m+1) (.tuple [])=[40,41]:=rfl
theorem iR(m:Nat)(d:PyData)(ds:List PyData):cst (m+1) (.tuple (d::ds))=40::(cst m d++tlS (cst m) ds []):=by
 show 40::(bJ [44] ((d::ds).map (cst m))++[41])=_;rw[List.map_cons,yb,List.map_map];simp[tlS];rfl
theorem lu{x:Str}(h:single (.str x)=true):∀c∈cd x,bnB c=false:=fun c hc=>by
 have all:∀c∈TXT.cps.toList,bnB c=false:=by decide +kernel
 exact all c (of_decide_eq_true (List.all_eq_true.mp (jF (.str h)).1 c hc))
theorem gU{n m:Nat}{v:PyData}(h:Va n v)(hm:n<=m):∃c r,cst m v=c::r/\(c=45\/(48<=c/\c<=57)\/c=39\/c=40)/\(c=39↔D.kd v=.str)/\(c=40↔D.kd v=.tup):=by
 cases h with
 |@int _ i _=>
  rw[dO]
  cases e:nc i with
  |nil=>exact absurd e (Ey i)
  |cons c r=>
   have:=iD i c (by rw[e];exact List.mem_cons_self);refine⟨c,r,rfl,by omega,⟨(fun z=>by omega),(fun z=>by cases z)⟩,⟨(fun z=>by omega),(fun z=>by cases z)⟩⟩
 |@str _ x _=>exact⟨39,cd x,fj m x,by omega,⟨fun _=>rfl,fun _=>rfl⟩,⟨(fun z=>by cases z),(fun z=>by cases z)⟩⟩
 |@tup _ ds _ _=>
  obtain⟨k,rfl⟩:∃k,m=k+1:=⟨m-1,by omega⟩
  cases ds with
  |nil=>exact⟨40,[41],jO k,by omega,⟨(fun z=>by cases z),(fun z=>by cases z)⟩,⟨fun _=>rfl,fun _=>rfl⟩⟩
  |cons d ds=>exact⟨40,_,iR k d ds,by omega,⟨(fun z=>by cases z),(fun z=>by cases z)⟩,⟨fun _=>rfl,fun _=>rfl⟩⟩
theorem Cw:∀(n m:Nat) (v w:PyData) (r s:List Nat),n<=m->Va n v->Va n w->Beh r->Beh s->cst m v++r=cst m w++s->v=w/\r=s:=by
 intro n
 induction n with
 |zero=>
  intro m v w r s hm hv hw hr hs h;obtain⟨c1,r1,e1,_,a1,b1⟩:=gU hv hm;obtain⟨c2,r2,e2,_,a2,b2⟩:=gU hw hm
  have hc:c1=c2:=by rw[e1,e2] at h;exact(List.cons.inj h).1
  subst hc
  cases hv with
  |@int _ i _=>
   cases hw with
   |@int _ j _=>
    rw[dO,dO] at h;obtain⟨h1,h2⟩:=lO (p:=bnB) (fun c hc=>by have:=iD i c hc;simp[bnB];omega) (fun c hc=>by have:=iD j c hc;simp[bnB];omega) (gw hr) (gw hs) h;exact⟨by rw[uP h1],h2⟩
   |str _=>have:=a1.mp (a2.mpr rfl);cases this
  |@str _ x hx=>
   cases hw with
   |int _=>have:=a2.mp (a1.mpr rfl);cases this
   |@str _ y hy=>
    rw[fj,fj] at h;have h':cd x++r=cd y++s:=(List.cons.inj h).2;obtain⟨h1,h2⟩:=lO (p:=bnB) (fun c hc=>by have:=lu hx c hc;exact this) (fun c hc=>by have:=lu hy c hc;exact this) (gw hr) (gw hs) h';exact⟨by rw[hJ h1],h2⟩
 |succ n ih=>
  intro m v w r s hm hv hw hr hs h;obtain⟨k,rfl⟩:∃k,m=k+1:=⟨m-1,by omega⟩;obtain⟨c1,r1,e1,_,a1,b1⟩:=gU hv hm;obtain⟨c2,r2,e2,_,a2,b2⟩:=gU hw hm
  have hc:c1=c2:=by rw[e1,e2] at h;exact(List.cons.inj h).1
  subst hc
  cases hv with
  |@int _ i _=>
   cases hw with
   |@int _ j _=>
    rw[dO,dO] at h;obtain⟨h1,h2⟩:=lO (p:=bnB) (fun c hc=>by have:=iD i c hc;simp[bnB];omega) (fun c hc=>by have:=iD j c hc;simp[bnB];omega) (gw hr) (gw hs) h;exact⟨by rw[uP h1],h2⟩
   |str _=>have:=a1.mp (a2.mpr rfl);cases this
   |tup _ _=>have:=b1.mp (b2.mpr rfl);cases this
  |@str _ x hx=>
   cases hw with
   |int _=>have:=a2.mp (a1.mpr rfl);cases this
   |tup _ _=>have:=b1.mp (b2.mpr rfl);cases this
   |@str _ y hy=>
    rw[fj,fj] at h;have h':cd x++r=cd y++s:=(List.cons.inj h).2;obtain⟨h1,h2⟩:=lO (p:=bnB) (fun c hc=>by have:=lu hx c hc;exact this) (fun c hc=>by have:=lu hy c hc;exact this) (gw hr) (gw hs) h';exact⟨by rw[hJ h1],h2⟩
  |@tup _ ds h8 hd=>
   cases hw with
   |int _=>have:=b2.mp (b1.mpr rfl);cases this
   |str _=>have:=b2.mp (b1.mpr rfl);cases this
   |@tup _ es g8 he=>
    have hf:∀a b r s,Va n a->Va n b->Beh r->Beh s->cst k a++r=cst k b++s->a=b/\r=s:=fun a b r s ha hb hr hs h=>ih k a b r s (by omega) ha hb hr hs h
    cases ds with
    |nil=>
     cases es with
     |nil=>exact⟨rfl,by rw[jO] at h;exact(List.cons.inj (List.cons.inj h).2).2⟩
     |cons e es=>
      exfalso;rw[jO,iR] at h;have h':41::r=cst k e++tlS (cst k) es []++s:=(List.cons.inj h).2;obtain⟨c,t,q,hq,_⟩:=gU (he e List.mem_cons_self) (show n<=k by omega);rw[q] at h';have:=(List.cons.inj h').1;omega
    |cons d ds=>
     cases es with
     |nil=>
      exfalso;rw[jO,iR] at h;have h':cst k d++tlS (cst k) ds []++r=41::s:=(List.cons.inj h).2;obtain⟨c,t,q,hq,_⟩:=gU (hd d List.mem_cons_self) (show n<=k by omega);rw[q] at h';have:=(List.cons.inj h').1;omega
     |cons e es=>
      rw[iR,iR] at h
      have tl2:∀(xs:List PyData) (u:List Nat),tlS (cst k) xs []++u=tlS (cst k) xs u:=fun xs u=>by simp[tlS]
      have h':cst k d++tlS (cst k) ds r=cst k e++tlS (cst k) es s:=by
       have q:(cst k d++tlS (cst k) ds [])++r=(cst k e++tlS (cst k) es [])++s:=(List.cons.inj h).2;rw[List.append_assoc,List.append_assoc,tl2,tl2] at q;exact q
      obtain⟨q1,q2⟩:=ih k d e _ _ (by omega) (hd d List.mem_cons_self) (he e List.mem_cons_self) (li _ _ _) (li _ _ _) h';obtain⟨q3,q4⟩:=tu hf ds es r s (fun x hx=>hd x (List.mem_cons_of_mem _ hx)) (fun x hx=>he x (List.mem_cons_of_mem _ hx)) q2;exact⟨by rw[q1,q3],q4⟩
theorem B3{v w:PyData}(hv:VV v)(hw:VV w)(h:mk (cst 4 v)=mk (cst 4 w)):v=w:=by
 have e:cst 4 v=cst 4 w:=by
  have:=congrArg cd h;rw[cM,cM] at this;exact this
 exact(Cw 4 4 v w [] [] (Nat.le_refl _) hv hw (fun _ z=>nomatch z) (fun _ z=>nomatch z) (by rw[e])).1
def vl(v:PyData):PyData:=.tuple [.str "value",v]
def fl(w:String):PyData:=.tuple [.str "fails",.str (Str.ofString w)]
def FW:List String:=["kind","part","great"]
def da(R:PyData):Prop:=(∃v,R=vl v/\VV v)\/∃w∈FW,R=fl w
theorem cR:da (fl "kind"):=.inr ⟨_,by simp[FW],rfl⟩
theorem A0:da (fl "part"):=.inr ⟨_,by simp[FW],rfl⟩
theorem yj:da (fl "great"):=.inr ⟨_,by simp[FW],rfl⟩
def bd(d:PyData):PyData:=if aR d=true then vl d else fl "great"
theorem nM{d:PyData}(h:CQ d):da (bd d):=by
 unfold bd;split
 .rename_i q;exact .inl ⟨d,rfl,h.vv q⟩
 .exact yj
theorem m9{d:PyData}(T:Tp)(h:Sm d):fS [.d d] T=some (bd d,T):=by
 have:=Cb T h;unfold bd
 cases hv:aR d with
 |true=>rw[hv] at this;simp[fS,this,vl]
 |false=>rw[hv] at this;simp[fS,this,fl]
theorem CA(i:Int):Sm (.int i):=by simp[Sm,smB]
theorem DD{x y:PyData}(h1:VV x)(h2:VV y):eqG x y=some (.bool (sam x y)):=by
 unfold eqG;rw[if_pos ⟨ir h1.val,ir h2.val⟩,BS h1.val h2.val]
@[simp] theorem IM{α:Type}{a b:α}:atI [a,b] 0=some a:=rfl
@[simp] theorem IK{α:Type}{a b:α}:atI [a,b] 1=some b:=rfl
@[simp] theorem IP{α:Type}{a:α}:atI [a] 0=some a:=rfl
@[simp] theorem IJ{α:Type}{a b c:α}:atI [a,b,c] 0=some a:=rfl
@[simp] theorem II{α:Type}{a b c:α}:atI [a,b,c] 1=some b:=rfl
@[simp] theorem IH{α:Type}{a b c:α}:atI [a,b,c] 2=some c:=rfl
@[simp] theorem Kl:bU .int .int=true:=rfl
@[simp] theorem Kk:bU .int .str=false:=rfl
@[simp] theorem Kj:bU .int .tup=false:=rfl
@[simp] theorem Km:bU .int .bl=false:=rfl
@[simp] theorem Kh:bU .str .str=true:=rfl
@[simp] theorem Kg:bU .str .tup=false:=rfl
@[simp] theorem Ki:bU .str .int=false:=rfl
@[simp] theorem Kc:bU .tup .tup=true:=rfl
@[simp] theorem Kf:bU .tup .int=false:=rfl
@[simp] theorem Ke:bU .tup .str=false:=rfl
@[simp] theorem GX(x:PyData)(T:Tp):d8 [.d x] T=some (.bool (whole x),T):=iH x T
@[simp] theorem Kb(i:Int):whole (.int i)=true:=rfl
@[simp] theorem Ka(x:Str):whole (.str x)=false:=rfl
@[simp] theorem J9(x:List PyData):whole (.tuple x)=false:=rfl
def isF:PyData->Bool
 |.tuple (.str x::_)=>decide (x=Str.ofString "fails")
 |_=>false
def vOf:PyData->PyData
 |.tuple [_,v]=>v
 |_=>.none
theorem Dv(v:PyData):isF (vl v)=false:=by
 show decide (Str.ofString "value"=Str.ofString "fails")=false
 decide +kernel
theorem Dw(w:String):isF (fl w)=true:=by
 show decide (Str.ofString "fails"=Str.ofString "fails")=true;exact decide_eq_true rfl
theorem mL{R:PyData}(h:da R):(isF R=true/\∃w∈FW,R=fl w)\/(isF R=false/\R=vl (vOf R)/\VV (vOf R)):=by
 rcases h with⟨v,rfl,hv⟩|⟨w,hw,rfl⟩
 .exact .inr ⟨Dv v,rfl,hv⟩
 .exact .inl ⟨Dw w,w,hw,rfl⟩
theorem vc{d:PyData}{k:Int}{f:Nat}{T:Tp}(h:single d=true):cv (f+1) [.d d,.d (.int k)] T=some (.bool true,T):=by
 rcases dH h with⟨i,rfl⟩|⟨x,rfl⟩
 .have h':decide ((if i<0 then -i else i)<=(10:Int)^18)=true:=h
  have h2:=of_decide_eq_true h'
  have p:(10:Int)^18=1000000000000000000:=by decide
  rw[p] at h2
  have a1 : -1000000000000000000<=i:=by split at h2 <;> omega
  have a2:i<=1000000000000000000:=by split at h2 <;> omega
  simp[cv,p,a1,a2]
 .have h':=(jF (.str h)).2
  have z:x.length<=sizeLine:=cS (by omega)
  have h2:(x.length:Int)<=20:=by omega
  simp[cv,z,h2]
theorem DB{f:FnM}{ds:List PyData}{k:Int}{p:PyData->Bool}{T:Tp}(h4:k<4)(h8:ds.length<=8)(c:bE bv (ar f (ae (aa 0) (ae (ag aG (aa 2) (fC (.int 1))) ah))) [some (.d (.tuple ds)),some (.d (.int k))] ds T=some (ds.map fun d=>.bool (p d),T)) :
  aL 2 (ak (fIf (aS (fUn (br .tup) (aa 0))) (ay (cj (ag ltD (aa 1) (fC (.int 4))) (cj (ag leD (fCB aY (ae (aa 0) ah)) (fC (.int 8))) (fCB d0 (ae (bM (aZ (aa 0)) bv (ar f (ae (aa 0) (ae (ag aG (aa 2) (fC (.int 1))) ah)))) ah))))) aD) (ak (fIf (aS (fUn (br .str) (aa 0))) (ay (ag leD (fCB aY (ae (aa 0) ah)) (fC (.int 20)))) aD) (ay (dQ leD leD (fUn eS (ag fJ (fC (.int 10)) (fC (.int 18)))) (aa 0) (ag fJ (fC (.int 10)) (fC (.int 18))))))) [.d (.tuple ds),.d (.int k)] T=some (.bool (ds.all p),T):=by
 have h8':((ds.length:Int)<=8):=by omega
 simp[h4,h8,h8',c]
theorem E5{n:Nat}{d:PyData}(h:Va n d):∀(q f:Nat) (k:Int) (T:Tp),k=4-(q:Int)->n<f->cv f [.d d,.d (.int k)] T=some (.bool (aH q d),T):=by
 induction h with
 |int h=>
  intro q f k T hq hf;obtain⟨f,rfl⟩:=aX f (by omega);rw[vc h,(gH h).1]
 |str h=>
  intro q f k T hq hf;obtain⟨f,rfl⟩:=aX f (by omega);rw[vc h,(gH h).1]
 |@tup n ds h g ih=>
  intro q f k T hq hf;obtain⟨f,rfl⟩:=aX f (by omega)
  cases q with
  |zero=>
   have e:¬k<4:=by omega
   simp[cv,aH,e]
  |succ q=>
   have c:=d9 (e:=ar (cv f) (ae (aa 0) (ae (ag aG (aa 2) (fC (.int 1))) ah))) (ρ:=[some (.d (.tuple ds)),some (.d (.int k))]) (T:=T) (g:=fun d=>.bool (aH q d)) (ds:=ds) fun d hd=>by
    have:=ih d hd q f (k+1) T (by omega) (by omega);simp[this]
   have b:aH (q+1) (.tuple ds)=ds.all (aH q):=by
    show (decide (ds.length<=8)&&ds.all (aH q))=_;rw[decide_eq_true (by omega),Bool.true_and]
   rw[b];exact DB (by omega) (by omega) c
theorem ph{d:PyData}(h:CQ d)(T:Tp):cv 25 [.d d,.d (.int 0)] T=some (.bool (aR d),T):=by
 have p:(10:Int)^18=1000000000000000000:=by decide
 cases h with
 |int i=>
  have e:aR (.int i)=decide ((if i<0 then -i else i)<=1000000000000000000):=by
   show (decide ((if i<0 then -i else i)<=10^18)&&decide ((1:Int)<=40))=_;rw[Bool.and_comm];rfl
  rw[e]
  by_cases a1 : -1000000000000000000<=i
  .by_cases a2:i<=1000000000000000000
   .rw[decide_eq_true (by split <;> omega)]
    simp[cv,p,a1,a2]
   .rw[decide_eq_false (by split <;> omega)]
    simp[cv,p,a1,a2]
  .rw[decide_eq_false (by split <;> omega)]
   simp[cv,p,a1]
 |@str x hl hx=>
  have e:aR (.str x)=decide (x.length<=20):=by
   show (decide (x.length<=20)&&has TXT x&&decide ((1:Int)<=40))=_;rw[hx];simp
  have z:x.length<=sizeLine:=Nat.le_trans hl (by decide);rw[e]
  by_cases c:x.length<=20
  .have c':(x.length:Int)<=20:=by omega
   simp[cv,z,c,c']
  .have c':¬(x.length:Int)<=20:=by omega
   simp[cv,z,c,c']
 |@tup ds hl hd=>
  have v5:Va 5 (.tuple ds):=.tup hl hd;rw[E5 v5 4 25 0 T (by omega) (by omega)]
  cases hb:aH 4 (.tuple ds) with
  |false=>
   have:aR (.tuple ds)=false:=by
    show (aH 4 (.tuple ds)&&_)=false;rw[hb];rfl
   rw[this]
  |true=>rw[VV.val (v5.low 4 hb)]
theorem pE:neG (.list [.bool true,.bool true]) (.list [.bool true,.bool true])=some (.bool false):=rfl
theorem l6:neG (.list [.bool true,.bool false]) (.list [.bool true,.bool true])=some (.bool true):=rfl
theorem l7:neG (.list [.bool false,.bool true]) (.list [.bool true,.bool true])=some (.bool true):=rfl
theorem l8:neG (.list [.bool false,.bool false]) (.list [.bool true,.bool true])=some (.bool true):=rfl
theorem oP(b:Bool):intD [.bool b]=some (.int (if b then 1 else 0)):=rfl
def fzO(o:Option W):Option W:=(bO [o]).headD none
theorem dw{o:Option W}{r:Rho}:bO (o::r)=fzO o::bO r:=rfl
@[simp] theorem JI:fzO none=none:=rfl
@[simp] theorem JJ{x:PyData}:fzO (some (.d x))=some (.d x):=rfl
def fD:FS:=(ak (aE 5 (ar bB (ae (ag ixD (aa 0) (fC (.int 0))) (ae (ag ixD (aa 4) (fC (.int 0))) (ae (ag ixD (aa 4) (fC (.int 1))) ah))))) (ak (fIf (aC (ag isD (aa 5) (fC .none))) (ay (ao .tuple (ae (fC (.str "fails")) (ae (fC (.str "kind")) ah)))) aD) (ak (fIf (cX (aC (ag eqD (ag ixD (aa 0) (fC (.int 0))) (fC (.str "part")))) (bL (aC (dQ leD ltD (fC (.int 0)) (ag ixD (aa 4) (fC (.int 1))) (fCB aY (ae (ag ixD (aa 4) (fC (.int 0))) ah)))))) (ay (ao .tuple (ae (fC (.str "fails")) (ae (fC (.str "part")) ah)))) aD) (ay (bW (aS (ar (cv 25) (ae (aa 5) (ae (fC (.int 0)) ah)))) (ao .tuple (ae (fC (.str "value")) (ae (aa 5) ah))) (ao .tuple (ae (fC (.str "fails")) (ae (fC (.str "great")) ah))))))))
def ei:FS:=(ak (fIf (aC (ag eqD (ag ixD (aa 0) (fC (.int 0))) (fC (.str "row")))) (ay (bW (aS (ar (cv 25) (ae (fCB bz (ae (aa 4) ah)) (ae (fC (.int 0)) ah)))) (ao .tuple (ae (fC (.str "value")) (ae (fCB bz (ae (aa 4) ah)) ah))) (ao .tuple (ae (fC (.str "fails")) (ae (fC (.str "great")) ah))))) aD) (ak (fIf (aC (ag eqD (ag ixD (aa 0) (fC (.int 0))) (fC (.str "many")))) (ay (bW (aS (fUn (br .int) (ag ixD (aa 4) (fC (.int 0))))) (ao .tuple (ae (fC (.str "fails")) (ae (fC (.str "kind")) ah))) (ao .tuple (ae (fC (.str "value")) (ae (fCB aY (ae (ag ixD (aa 4) (fC (.int 0))) ah)) ah))))) aD) fD))
def v7(M:FnM):FS:=(ak (aE 2 (bM (aZ (bW (aC (ag eqD (ag ixD (aa 0) (fC (.int 0))) (fC (.str "row")))) (ag ixD (aa 0) (fC (.int 1))) (fSl (aa 0) (fP (fC (.int 1))) cZ))) bv (ar M (ae (aa 0) (ae (aa 2) ah))))) (ak (bc 3 (aZ (aa 2)) (fIf (aC (ag eqD (ag ixD (aa 3) (fC (.int 0))) (fC (.str "fails")))) (ay (aa 3)) aD)) (ak (aE 4 (bM (aZ (aa 2)) bv (ag ixD (aa 0) (fC (.int 1))))) ei)))
theorem yt(n:Nat):bY (n+1)=aL 6 (ak (fIf (aC (ag eqD (ag ixD (aa 0) (fC (.int 0))) (fC (.str "put")))) (ay (ao .tuple (ae (fC (.str "value")) (ae (ag ixD (aa 0) (fC (.int 1))) ah)))) aD) (ak (fIf (aC (ag eqD (ag ixD (aa 0) (fC (.int 0))) (fC (.str "got")))) (ay (ao .tuple (ae (fC (.str "value")) (ae (ag ixD (aa 1) (ag ixD (aa 0) (fC (.int 1)))) ah)))) aD) (v7 (bY n)))):=rfl
def ρT(e0 g ps:PyData)(o3:Option D.W)(vs:List PyData):Rho:=[some (.d e0),some (.d g),some (.d ps),o3,some (.d (.list vs)),none]
def pb(w:String)(a b R:PyData):Prop:=∀(e0 g ps:PyData) (o3:Option D.W) (T:Tp),ixD e0 (.int 0)=some (.str (Str.ofString w))->bu (fD (ρT e0 g ps o3 [a,b]) T)=some (R,T)
theorem c7{w:String}{a b:PyData}(h:∀T,bB [.d (.str (Str.ofString w)),.d a,.d b] T=some (.none,T)):pb w a b (fl "kind"):=fun e0 g ps o3 T e=>by
 simp[fD,ρT,dw,e,h,isNone,fl]
theorem lZ{w:String}{a b c:PyData}(hw:w≠"part")(hc:CQ c)(h:∀T,bB [.d (.str (Str.ofString w)),.d a,.d b] T=some (c,T)):pb w a b (bd c):=fun e0 g ps o3 T e=>by
 have nn:isNone c=false:=by cases hc <;> rfl
 have lf:=fun T=>ph hc T;unfold bd
 cases hv:aR c with
 |true=>rw[hv] at lf;simp[fD,ρT,dw,e,h,nn,hw,lf,vl]
 |false=>rw[hv] at lf;simp[fD,ρT,dw,e,h,nn,hw,lf,fl]
def iT(w:String)(a b:PyData):Prop:=∃R,da R/\(∀T,bp [.d (.str (Str.ofString w)),.d (.list [a,b])] T=some (R,T))/\pb w a b R
def stS(v:PyData):PyData:=.str (mk (cst 4 v))
theorem ti:∀(n k:Nat) (d:PyData) (T:Tp),aH n d=true->aI n d<=40->n<k->cD k [.d d] T=some (.str (mk (cst n d)),T)
 |n,0,d,T,h,hm,hk=>absurd hk (Nat.not_lt_zero _)
 |n,k+1,d,T,h,hm,hk=>by
  have q1:=lit (s:="'") (l:=[39]) (by decide +kernel);have q2:=lit (s:="(") (l:=[40]) (by decide +kernel);have q3:=lit (s:=")") (l:=[41]) (by decide +kernel);have q4:=lit (s:=",") (l:=[44]) (by decide +kernel)
  rcases d6 h with h1|⟨m,ds,rfl,rfl,h8,hb⟩
  .rcases dH h1 with⟨i,rfl⟩|⟨x,rfl⟩
   .simp[cD,k7 h1,dO]
   .have e:mk [39]++x=mk (39::cd x):=by rw[←vV x,iM,cM];rfl
    have l:(mk [39]).length+x.length<=sizeLine:=cS (by rw[cV];have:=str_len (n:=0) h1;simp;omega);simp[cD,fj,u7,q1,l,e]
  .obtain⟨l1,l2⟩:=sX hm hb
   have c:=d9 (e:=ar (cD k) (ae (aa 0) ah)) (ρ:=[some (.d (.tuple ds))]) (T:=T) (g:=fun d=>.str (mk (cst m d))) (ds:=ds) fun d hd=>by
    have:=ti m k d T (hb d hd) (Int.le_trans (rC hd) hm) (by omega);simp[this]
   have j:=sO (z:=mk [44]) (kr (fun d=>mk (cst m d)) ds);rw[tM,tU,List.length_map,cV] at j;rw[if_pos (by simp;omega)] at j;have a1:(mk [40]).length+(mk (bJ [44] (ds.map (cst m)))).length<=sizeLine:=cS (by rw[cV,cV];simp;omega);have a2:(mk (40::bJ [44] (ds.map (cst m)))).length+(mk [41]).length<=sizeLine:=cS (by rw[cV,cV];simp;omega)
   have e1:mk [40]++mk (bJ [44] (ds.map (cst m)))=mk (40::bJ [44] (ds.map (cst m))):=by rw[iM];rfl
   have e2:mk (40::bJ [44] (ds.map (cst m)))++mk [41]=mk (cst (m+1) (.tuple ds)):=by rw[iM];rfl
   simp[cD,u6,q2,q3,q4,c,j,a1,a2,e1,e2]
theorem jA{v:PyData}(T:Tp)(h:VV v):cD 25 [.d v] T=some (stS v,T):=ti 4 25 v T (dM h.val).1 (dM h.val).2 (by decide)
theorem vz{i:Int}(h:VV (.int i)):bd (.int i)=vl (.int i):=if_pos h.val
theorem DN{a b:PyData}(ha:VV a)(hb:VV b):iT "same" a b:=by
 have e1:=DD ha hb
 have v1:VV (.int (if sam a b=true then 1 else 0)):=by split <;> exact lq (by decide) (by decide)
 refine⟨vl (.int (if sam a b=true then 1 else 0)),.inl ⟨_,rfl,v1⟩,fun T=>?_,?_⟩
 .cases hs:sam a b with
  |true=>rw[hs] at e1;simp[bp,e1,vl]
  |false=>rw[hs] at e1;simp[bp,e1,vl]
 .rw[←vz v1]
  refine lZ (by decide) (.int _) fun T=>?_;have s1:=fun T=>jA T ha;have s2:=fun T=>jA T hb
  have e2:decide (mk (cst 4 a)=mk (cst 4 b))=sam a b:=by
   cases hs:sam a b with
   |true=>rw[sam_iff.mp hs];exact decide_eq_true rfl
   |false=>
    refine decide_eq_false fun z=>?_;rw[sam_iff.mpr (B3 ha hb z)] at hs;cases hs
  simp only[stS] at s1 s2;simp[bB,s1,s2,oP,e2]
theorem DM{ds:List PyData}{i:Int}(h:VV (.tuple ds))(h0:0<=i)(h1:i<(ds.length:Int)):∃d,atI ds i=some d/\VV d:=by
 obtain⟨d,e,hd⟩:=vC h0 h1;exact⟨d,e,h.part hd⟩
theorem DQ{a b:PyData}(ha:VV a)(hb:VV b):iT "part" a b:=by
 rcases ha.cases with⟨i,rfl,hi⟩|⟨x,rfl,hx⟩|⟨ds,rfl,hd⟩
 .exact⟨_,cR,fun T=>by simp[bp,eY,fl],c7 fun T=>by simp[bB]⟩
 .exact⟨_,cR,fun T=>by simp[bp,eY,fl],c7 fun T=>by simp[bB]⟩
 .rcases hb.cases with⟨j,rfl,hj⟩|⟨y,rfl,hy⟩|⟨es,rfl,he⟩
  .by_cases c:0<=j/\j<(ds.length:Int)
   .obtain⟨d,e,hv⟩:=DM ha c.1 c.2
    refine⟨vl d,.inl ⟨d,rfl,hv⟩,fun T=>by simp[bp,eY,vl,c.1,c.2,e],fun e0 g ps o3 T q=>?_⟩
    have l2:∀T,bB [.d (.str "part"),.d (.tuple ds),.d (.int j)] T=some (d,T):=fun T=>by simp[bB,c.1,c.2,e]
    have nn:isNone d=false:=by cases hv <;> rfl
    have lf:=fun T=>ph (CQ.of hv) T;rw[hv.val] at lf;simp[fD,ρT,dw,q,l2,nn,c.1,c.2,lf,vl]
   .have l2:∀T,bB [.d (.str "part"),.d (.tuple ds),.d (.int j)] T=some (.tuple [],T):=fun T=>by
     by_cases c0:0<=j
     .have c1:¬j<(ds.length:Int):=fun z=>c ⟨c0,z⟩
      simp[bB,c0,c1]
     .simp[bB,c0]
    refine⟨_,A0,fun T=>?_,fun e0 g ps o3 T q=>?_⟩
    .by_cases c0:0<=j
     .have c1:¬j<(ds.length:Int):=fun z=>c ⟨c0,z⟩
      simp[bp,eY,fl,c0,c1]
     .simp[bp,eY,fl,c0]
    .by_cases c0:0<=j
     .have c1:¬j<(ds.length:Int):=fun z=>c ⟨c0,z⟩
      simp[fD,ρT,dw,q,l2,isNone,c0,c1,fl]
     .simp[fD,ρT,dw,q,l2,isNone,c0,fl]
  .exact⟨_,cR,fun T=>by simp[bp,eY,fl],c7 fun T=>by simp[bB]⟩
  .exact⟨_,cR,fun T=>by simp[bp,eY,fl],c7 fun T=>by simp[bB]⟩
theorem E2{a b:PyData}(ha:VV a)(hb:VV b):iT "sum" a b:=by
 rcases ha.cases with⟨i,rfl,hi⟩|⟨x,rfl,hx⟩|⟨ds,rfl,hd⟩
 .rcases hb.cases with⟨j,rfl,hj⟩|⟨y,rfl,hy⟩|⟨es,rfl,he⟩
  .have b1:=fun T=>m9 T (CA (i+j))
   exact⟨_,nM (.int (i+j)),fun T=>by simp[bp,gJ,b1],lZ (by decide) (.int _) fun T=>by simp[bB,pE]⟩
  .exact⟨_,cR,fun T=>by simp[bp,gJ,fl],c7 fun T=>by simp[bB,l6]⟩
  .exact⟨_,cR,fun T=>by simp[bp,gJ,fl],c7 fun T=>by simp[bB,l6]⟩
 .rcases hb.cases with⟨j,rfl,hj⟩|⟨y,rfl,hy⟩|⟨es,rfl,he⟩ <;> exact⟨_,cR,fun T=>by simp[bp,gJ,fl],c7 fun T=>by simp[bB,l8,l7]⟩
 .rcases hb.cases with⟨j,rfl,hj⟩|⟨y,rfl,hy⟩|⟨es,rfl,he⟩ <;> exact⟨_,cR,fun T=>by simp[bp,gJ,fl],c7 fun T=>by simp[bB,l8,l7]⟩
theorem DR{a b:PyData}(ha:VV a)(hb:VV b):iT "less" a b:=by
 rcases ha.cases with⟨i,rfl,hi⟩|⟨x,rfl,hx⟩|⟨ds,rfl,hd⟩
 .rcases hb.cases with⟨j,rfl,hj⟩|⟨y,rfl,hy⟩|⟨es,rfl,he⟩
  .have v1:VV (.int (if i<j then 1 else 0)):=by split <;> exact lq (by decide) (by decide)
   refine⟨vl (.int (if i<j then 1 else 0)),.inl ⟨_,rfl,v1⟩,fun T=>?_,?_⟩
   .by_cases c:i<j
    .simp[bp,fQ,c,vl]
    .simp[bp,fQ,c,vl]
   .rw[←vz v1]
    refine lZ (by decide) (.int _) fun T=>?_
    by_cases c:i<j
    .simp[bB,pE,oP,c]
    .simp[bB,pE,oP,c]
  .exact⟨_,cR,fun T=>by simp[bp,fQ,fl],c7 fun T=>by simp[bB,l6]⟩
  .exact⟨_,cR,fun T=>by simp[bp,fQ,fl],c7 fun T=>by simp[bB,l6]⟩
 .rcases hb.cases with⟨j,rfl,hj⟩|⟨y,rfl,hy⟩|⟨es,rfl,he⟩ <;> exact⟨_,cR,fun T=>by simp[bp,fQ,fl],c7 fun T=>by simp[bB,l8,l7]⟩
 .rcases hb.cases with⟨j,rfl,hj⟩|⟨y,rfl,hy⟩|⟨es,rfl,he⟩ <;> exact⟨_,cR,fun T=>by simp[bp,fQ,fl],c7 fun T=>by simp[bB,l8,l7]⟩
theorem DU{a b:PyData}(ha:VV a)(hb:VV b)(hs:∃y,b=.str y):iT "join" a b:=by
 obtain⟨y,rfl⟩:=hs
 rcases ha.cases with⟨i,rfl,hi⟩|⟨x,rfl,hx,hx2,hx3⟩|⟨ds,rfl,hd⟩
 .exact⟨_,cR,fun T=>by simp[bp,je,fl],c7 fun T=>by simp[bB]⟩
 .obtain⟨hy3,hy⟩:=jF hb
  have l:x.length+y.length<=sizeLine:=cS (by omega)
  have ll:(x++y).length<=60000:=by rw[←lQ,jP,List.length_append,lQ,lQ];omega
  have hh:has TXT (x++y)=true:=by
   refine List.all_eq_true.mpr fun c hc=>?_;have hc':c∈cd (x++y):=hc;rw[jP] at hc';exact(List.mem_append.mp hc').elim (List.all_eq_true.mp hx3 c) (List.all_eq_true.mp hy3 c)
  have cq:CQ (.str (x++y)):=.str ll hh;have b1:=fun T=>m9 T cq.sm;exact⟨_,nM cq,fun T=>by simp[bp,je,b1,l],lZ (by decide) cq fun T=>by simp[bB,l]⟩
 .exact⟨_,cR,fun T=>by simp[bp,je,fl],c7 fun T=>by simp[bB]⟩
def PW:List String:=["part","sum","join","same","less"]
inductive Ex(m:Int):Nat->PyData->Prop where
 |put {n:Nat}{v:PyData}:VV v/\(mk (cst 4 v)).length<=21->Ex m n (.tuple [.str "put",v])
 |got {n:Nat}{i:Int}:0<=i->i<m->Ex m n (.tuple [.str "got",.int i])
 |row {n:Nat}{es:List PyData}:es.length<=2->(∀e∈es,Ex m n e)->Ex m (n+1) (.tuple [.str "row",.tuple es])
 |many {n:Nat}{e:PyData}:Ex m n e->Ex m (n+1) (.tuple [.str "many",e])
 |pair {n:Nat}{w:String}{a b:PyData}:w∈PW->Ex m n a->Ex m n b->(w="join"->∃y,b=.tuple [.str "put",.str y])->Ex m (n+1) (.tuple [.str (Str.ofString w),a,b])
theorem E3{w:String}{a b:PyData}(hw:w∈PW)(ha:VV a)(hb:VV b)(hj:w="join"->∃y,b=.str y):iT w a b:=by
 simp[PW] at hw
 rcases hw with rfl|rfl|rfl|rfl|rfl
 .exact DQ ha hb
 .exact E2 ha hb
 .exact DU ha hb (hj rfl)
 .exact DN ha hb
 .exact DR ha hb
def gj(m:FnM)(ws:List D.W)(T1:Tp):Option (D.W×Tp):=if ka ws=true then (match m (ws.map i6) [] with
 |some (x,_)=>if aW x=true then some (.d x,T1) else none
 | none=>none) else none
@[simp] theorem GU{m:FnM}{a:FA}{ρ:Rho}{T:Tp}:eJ m a ρ T=bnd (a ρ T) (gj m):=rfl
theorem jp{m:FnM}{ws:List D.W}{T T':Tp}{x:PyData}(h1:ka ws=true)(h2:m (ws.map i6) []=some (x,T'))(h3:aW x=true):gj m ws T=some (.d x,T):=by
 unfold gj;rw[if_pos h1,h2];exact if_pos h3
theorem iw:∀{ds:List PyData},(∀d∈ds,aW d=true)->bh ds=true
 |[],_=>by simp[bh]
 |d::r,h=>by simp[bh,h d List.mem_cons_self,iw (ds:=r) fun x hx=>h x (List.mem_cons_of_mem _ hx)]
theorem qV:∀(n:Nat) (d:PyData),aH n d=true->aW d=true
 |n,d,h=>by
  rcases d6 h with h1|⟨m,ds,rfl,rfl,_,hd⟩
  .rcases dH h1 with⟨i,rfl⟩|⟨x,rfl⟩ <;> simp[aW]
  .simp[aW,iw fun x hx=>qV m x (hd x hx)]
termination_by n=>n
theorem iz{v:PyData}(h:aR v=true):aW v=true:=qV 4 v (dM h).1
theorem kK{R:PyData}(h:da R):aW R=true:=by
 rcases h with⟨v,rfl,hv⟩|⟨w,_,rfl⟩
 .simp[vl,aW,bh,iz hv.val]
 .simp[fl,aW,bh]
def eL(k:Nat):FS:=(ak (aE 4 (ar (dv k) (ae (aa 3) (ae (aa 1) ah)))) (ak (fIf (aC (ag eqD (ag ixD (aa 4) (fC (.int 0))) (fC (.str "fails")))) (ay (aa 4)) aD) (dZ 2 (ag ixD (aa 4) (fC (.int 1))))))
def pV(k:FS)(p:Fl×Rho)(T:Tp):Option ((Fl×Rho)×Tp):=match p with
 |(.nx,ρ1)=>k ρ1 T
 |(.ct,ρ1)=>k ρ1 T
 |(.bk,ρ1)=>some ((.nx,ρ1),T)
 |(.rt x,ρ1)=>some ((.rt x,ρ1),T)
 |(.ro x,ρ1)=>some ((.ro x,ρ1),T)
theorem tY{k:FS}{ρ:Rho}{T:Tp}:pV k (.nx,ρ) T=k ρ T:=rfl
theorem rJ{i:Nat}{b:FS}{d:PyData}{r:List PyData}{ρ:Rho}{T:Tp}:forL i b (d::r) ρ T=bnd (b (ρ.set i (some (.d d))) T) (pV (forL i b r)):=rfl
theorem mM{k:Nat}{T:Tp}{e0 G:PyData}{f:PyData->PyData}:∀(es:List PyData) (acc:List PyData) (o3 o4:Option D.W),(∀e∈es,da (f e)/\dv k [.d e,.d G] T=some (f e,T))->acc.length+es.length<=1000 ->
  match (es.map f).filter isF with
  |R::_=>∃ρ',forL 3 (eL k) es [some (.d e0),some (.d G),some (.loc (.list acc)),o3,o4] T=some ((.rt R,ρ'),T)
  |[]=>∃o3' o4',forL 3 (eL k) es [some (.d e0),some (.d G),some (.loc (.list acc)),o3,o4] T=some ((.nx,[some (.d e0),some (.d G),some (.loc (.list (acc++es.map fun e=>vOf (f e)))),(o3':Option D.W),o4']),T)
 |[],acc,o3,o4,_,_=>⟨o3,o4,by simp[forL]⟩
 |e::es,acc,o3,o4,h,hl=>by
  obtain⟨t,ht⟩:=h e List.mem_cons_self;have hl':acc.length<sizeLine:=Nat.lt_of_lt_of_le (by simp at hl;omega:acc.length<1000) (by decide);have go:forL 3 (eL k) (e::es) [some (.d e0),some (.d G),some (.loc (.list acc)),o3,o4] T=bnd (eL k [some (.d e0),some (.d G),some (.loc (.list acc)),some (.d e),o4] T) (pV (forL 3 (eL k) es)):=rfl;rw[go]
  rcases mL t with⟨hf,w,_,hw⟩|⟨hf,hv,_⟩
  .rw[List.map_cons,List.filter_cons,if_pos hf]
   rw[hw] at ht
   have hb:eL k [some (.d e0),some (.d G),some (.loc (.list acc)),some (.d e),o4] T=some ((.rt (fl w),[some (.d e0),some (.d G),some (.loc (.list acc)),some (.d e),some (.d (fl w))]),T):=by
    simp[eL,ht,fl]
   rw[hb,hw];exact⟨_,rfl⟩
  .rw[List.map_cons,List.filter_cons,hf]
   have ih:=mM (e0:=e0) es (acc++[vOf (f e)]) (some (.d e)) (some (.d (f e))) (fun x hx=>h x (List.mem_cons_of_mem _ hx)) (by simp at hl ⊢;omega)
   have hb:eL k [some (.d e0),some (.d G),some (.loc (.list acc)),some (.d e),o4] T=some ((.nx,[some (.d e0),some (.d G),some (.loc (.list (acc++[vOf (f e)]))),some (.d e),some (.d (f e))]),T):=by
    generalize hV:vOf (f e)=v at hv;rw[hv] at ht ⊢;simp[eL,ht,vl,hl']
   rw[hb,oT,tY];simp only[Bool.false_eq_true,if_false]
   cases hF:(es.map f).filter isF with
   |nil=>
    rw[hF] at ih;obtain⟨o3',o4',hi⟩:=ih;exact⟨o3',o4',by rw[hi];simp⟩
   |cons R r=>
    rw[hF] at ih;exact ih
structure Node(e0:PyData)(w0:Str)(es:List PyData):Prop where
 w1:∀T,cu [.d e0] T=some (.list es,T)
 ix:ixD e0 (.int 0)=some (.str w0)
 np:(w0=Str.ofString "put")=False
 ng:(w0=Str.ofString "got")=False
 ln:es.length<=8
def wu(G:PyData)(gs:List PyData):Prop:=∀i:Int,ixD G (.int i)=atI gs i
theorem mY(gs:List PyData):wu (.tuple gs) gs:=fun _=>rfl
theorem qW(n:Nat):dv (n+1)=aL 5 (ak (fIf (aC (ag eqD (ag ixD (aa 0) (fC (.int 0))) (fC (.str "put")))) (ay (ao .tuple (ae (fC (.str "value")) (ae (ag ixD (aa 0) (fC (.int 1))) ah)))) aD) (ak (fIf (aC (ag eqD (ag ixD (aa 0) (fC (.int 0))) (fC (.str "got")))) (ay (ao .tuple (ae (fC (.str "value")) (ae (ag ixD (aa 1) (ag ixD (aa 0) (fC (.int 1)))) ah)))) aD) (ak (eN 2 ah) (ak (bc 3 (aZ (ar cu (ae (aa 0) ah))) (eL n)) (ay (eJ bp (ae (ag ixD (aa 0) (fC (.int 0))) (ae (aa 2) ah)))))))):=by rw[dv];rfl
theorem fN{a:PyData}{r:List PyData}:bV (a::r) (some 1) none=r:=by
 have e:HT.sIx (a::r).length 0 (some 1)=1:=by
  have:=HT.A7 (a::r).length 0 1;rw[show ((1:Nat):Int)=1 from rfl] at this;rw[this];simp
 have e2:HT.sIx (a::r).length (a::r).length none=(a::r).length:=rfl;unfold bV;rw[e,e2];simp
def TBB(G:PyData)(gs:List PyData)(n:Nat)(e:PyData):Prop:=∃R,da R/\(∀k T,n<k->bY k [.d e,.d (.list gs)] T=some (R,T))/\∀k T,n<k->dv k [.d e,.d G] T=some (R,T)
def fB:FI:=(aZ (bW (aC (ag eqD (ag ixD (aa 0) (fC (.int 0))) (fC (.str "row")))) (ag ixD (aa 0) (fC (.int 1))) (fSl (aa 0) (fP (fC (.int 1))) cZ)))
structure NodeB(e0:PyData)(w0:Str)(es:List PyData):Prop where
 nd:Node e0 w0 es
 w2:∀G T,fB [some (.d e0),some (.d G),none,none,none,none] T=some (es,T)
abbrev lfB:FS:=(fIf (aC (ag eqD (ag ixD (aa 3) (fC (.int 0))) (fC (.str "fails")))) (ay (aa 3)) aD)
theorem nZ{T:Tp}{f:PyData->PyData}{a0 a1 a2:PyData}:∀(es:List PyData) (o3:Option D.W),(∀e∈es,da (f e)) ->
  match (es.map f).filter isF with
  |R::_=>∃ρ',forL 3 lfB (es.map f) [some (.d a0),some (.d a1),some (.d a2),o3,none,none] T=some ((.rt R,ρ'),T)
  |[]=>∃o3',forL 3 lfB (es.map f) [some (.d a0),some (.d a1),some (.d a2),o3,none,none] T=some ((.nx,[some (.d a0),some (.d a1),some (.d a2),o3',none,none]),T)
 |[],o3,_=>⟨o3,by simp[forL]⟩
 |e::es,o3,h=>by
  have t:=h e List.mem_cons_self;have ih:=nZ (T:=T) (f:=f) (a0:=a0) (a1:=a1) (a2:=a2) es (some (.d (f e))) fun x hx=>h x (List.mem_cons_of_mem _ hx);rw[List.map_cons,rJ]
  rcases mL t with⟨hf,w,_,hw⟩|⟨hf,hv,_⟩
  .rw[List.filter_cons,if_pos hf]
   have hb:lfB ([some (.d a0),some (.d a1),some (.d a2),o3,none,none].set 3 (some (.d (f e)))) T=some ((.rt (f e),[some (.d a0),some (.d a1),some (.d a2),some (.d (f e)),none,none]),T):=by
    rw[hw];simp[lfB,fl,dw]
   rw[hb];exact⟨_,rfl⟩
  .rw[List.filter_cons,hf]
   have hb:lfB ([some (.d a0),some (.d a1),some (.d a2),o3,none,none].set 3 (some (.d (f e)))) T=some ((.nx,[some (.d a0),some (.d a1),some (.d a2),some (.d (f e)),none,none]),T):=by
    generalize hV:vOf (f e)=v at hv;rw[hv];simp[lfB,vl]
   rw[hb,oT,tY];simp only[Bool.false_eq_true,if_false];exact ih
theorem mG{G:PyData}{gs:List PyData}{e0:PyData}{w0:Str}{es:List PyData}{f:PyData->PyData}{n:Nat}(N:NodeB e0 w0 es)
  (hf:∀e∈es,da (f e)/\(∀k T,n<k->bY k [.d e,.d (.list gs)] T=some (f e,T))/\∀k T,n<k->dv k [.d e,.d G] T=some (f e,T))
  (fin:(∀e∈es,f e=vl (vOf (f e))/\VV (vOf (f e)))->∃R,da R/\(∀T,bp [.d (.str w0),.d (.list (es.map fun e=>vOf (f e)))] T=some (R,T))/\∀ps o3 T,bu (ei (ρT e0 (.list gs) ps o3 (es.map fun e=>vOf (f e))) T)=some (R,T)):TBB G gs (n+1) e0:=by
 have ix:=N.nd.ix;have np:=N.nd.np;have ng:=N.nd.ng;have byP:∀k T,n<k->(∀e∈es,da (f e)/\dv k [.d e,.d G] T=some (f e,T)):=fun k T hk e he=>⟨(hf e he).1,(hf e he).2.2 k T hk⟩
 have cm:∀k T,n<k->bE bv (ar (bY k) (ae (aa 0) (ae (aa 2) ah))) [some (.d e0),some (.d (.list gs)),none,none,none,none] es T=some (es.map f,T):=fun k T hk=>d9 (g:=f) fun d hd=>by
  simp[(hf d hd).2.1 k T hk]
 have w2:=N.w2 (.list gs)
 have lw:∀k T,n<k->bM fB bv (ar (bY k) (ae (aa 0) (ae (aa 2) ah))) [some (.d e0),some (.d (.list gs)),none,none,none,none] T=some (.d (.list (es.map f)),T):=fun k T hk=>by
  simp[w2,cm k T hk]
 have l0:∀k T,n<k->bY (k+1) [.d e0,.d (.list gs)] T=bu (bnd (forL 3 lfB (es.map f) [some (.d e0),some (.d (.list gs)),some (.d (.list (es.map f))),none,none,none] T) (ic (ak (aE 4 (bM (aZ (aa 2)) bv (ag ixD (aa 0) (fC (.int 1))))) ei))):=fun k T hk=>by
  have q:=lw k T hk;unfold fB at q;rw[yt];unfold v7;simp[ix,np,ng] at q;simp[ix,np,ng,q]
 have vals:∀(vs:List PyData),(∀e∈es,f e=vl (vOf (f e)))->∀(ρ:Rho) (T:Tp),bE bv (ag ixD (aa 0) (fC (.int 1))) ρ (es.map f) T=some (es.map fun e=>vOf (f e),T):=fun _ all ρ T=>by
  have h:=d9 (e:=ag ixD (aa 0) (fC (.int 1))) (ρ:=ρ) (T:=T) (g:=vOf) (ds:=es.map f) fun d hd=>by
   obtain⟨e,he,rfl⟩:=List.mem_map.mp hd;have q:=all e he;generalize hV:vOf (f e)=v at q;rw[q];simp[vl]
  rw[h,List.map_map];rfl
 cases hF:(es.map f).filter isF with
 |cons R r=>
  have hR:R∈(es.map f).filter isF:=by rw[hF];exact List.mem_cons_self
  obtain⟨e,he,eR⟩:=List.mem_map.mp (List.mem_filter.mp hR).1;refine⟨R,by rw[←eR];exact(hf e he).1,fun k T hk=>?_,fun k T hk=>?_⟩
  .obtain⟨k,rfl⟩:=aX k (by omega)
   have lp:=nZ (T:=T) (f:=f) (a0:=e0) (a1:=.list gs) (a2:=.list (es.map f)) es none fun e he=>(hf e he).1;rw[hF] at lp;obtain⟨ρ',lp⟩:=lp;rw[l0 k T (by omega),lp];rfl
  .obtain⟨k,rfl⟩:=aX k (by omega)
   have lp:=mM (e0:=e0) es [] none none (byP k T (by omega)) (by have:=N.nd.ln;simp;omega);rw[hF] at lp;obtain⟨ρ',lp⟩:=lp;rw[qW];simp[ix,np,ng,N.nd.w1,lp]
 |nil=>
  have all:∀e∈es,f e=vl (vOf (f e))/\VV (vOf (f e)):=fun e he=>by
   rcases mL (hf e he).1 with⟨h1,_⟩|⟨_,h2⟩
   .have:f e∈(es.map f).filter isF:=List.mem_filter.mpr ⟨List.mem_map.mpr ⟨e,he,rfl⟩,h1⟩
    rw[hF] at this;cases this
   .exact h2
  obtain⟨R,t,q1,q2⟩:=fin all;refine⟨R,t,fun k T hk=>?_,fun k T hk=>?_⟩
  .obtain⟨k,rfl⟩:=aX k (by omega)
   have lp:=nZ (T:=T) (f:=f) (a0:=e0) (a1:=.list gs) (a2:=.list (es.map f)) es none fun e he=>(hf e he).1;rw[hF] at lp;obtain⟨o3',lp⟩:=lp;rw[l0 k T (by omega),lp];have q:=q2 (.list (es.map f)) o3' T;have v:=vals [] fun e he=>(all e he).1;simp[v];exact q
  .obtain⟨k,rfl⟩:=aX k (by omega)
   have lp:=mM (e0:=e0) es [] none none (byP k T (by omega)) (by have:=N.nd.ln;simp;omega);rw[hF] at lp;obtain⟨o3',o4',lp⟩:=lp;have cf:∀T,gj bp [.d (.str w0),.d (.list (es.map fun e=>vOf (f e)))] T=some (.d R,T):=fun T=>jp rfl (q1 []) (kK t);rw[qW];simp[ix,np,ng,N.nd.w1,lp,cf]
theorem mE{G:PyData}{gs:List PyData}{n:Nat}{es:List PyData}(h:∀e∈es,TBB G gs n e):∃f:PyData->PyData,∀e∈es,da (f e)/\(∀k T,n<k->bY k [.d e,.d (.list gs)] T=some (f e,T))/\∀k T,n<k->dv k [.d e,.d G] T=some (f e,T):=by
 classical
 refine⟨fun e=>if h':e∈es then (h e h').choose else .none,fun e he=>?_⟩;simp only[dif_pos he];exact(h e he).choose_spec
theorem Ex.tup{m:Int}{n:Nat}{e:PyData}(h:Ex m n e):∃xs,e=.tuple xs:=by cases h <;> exact⟨_,rfl⟩
theorem mN{m:Int}{G:PyData}{gs:List PyData}(hG:wu G gs)(hg:∀g∈gs,VV g)(hm:m<=(gs.length:Int)):∀(n:Nat) (e:PyData),Ex m n e->TBB G gs n e:=by
 intro n e h
 induction h with
 |put hv=>
  rename_i n v;refine⟨vl v,.inl ⟨v,rfl,hv.1⟩,fun k T hk=>?_,fun k T hk=>?_⟩
  .obtain⟨k,rfl⟩:=aX k (by omega)
   simp[bY,vl]
  .obtain⟨k,rfl⟩:=aX k (by omega)
   simp[dv,vl]
 |got h0 h1=>
  rename_i n i;obtain⟨g,e,hgm⟩:=vC (xs:=gs) h0 (by omega);refine⟨vl g,.inl ⟨g,rfl,hg g hgm⟩,fun k T hk=>?_,fun k T hk=>?_⟩
  .obtain⟨k,rfl⟩:=aX k (by omega)
   simp[bY,vl,e]
  .obtain⟨k,rfl⟩:=aX k (by omega)
   simp[dv,vl,hG i,e]
 |row hl _ ih=>
  rename_i n es _;obtain⟨f,hf⟩:=mE ih
  have e1:∀T,cu [.d (.tuple [.str "row",.tuple es])] T=some (.list es,T):=fun T=>by simp[cu]
  have e2:∀G T,fB [some (.d (.tuple [.str "row",.tuple es])),some (.d G),none,none,none,none] T=some (es,T):=fun G T=>by simp[fB,fN,D.intD,D.eh]
  refine mG (w0:=Str.ofString "row") (es:=es) (f:=f) ⟨⟨e1,rfl,by simp,by simp,by omega⟩,e2⟩ hf fun all=>?_
  have cq:CQ (.tuple (es.map fun e=>vOf (f e))):=.tup (by simpa using hl) fun d hd=>by
   obtain⟨e,he,rfl⟩:=List.mem_map.mp hd;exact(all e he).2
  refine⟨bd (.tuple (es.map fun e=>vOf (f e))),nM cq,fun T=>?_,fun ps o3 T=>?_⟩
  .simp[bp,m9 T cq.sm]
  .have lv:=fun T=>ph cq T
   generalize es.map (fun e=>vOf (f e))=qs at lv ⊢;unfold bd
   cases hb:aR (.tuple qs) with
   |true=>rw[hb] at lv;simp[ei,ρT,dw,lv,D.bz,vl]
   |false=>rw[hb] at lv;simp[ei,ρT,dw,lv,D.bz,fl]
 |many _ ih=>
  rename_i n e he;obtain⟨xs,hxs⟩:=Ex.tup he;obtain⟨f,hf⟩:=mE (es:=[e]) (fun x hx=>by rw[List.mem_singleton.mp hx];exact ih)
  have e1:∀T,cu [.d (.tuple [.str "many",e])] T=some (.list [e],T):=fun T=>by simp[cu,fN]
  have e2:∀G T,fB [some (.d (.tuple [.str "many",e])),some (.d G),none,none,none,none] T=some ([e],T):=fun G T=>by subst hxs;simp[fB,fN,D.intD,D.eh]
  refine mG (w0:=Str.ofString "many") (es:=[e]) (f:=f) ⟨⟨e1,rfl,by simp,by simp,by simp⟩,e2⟩ hf fun all=>?_;obtain⟨a1,a2⟩:=all e (by simp);generalize hV:vOf (f e)=v at a1 a2
  rcases a2.cases with⟨i,rfl,hi⟩|⟨x,rfl,hx,_⟩|⟨ds,rfl,hd,_⟩
  .refine⟨fl "kind",cR,fun T=>?_,fun ps o3 T=>?_⟩
   .simp[bp,jd,hV,fl]
   .simp[ei,ρT,dw,hV,fl]
  .have hx':x.length<=sizeLine:=cS (by omega)
   refine⟨vl (.int x.length),.inl ⟨_,rfl,lq (by omega) (by omega)⟩,fun T=>?_,fun ps o3 T=>?_⟩
   .simp[bp,jd,hV,vl,hx']
   .simp[ei,ρT,dw,hV,vl,hx']
  .refine⟨vl (.int ds.length),.inl ⟨_,rfl,lq (by omega) (by omega)⟩,fun T=>?_,fun ps o3 T=>?_⟩
   .simp[bp,jd,hV,vl]
   .simp[ei,ρT,dw,hV,vl]
 |pair hw ha hb hj iha ihb=>
  rename_i n w a b;obtain⟨xs,hxs⟩:=Ex.tup ha
  obtain⟨f,hf⟩:=mE (es:=[a,b]) (fun x hx=>by
   simp at hx
   rcases hx with rfl|rfl
   .exact iha
   .exact ihb)
  have ne:¬w="put"/\¬w="got"/\¬w="row"/\¬w="many":=by
   simp[PW] at hw
   rcases hw with rfl|rfl|rfl|rfl|rfl <;> simp
  obtain⟨n1,n2,n4,n5⟩:=ne
  have e1:∀T,cu [.d (.tuple [.str (Str.ofString w),a,b])] T=some (.list [a,b],T):=fun T=>by simp[cu,fN,n1,n2,n4]
  have e2:∀G T,fB [some (.d (.tuple [.str (Str.ofString w),a,b])),some (.d G),none,none,none,none] T=some ([a,b],T):=fun G T=>by subst hxs;simp[fB,fN,D.intD,D.eh,n4]
  refine mG (w0:=Str.ofString w) (es:=[a,b]) (f:=f) ⟨⟨e1,rfl,by simp[n1],by simp[n2],by simp⟩,e2⟩ hf fun all=>?_;obtain⟨a1,a2⟩:=all a (by simp);obtain⟨b1,b2⟩:=all b (by simp)
  have hj':w="join"->∃y,vOf (f b)=.str y:=fun z=>by
   obtain⟨y,rfl⟩:=hj z;have q:=(hf (.tuple [.str "put",.str y]) (by simp)).2.1 (n+1) [] (by omega)
   have q':bY (n+1) [.d (.tuple [.str "put",.str y]),.d (.list gs)] []=some (vl (.str y),[]):=by simp[bY,vl]
   rw[q'] at q;have:=(Prod.mk.inj (Option.some.inj q)).1;exact⟨y,by rw[←this];rfl⟩
  obtain⟨R,t,q1,q2⟩:=E3 hw a2 b2 hj';refine⟨R,t,fun T=>q1 T,fun ps o3 T=>?_⟩;have q:=q2 (.tuple [.str (Str.ofString w),a,b]) (.list gs) ps o3 T rfl
  have z:ei (ρT (.tuple [.str (Str.ofString w),a,b]) (.list gs) ps o3 [vOf (f a),vOf (f b)]) T=fD (ρT (.tuple [.str (Str.ofString w),a,b]) (.list gs) ps o3 [vOf (f a),vOf (f b)]) T:=by
   unfold ei;simp[ρT,n4,n5]
  show bu (ei (ρT (.tuple [.str (Str.ofString w),a,b]) (.list gs) ps o3 [vOf (f a),vOf (f b)]) T)=_;rw[z];exact q
inductive Rg(p:Bool):Nat->Nat->PyData->Prop where
 |fail {g n:Nat}{x:Str}:isName (.str x)=true/\x≠Str.ofString "peek"->Rg p g n (.tuple [.str "fail",.str x])
 |say {g n:Nat}{e:PyData}:Ex (g:Int) 1 e->Rg p g (n+1) (.tuple [.str "say",e])
 |ask {g n:Nat}{w:String}{e r:PyData}:(w="want"\/(w="peek"/\p=true))->g<2->Ex (g:Int) 1 e->Rg p (g+1) n r->Rg p g (n+1) (.tuple [.str (Str.ofString w),e,r])
 |whn {g n:Nat}{e r s:PyData}:Ex (g:Int) 1 e->Rg p g n r->Rg p g n s->Rg p g (n+1) (.tuple [.str "when",e,r,s])
def mdT(v:PyData):PyData:=.tuple [.str "made",v]
def flT(x:Str):PyData:=.tuple [.str "fails",.str x]
def asT(b:Bool)(x:Str)(r:PyData):PyData:=.tuple [.str (Str.ofString (if b then "peek" else "want")),.str x,r]
inductive StepOk(p:Bool)(g n:Nat):PyData->Prop where
 |md {v:PyData}:VV v->StepOk p g n (mdT v)
 |fl {x:Str}:isName (.str x)=true->StepOk p g n (flT x)
 |ask {b:Bool}{x:Str}{r:PyData}{n':Nat}:(b=true->p=true)->isName (.str x)=true->g<2->n'<=n->Rg p (g+1) n' r->StepOk p g n (asT b x r)
theorem StepOk.up{p:Bool}{g n m:Nat}{S:PyData}(h:StepOk p g n S)(l:n<=m):StepOk p g m S:=by
 cases h with
 |md a=>exact .md a
 |fl a=>exact .fl a
 |ask a b c d e=>exact .ask a b c (Nat.le_trans d l) e
theorem oj:∀w∈FW,isName (.str (Str.ofString w))=true:=by decide +kernel
theorem By:isName (.str "name")=true:=by decide +kernel
theorem zm{v:PyData}(h:aR v=true):∃b,inG v (.tuple [.int 0,.str "",.tuple []])=some (.bool b):=by
 have h2:([PyData.int 0,.str "",.tuple []]).all SeqAt.shaped=true:=by
  have a:SeqAt.shaped (.int 0)=true:=ir (by decide +kernel);have b:SeqAt.shaped (.str "")=true:=ir (by decide +kernel);have c:SeqAt.shaped (.tuple [])=true:=ir (by decide +kernel);simp[a,b,c]
 exact⟨_,if_pos ⟨ir h,h2⟩⟩
theorem tL{x:Str}(h:isName (.str x)=true):Sm (.str x):=nI 4 _ (gH (xS h)).1
theorem AW{d:PyData}(T:Tp)(h:Sm d):iu [.d d] T=some (.bool (isName d),T):=by
 cases d with
 |str x=>
  have hz:x.length<=sizeLine:=Nat.le_trans h.str (by decide);have hh:∀T,gM [.d (.str x),.d (.str "abcdefghijklmnopqrstuvwxyz")] T=some (.bool (has LET x),T):=fun T=>wq T hz;have e:isName (.str x)=(decide (1<=x.length)&&decide (x.length<=8)&&has LET x):=rfl
  by_cases h1:1<=x.length
  .have h1':(1:Int)<=(x.length:Int):=by omega
   by_cases h8:x.length<=8
   .have h8':(x.length:Int)<=8:=by omega
    simp[iu,hz,hh,e,h1,h1',h8,h8']
   .have h8':¬(x.length:Int)<=8:=by omega
    simp[iu,hz,hh,e,h1,h1',h8,h8']
  .have h1':¬(1:Int)<=(x.length:Int):=by omega
   simp[iu,hz,hh,e,h1,h1']
 |_=>rfl
theorem iZ{α:Type}{a b c d:α}:atI [a,b,c,d] 0=some a:=rfl
theorem j9{α:Type}{a b c d:α}:atI [a,b,c,d] 1=some b:=rfl
theorem wA{α:Type}{a b c d:α}:atI [a,b,c,d] 2=some c:=rfl
theorem wy{α:Type}{a b c d:α}:atI [a,b,c,d] 3=some d:=rfl
def di(w:String)(x:PyData):PyData:=.tuple [.str (Str.ofString w),x]
def cN(b:Bool)(x:Str)(v:PyData):List PyData:=if b then [] else [.tuple [.str x,v]]
def rdS:PyData->PyData
 |.tuple [.str x,v]=>.tuple [.str x,stS v]
 |d=>d
theorem oJ{v:PyData}(T:Tp)(h:VV v):du 25 [.d v] T=some (stS v,T):=ur 4 25 v T (dM h.val).1 (dM h.val).2 (by decide)
theorem Ce{v:PyData}(T:Tp)(h:VV v):gE [.d v] T=some (.bool (isName v),T):=by
 rcases h.cases with⟨i,rfl,_⟩|⟨x,rfl,hx,hx2,_⟩|⟨ds,rfl,_⟩
 .rfl
 .have z:x.length<=sizeLine:=Nat.le_trans hx (by decide)
  have e:isName (.str x)=(decide (1<=x.length)&&decide (x.length<=8)&&has LET x):=rfl
  have c:∀(ρ:Rho) (T:Tp),bE bv (ag inD (aa 0) (fC (.str "abcdefghijklmnopqrstuvwxyz"))) ρ (D.signs x) T=some ((D.signs x).map fun d=>.bool (jG LET d),T):=fun ρ T=>d9 (g:=fun d=>.bool (jG LET d)) fun d hd=>by
   obtain⟨c,_,rfl⟩:=q8 hd;simp[jG];rfl
  by_cases h1:1<=x.length
  .have h1':(1:Int)<=x.length:=by omega
   by_cases h8:x.length<=8
   .have h8':(x.length:Int)<=8:=by omega
    have sa:=rb LET x;simp[gE,z,h1,h1',h8,h8',c,e,sa]
   .have h8':¬(x.length:Int)<=8:=by omega
    simp[gE,z,h1,h1',h8,h8',e]
  .have h1':¬(1:Int)<=x.length:=by omega
   have h0:x.length=0:=by omega
   simp[gE,z,h0,e]
 .rfl
theorem jV(x a b:Str):ft (.str x) (.tuple [.str a,.str b])=some (.bool (!(decide (a=x)||decide (b=x)))):=by
 have e:ft (.str x) (.tuple [.str a,.str b])=some (.bool (!(decide (a=x)||(decide (b=x)||false)))):=rfl;rw[e,Bool.or_false]
def dY:FT:=(aC (ag ft (ag ixD (aa 0) (fC (.int 0))) (ao .tuple (ae (fC (.str "say")) (ae (fC (.str "fail")) ah)))))
abbrev mw:FS:=fV
def i4:FS:=(ak (aE 4 (ao .tuple (ae (fC (.str "fails")) (ae (ag ixD (aa 0) (fC (.int 1))) ah)))) (ak (fIf (aC (ag eqD (ag ixD (aa 0) (fC (.int 0))) (fC (.str "say")))) (aE 4 (eJ (bY 25) (ae (ag ixD (aa 0) (fC (.int 1))) (ae (aa 2) ah)))) aD) (ak (fIf (aC (ag eqD (ag ixD (aa 4) (fC (.int 0))) (fC (.str "fails")))) (ay (ao .tuple (ae (fCB bz (ae (aa 3) ah)) (ae (aa 4) (ae (fC .none) ah))))) aD) (ay (ao .tuple (ae (fCB bz (ae (aa 3) ah)) (ae (ao .tuple (ae (fC (.str "made")) (ae (ar (cD 25) (ae (ag ixD (aa 4) (fC (.int 1))) ah)) ah))) (ae (ag ixD (aa 4) (fC (.int 1))) ah))))))))
theorem za:gN=aL 5 (ak (eN 2 ah) (ak (eN 3 ah) (ak (bR dY mw 100000) i4))):=rfl
theorem Bu{o:PyData->PyData->Option PyData}{T:Tp}{xs:List PyData}{y:PyData}:op2 o T (.loc (.list xs)) (.d y)=mkD T (o (.list xs) y):=rfl
theorem B7{α:Type}{gs:List α}{v:α}:atI (gs++[v]) (-1)=some v:=by
 unfold atI ixN
 have h0:¬(0:Int)<=-1:=by decide
 have h1 : -((gs++[v]).length:Int)<=-1:=by simp;omega
 rw[if_neg h0,if_pos h1]
 have e:(-1+((gs++[v]).length:Int)).toNat=gs.length:=by simp;omega
 show (gs++[v])[(-1+((gs++[v]).length:Int)).toNat]? = some v;rw[e];simp
def ρL(r:PyData)(G:List (PyData×PyData))(gs rd:List PyData)(o:Option D.W):Rho:=[some (.d r),some (.d (.dict G)),some (.loc (.list gs)),some (.loc (.list (rd.map rdS))),o]
def goL(m:Nat)(r:PyData)(G:List (PyData×PyData))(gs rd:List PyData)(o:Option D.W)(T:Tp):Option (PyData×Tp):=bu (bnd (bR dY mw m (ρL r G gs rd o) T) (ic i4))
def mz(n:Nat)(r:PyData)(gs:List PyData)(S:PyData):Prop:=∀(G:List (PyData×PyData)) (m:Nat) (rd:List PyData) (o:Option D.W) (T:Tp),n<m->rd.length<1000->(∀x v,av G x=some v->VV v) ->
 (∀v,S=mdT v->goL m r G gs rd o T=some (.tuple [.tuple (rd.map rdS),.tuple [.str "made",stS v],v],T)) /\
 (∀x,S=flT x->goL m r G gs rd o T=some (.tuple [.tuple (rd.map rdS),di "fails" (.str x),.none],T)) /\
 (∀b x r',S=asT b x r'->(av G x=none->goL m r G gs rd o T=some (.tuple [.tuple (rd.map rdS),di "wants" (.str x),.none],T)) /\
  ∀v,av G x=some v->∃m' o',m<=m' + n/\goL m r G gs rd o T=goL m' r' G (gs++[v]) (rd++cN b x v) o' T)
theorem fA{v:PyData}{x:Str}:mdT v≠flT x:=by simp[mdT,flT]
theorem whl{c:FT}{b:FS}{m:Nat}{ρ:Rho}{T:Tp}(h:c ρ T=some (true,T)):bR c b (m+1) ρ T=bnd (b ρ T) fun p T2=>match p with
   |(.nx,ρ1)=>bR c b m ρ1 T2
   |(.ct,ρ1)=>bR c b m ρ1 T2
   |(.bk,ρ1)=>some ((.nx,ρ1),T2)
   |(.rt x,ρ1)=>some ((.rt x,ρ1),T2)
   |(.ro x,ρ1)=>some ((.ro x,ρ1),T2):=by
 show bnd (c ρ T) _=_;rw[h];rfl
theorem Cm{c:FT}{b:FS}{m:Nat}{ρ ρ':Rho}{T:Tp}{x:PyData}(h:c ρ T=some (true,T))(hb:b ρ T=some ((.rt x,ρ'),T)):bR c b (m+1) ρ T=some ((.rt x,ρ'),T):=by rw[whl h,hb];rfl
theorem lj{c:FT}{b:FS}{m:Nat}{ρ ρ':Rho}{T:Tp}(h:c ρ T=some (true,T))(hb:b ρ T=some ((.nx,ρ'),T)):bR c b (m+1) ρ T=bR c b m ρ' T:=by rw[whl h,hb];rfl
theorem kU{c:FT}{b:FS}{m:Nat}{ρ:Rho}{T:Tp}(h:c ρ T=some (false,T)):bR c b (m+1) ρ T=some ((.nx,ρ),T):=by
 show bnd (c ρ T) _=_;rw[h];rfl
theorem lI{m:Nat}{r:PyData}{G:List (PyData×PyData)}{gs rd:List PyData}{o:Option D.W}{T:Tp}{ρ':Rho}{x:PyData}(h:dY (ρL r G gs rd o) T=some (true,T))(hb:mw (ρL r G gs rd o) T=some ((.rt x,ρ'),T)):goL (m+1) r G gs rd o T=some (x,T):=by
 unfold goL;rw[Cm h hb];rfl
theorem va{m:Nat}{r r':PyData}{G:List (PyData×PyData)}{gs rd gs' rd':List PyData}{o o':Option D.W}{T:Tp}(h:dY (ρL r G gs rd o) T=some (true,T))(hb:mw (ρL r G gs rd o) T=some ((.nx,ρL r' G gs' rd' o'),T)):goL (m+1) r G gs rd o T=goL m r' G gs' rd' o' T:=by
 unfold goL;rw[lj h hb]
theorem oh{m:Nat}{r:PyData}{G:List (PyData×PyData)}{gs rd:List PyData}{o:Option D.W}{T:Tp}(h:dY (ρL r G gs rd o) T=some (false,T)):goL (m+1) r G gs rd o T=bu (i4 (ρL r G gs rd o) T):=by
 unfold goL;rw[kU h];rfl
theorem Aw{m:Nat}{x:Str}{G:List (PyData×PyData)}{gs rd:List PyData}{o:Option D.W}{T:Tp}:goL (m+1) (.tuple [.str "fail",.str x]) G gs rd o T=some (.tuple [.tuple (rd.map rdS),di "fails" (.str x),.none],T):=by
 rw[oh (by simp[dY,ρL,jV])];simp[ρL,i4,di,D.bz]
theorem An{p:Bool}:∀(n g:Nat) (r:PyData),Rg p g n r->∀gs:List PyData,gs.length=g->(∀v∈gs,VV v)->n<=20->∃S,StepOk p g n S/\(∀k T,n<k->cF k [.d r,.d (.tuple gs)] T=some (S,T))/\mz n r gs S:=by
 intro n g r h
 induction h with
 |fail hx=>
  rename_i g n x;intro gs hl hv hn;refine⟨flT x,.fl hx.1,fun k T hk=>?_,fun G m rd o T hm hr hG=>⟨fun v e=>absurd e.symm fA,fun y e=>?_,fun b y r' e=>?_⟩⟩
  .obtain⟨k,rfl⟩:=aX k (by omega)
   simp[cF,flT]
  .obtain⟨m,rfl⟩:=aX m (by omega)
   have:x=y:=by simpa[flT] using e
   subst this;exact Aw
  .cases b <;> simp[flT,asT] at e
 |say he=>
  rename_i g n e;intro gs hl hv hn;have hls:gs.length<=2\/True:=.inr trivial;obtain⟨R,t,hL,hP⟩:=mN (mY gs) hv (by rw[hl];exact Int.le_refl _) 1 e he;have tb:=fun T=>hP 25 T (by omega);have tl:∀T,gj (bY 25) [.d e,.loc (.list gs)] T=some (.d R,T):=fun T=>jp rfl (hL 25 [] (by omega)) (kK t)
  rcases t with⟨v,rfl,hv'⟩|⟨w,hw,rfl⟩
  .refine⟨mdT v,.md hv',fun k T hk=>?_,fun G m rd o T hm hr hG=>⟨fun u e'=>?_,fun y e'=>absurd e' fA,fun b y r' e'=>?_⟩⟩
   .obtain⟨k,rfl⟩:=aX k (by omega)
    simp[cF,mdT,tb,vl]
   .obtain⟨m,rfl⟩:=aX m (by omega)
    have:v=u:=by simpa[mdT] using e'
    subst this;rw[oh (by simp[dY,ρL,jV])];simp[ρL,i4,tl,vl,jA _ hv',D.bz]
   .cases b <;> simp[mdT,asT] at e'
  .refine⟨flT (Str.ofString w),.fl (oj w hw),fun k T hk=>?_,fun G m rd o T hm hr hG=>⟨fun u e'=>absurd e'.symm fA,fun y e'=>?_,fun b y r' e'=>?_⟩⟩
   .obtain⟨k,rfl⟩:=aX k (by omega)
    simp[cF,flT,tb,fl]
   .obtain⟨m,rfl⟩:=aX m (by omega)
    have:Str.ofString w=y:=by simpa[flT] using e'
    subst this;rw[oh (by simp[dY,ρL,jV])];simp[ρL,i4,tl,fl,di,D.bz]
   .cases b <;> simp[flT,asT] at e'
 |ask hw hg he hr ih=>
  rename_i g n w e r;intro gs hl hv hn;obtain⟨R,t,hL,hP⟩:=mN (mY gs) hv (by rw[hl];exact Int.le_refl _) 1 e he;have tb:=fun T=>hP 25 T (by omega);have tl:∀T,gj (bY 25) [.d e,.loc (.list gs)] T=some (.d R,T):=fun T=>jp rfl (hL 25 [] (by omega)) (kK t)
  have nw:¬w="fail"/\¬w="when"/\¬w="say":=by rcases hw with rfl|⟨rfl,_⟩ <;> simp
  obtain⟨n1,n2,n3⟩:=nw
  have hcA:∀G rd o T,dY (ρL (.tuple [.str (Str.ofString w),e,r]) G gs rd o) T=some (true,T):=fun G rd o T=>by rcases hw with rfl|⟨rfl,_⟩ <;> simp[dY,ρL,jV]
  have hgl:gs.length<sizeLine:=Nat.lt_of_lt_of_le (by omega:gs.length<1000) (by decide)
  rcases t with⟨v,rfl,hv'⟩|⟨u,hu,rfl⟩
  .have ln:=fun T=>AW (d:=v) T (uy hv'.val)
   have ll:=fun T=>Ce (v:=v) T hv'
   cases hi:isName v with
   |false=>
    refine⟨flT "name",.fl By,fun k T hk=>?_,fun G m rd o T hm hr hG=>⟨fun u e'=>absurd e'.symm fA,fun y e'=>?_,fun b y r' e'=>?_⟩⟩
    .obtain⟨k,rfl⟩:=aX k (by omega)
     simp[cF,flT,tb,vl,n1,n2,n3,ln,hi]
    .obtain⟨m,rfl⟩:=aX m (by omega)
     have:Str.ofString "name"=y:=by simpa[flT] using e'
     subst this;exact lI (hcA G rd o T) (by simp[fV,ρL,tl,vl,di,n2,n3,ll,hi,D.bz];rfl)
    .cases b <;> simp[flT,asT] at e'
   |true=>
    obtain⟨x,rfl⟩:∃x,v=.str x:=by cases v <;> first|exact⟨_,rfl⟩|cases hi
    obtain⟨b,hb,hbp⟩:∃b:Bool,w=(if b then "peek" else "want")/\(b=true->p=true):=by
     rcases hw with rfl|⟨rfl,hp⟩
     .exact⟨false,rfl,fun z=>by cases z⟩
     .exact⟨true,rfl,fun _=>hp⟩
    refine⟨asT b x r,.ask hbp hi hg (Nat.le_succ n) hr,fun k T hk=>?_,fun G m rd o T hm hrd hG=>⟨fun u e'=>?_,fun y e'=>?_,fun b' y r' e'=>?_⟩⟩
    .obtain⟨k,rfl⟩:=aX k (by omega)
     simp[cF,asT,tb,vl,n1,n2,n3,ln,hi,hb]
     cases b <;> simp
    .cases b <;> simp[mdT,asT] at e'
    .cases b <;> simp[flT,asT] at e'
    .obtain⟨m,rfl⟩:=aX m (by omega)
     have hc:=hcA G rd o T
     obtain⟨rfl,rfl,rfl⟩:b=b'/\x=y/\r=r':=by
      cases b <;> cases b' <;> simp[asT] at e' <;> simp[e']
     have hrl:rd.length<sizeLine:=Nat.lt_of_lt_of_le hrd (by decide);refine⟨fun hk=>lI hc (by simp[fV,ρL,tl,vl,di,n2,n3,ll,hi,dP,hk,D.bz];rfl),fun v hk=>⟨m,some (.d (vl (.str x))),by omega,?_⟩⟩;refine va hc ?_
     cases b with
     |true=>
      subst hb;simp[fV,ρL,tl,vl,n2,n3,ll,hi,dP,ixA,hk,hgl,cN]
     |false=>
      subst hb;simp[fV,ρL,tl,vl,n2,n3,ll,hi,dP,ixA,hk,hgl,hrl,cN,rdS,Bu,B7,jA T (hG x v hk)]
  .refine⟨flT (Str.ofString u),.fl (oj u hu),fun k T hk=>?_,fun G m rd o T hm hr hG=>⟨fun u e'=>absurd e'.symm fA,fun y e'=>?_,fun b y r' e'=>?_⟩⟩
   .obtain⟨k,rfl⟩:=aX k (by omega)
    simp[cF,flT,tb,fl,n1]
   .obtain⟨m,rfl⟩:=aX m (by omega)
    have:Str.ofString u=y:=by simpa[flT] using e'
    subst this;exact lI (hcA G rd o T) (by simp[fV,ρL,tl,fl,di,D.bz];rfl)
   .cases b <;> simp[flT,asT] at e'
 |whn he hr hs ihr ihs=>
  rename_i g n e r s;intro gs hl hv hn;obtain⟨R,t,hL,hP⟩:=mN (mY gs) hv (by rw[hl];exact Int.le_refl _) 1 e he;have tb:=fun T=>hP 25 T (by omega);have tl:∀T,gj (bY 25) [.d e,.loc (.list gs)] T=some (.d R,T):=fun T=>jp rfl (hL 25 [] (by omega)) (kK t)
  have hc:∀G rd o T,dY (ρL (.tuple [.str "when",e,r,s]) G gs rd o) T=some (true,T):=fun G rd o T=>by simp[dY,ρL,iZ,jV]
  rcases t with⟨v,rfl,hv'⟩|⟨u,hu,rfl⟩
  .obtain⟨b,hb⟩:=zm hv'.val
   have key:∀q,q=(if b=true then s else r)->∀S,StepOk p g n S->(∀k T,n<k->cF k [.d q,.d (.tuple gs)] T=some (S,T))->mz n q gs S->∃S,StepOk p g (n+1) S/\(∀k T,n+1<k->cF k [.d (.tuple [.str "when",e,r,s]),.d (.tuple gs)] T=some (S,T))/\mz (n+1) (.tuple [.str "when",e,r,s]) gs S:=by
    intro q hq S hS hq2 hq3;refine⟨S,hS.up (Nat.le_succ n),fun k T hk=>?_,fun G m rd o T hm hrd hG=>?_⟩
    .obtain⟨k,rfl⟩:=aX k (by omega)
     have:=hq2 k T (by omega)
     cases b <;> (simp at hq;subst hq;simp[cF,tb,vl,hb,iZ,j9,wA,wy,this])
    .obtain⟨m,rfl⟩:=aX m (by omega)
     have st:goL (m+1) (.tuple [.str "when",e,r,s]) G gs rd o T=goL m q G gs rd (some (.d (vl v))) T:=by
      refine va (hc G rd o T) ?_
      cases b <;> (simp at hq;subst hq;simp[fV,ρL,tl,vl,hb,iZ,j9,wA,wy])
     obtain⟨a1,a2,a3⟩:=hq3 G m rd (some (.d (vl v))) T (by omega) hrd hG;refine⟨fun u e'=>by rw[st];exact a1 u e',fun y e'=>by rw[st];exact a2 y e',fun b' y r' e'=>?_⟩;obtain⟨c1,c2⟩:=a3 b' y r' e';refine⟨fun hk=>by rw[st];exact c1 hk,fun w hk=>?_⟩;obtain⟨m',o',l,q'⟩:=c2 w hk;exact⟨m',o',by omega,by rw[st];exact q'⟩
   cases b with
   |true=>
    obtain⟨S,h1,h2,h3⟩:=ihs gs hl hv (by omega);exact key s rfl S h1 h2 h3
   |false=>
    obtain⟨S,h1,h2,h3⟩:=ihr gs hl hv (by omega);exact key r rfl S h1 h2 h3
  .refine⟨flT (Str.ofString u),.fl (oj u hu),fun k T hk=>?_,fun G m rd o T hm hr hG=>⟨fun u e'=>absurd e'.symm fA,fun y e'=>?_,fun b y r' e'=>?_⟩⟩
   .obtain⟨k,rfl⟩:=aX k (by omega)
    simp[cF,flT,tb,fl,iZ,j9]
   .obtain⟨m,rfl⟩:=aX m (by omega)
    have:Str.ofString u=y:=by simpa[flT] using e'
    subst this;exact lI (hc G rd o T) (by simp[fV,ρL,tl,fl,di,j9,D.bz];rfl)
   .cases b <;> simp[flT,asT] at e'
@[simp] theorem HK{f:FE}{ρ:Rho}{T:Tp}:fG f ρ T=l5 T (f (cz ρ) []):=rfl
@[simp] theorem Gi:cz []=[]:=rfl
@[simp] theorem Ge{r:Rho}:cz (none::r)=none::cz r:=rfl
@[simp] theorem Gg{x:PyData}{r:Rho}:cz (some (.d x)::r)=some (.d x)::cz r:=rfl
@[simp] theorem Gf{x:PyData}{r:Rho}:cz (some (.loc x)::r)=some (.d x)::cz r:=rfl
@[simp] theorem Gd{i:Nat}{r:Rho}:cz (some (.tp i)::r)=none::cz r:=rfl
theorem kM{T T':Tp}{x:PyData}(h:aW x=true):l5 T (some (.d x,T'))=some (.d x,T):=if_pos h
theorem oG{m:Int}{n:Nat}{e:PyData}(h:Ex m n e):aW e=true:=by
 induction h with
 |put hv=>simp[aW,bh,iz hv.1.val]
 |got _ _=>simp[aW,bh]
 |row _ _ ih=>simp[aW,bh,iw ih]
 |many _ ih=>simp[aW,bh,ih]
 |pair _ _ _ _ iha ihb=>simp[aW,bh,iha,ihb]
theorem Cp{p:Bool}{g n:Nat}{r:PyData}(h:Rg p g n r):aW r=true:=by
 induction h with
 |fail _=>simp[aW,bh]
 |say he=>simp[aW,bh,oG he]
 |ask _ _ he _ ih=>simp[aW,bh,oG he,ih]
 |whn he _ _ ih1 ih2=>simp[aW,bh,oG he,ih1,ih2]
theorem zL{p:Bool}{g n:Nat}{S:PyData}(h:StepOk p g n S):aW S=true:=by
 cases h with
 |md hv=>simp[mdT,aW,bh,iz hv.val]
 |fl _=>simp[flT,aW,bh]
 |ask _ _ _ _ hr=>simp[asT,aW,bh,Cp hr]
def stp(r:PyData)(gs:List PyData):PyData:=match cF 25 [.d r,.d (.tuple gs)] [] with
 |some (S,_)=>S
 |none=>.none
theorem iJ{p:Bool}{n g:Nat}{r:PyData}{gs:List PyData}(h:Rg p g n r)(hl:gs.length=g)(hv:∀v∈gs,VV v)(hn:n<=20) :
  StepOk p g n (stp r gs)/\(∀k T,n<k->cF k [.d r,.d (.tuple gs)] T=some (stp r gs,T))/\mz n r gs (stp r gs):=by
 obtain⟨S,h1,h2,h3⟩:=An n g r h gs hl hv hn
 have e:stp r gs=S:=by
  unfold stp;rw[h2 25 [] (by omega)]
 rw[e];exact⟨h1,h2,h3⟩
def eP:PyData->Option (Bool×Str×PyData)
 |.tuple [.str w,.str x,r]=>if w=Str.ofString "want" then some (false,x,r) else if w=Str.ofString "peek" then some (true,x,r) else none
 |_=>none
@[simp] theorem vD{b:Bool}{x:Str}{r:PyData}:eP (asT b x r)=some (b,x,r):=by cases b <;> simp[asT,eP]
@[simp] theorem JU{v:PyData}:eP (mdT v)=none:=by simp[mdT,eP]
@[simp] theorem JV{x:Str}:eP (flT x)=none:=by simp[flT,eP]
structure St3 where
 gs:List PyData
 rd:List PyData
 S:PyData
abbrev Dc:=List (PyData×PyData)
def ie:Nat->Dc->St3->St3
 |0,_,s=>s
 |f+1,G,s=>match eP s.S with
  |none=>s
  |some (b,x,r)=>match av G x with
   |none=>s
   |some v=>ie f G ⟨s.gs++[v],s.rd++cN b x v,stp r (s.gs++[v])⟩
def run(G:Dc)(s:St3):St3:=ie (2-s.gs.length) G s
structure OkS(p:Bool)(n:Nat)(s:St3):Prop where
 v:∀v∈s.gs,VV v
 st:StepOk p s.gs.length n s.S
 rd:s.rd.length<=s.gs.length
 rv:∀d∈s.rd,∃x v,d=.tuple [.str x,v]/\isName (.str x)=true/\VV v
 le:s.gs.length<=2
def GV(G:Dc):Prop:=∀x v,av G x=some v->VV v
theorem kX{G:Dc}{s:St3}(h:eP s.S=none):run G s=s:=by
 unfold run
 cases 2-s.gs.length with
 |zero=>rfl
 |succ f=>rw[ie,h]
theorem nz{G:Dc}{s:St3}{b:Bool}{x:Str}{r:PyData}(h:s.S=asT b x r)(hk:av G x=none):run G s=s:=by
 unfold run
 cases 2-s.gs.length with
 |zero=>rfl
 |succ f=>rw[ie,h,vD];simp only[hk]
theorem ff{G:Dc}{s:St3}{b:Bool}{x:Str}{r v:PyData}(h:s.S=asT b x r)(hl:s.gs.length<2)(hk:av G x=some v):run G s=run G ⟨s.gs++[v],s.rd++cN b x v,stp r (s.gs++[v])⟩:=by
 have e:2-s.gs.length=(2-(s.gs++[v]).length)+1:=by simp;omega
 show ie (2-s.gs.length) G s=_;rw[e,ie,h,vD];simp only[hk];rfl
theorem OkS.next{p:Bool}{n:Nat}{s:St3}{b:Bool}{x:Str}{r v:PyData}(h:OkS p n s)(e:s.S=asT b x r)(hn:n<=20)(hv:VV v):s.gs.length<2/\OkS p n ⟨s.gs++[v],s.rd++cN b x v,stp r (s.gs++[v])⟩:=by
 have st:=h.st;rw[e] at st;generalize hS:asT b x r=S at st
 cases st with
 |md _=>cases b <;> simp[asT,mdT] at hS
 |fl _=>cases b <;> simp[asT,flT] at hS
 |@ask b' x' r' n' hp hx hg hn' hr=>
  obtain⟨rfl,rfl,rfl⟩:b=b'/\x=x'/\r=r':=by
   cases b <;> cases b' <;> simp[asT] at hS <;> simp[hS]
  have hv':∀u∈s.gs++[v],VV u:=fun u hu=>(List.mem_append.mp hu).elim (h.v u) fun z=>by rw[List.mem_singleton.mp z];exact hv
  obtain⟨a1,_,_⟩:=iJ hr (by simp) hv' (by omega:n'<=20);refine⟨hg,hv',by have:=a1.up hn';simpa using this,?_,fun d hd=>?_,by simp;omega⟩
  .have:=h.rd
   cases b <;> simp[cN] <;> omega
  .rcases List.mem_append.mp hd with z|z
   .exact h.rv d z
   .cases b with
    |true=>simp[cN] at z
    |false=>simp[cN] at z;exact⟨x,v,z,hx,hv⟩
def pN(G:Dc)(S:PyData):Prop:=eP S=none\/∃b x r,S=asT b x r/\av G x=none
theorem eZ{p:Bool}{g n:Nat}{S:PyData}(h:StepOk p g n S):(∃v,S=mdT v/\VV v)\/(∃x,S=flT x/\isName (.str x)=true)\/∃b x r,S=asT b x r/\isName (.str x)=true:=by
 cases h with
 |md hv=>exact .inl ⟨_,rfl,hv⟩
 |fl hx=>exact .inr (.inl ⟨_,rfl,hx⟩)
 |ask _ hx _ _ _=>exact .inr (.inr ⟨_,_,_,rfl,hx⟩)
theorem gS{p:Bool}{n:Nat}{G:Dc}(hG:GV G)(hn:n<=20)(Q:St3->St3->Prop)(h0:∀s,OkS p n s->pN G s.S->Q s s)(h1:∀s b x r v,OkS p n s->s.S=asT b x r->av G x=some v->s.gs.length<2->OkS p n ⟨s.gs++[v],s.rd++cN b x v,stp r (s.gs++[v])⟩ ->
  Q ⟨s.gs++[v],s.rd++cN b x v,stp r (s.gs++[v])⟩ (run G ⟨s.gs++[v],s.rd++cN b x v,stp r (s.gs++[v])⟩)->Q s (run G s)):∀(f:Nat) (s:St3),OkS p n s->2-s.gs.length=f->Q s (run G s)
 |f,s,h,hf=>by
  rcases eZ h.st with⟨v,e,_⟩|⟨x,e,_⟩|⟨b,x,r,e,_⟩
  .rw[kX (by rw[e];simp)]
   exact h0 s h (.inl (by rw[e];simp))
  .rw[kX (by rw[e];simp)]
   exact h0 s h (.inl (by rw[e];simp))
  .cases hk:av G x with
   |none=>
    rw[nz e hk];exact h0 s h (.inr ⟨b,x,r,e,hk⟩)
   |some v=>
    obtain⟨hl,h'⟩:=h.next e hn (hG x v hk);exact h1 s b x r v h e hk hl h' (gS hG hn Q h0 h1 (f-1) _ h' (by simp;omega))
termination_by f=>f
decreasing_by omega
theorem iL{p:Bool}{n:Nat}{G:Dc}{s:St3}(hG:GV G)(hn:n<=20)(h:OkS p n s):OkS p n (run G s)/\pN G (run G s).S:=gS hG hn (fun _ s'=>OkS p n s'/\pN G s'.S) (fun s h e=>⟨h,e⟩) (fun s b x r v _ e hk hl _ q=>by rw[ff e hl hk];exact q) _ s h rfl
def cm(s:St3):PyData:=.tuple [.tuple s.gs,.tuple s.rd,s.S]
theorem Cq{p:Bool}{n:Nat}{s:St3}(h:OkS p n s):aW (cm s)=true:=by
 have h1:bh s.gs=true:=iw fun d hd=>iz (h.v d hd).val
 have h2:bh s.rd=true:=iw fun d hd=>by
  obtain⟨x,v,rfl,_,hv⟩:=h.rv d hd;simp[aW,bh,iz hv.val]
 simp[cm,aW,bh,h1,h2,zL h.st]
theorem nJ{gs rd:List PyData}{b:Bool}{x:Str}{r:PyData}(T:Tp):dI [.d (cm ⟨gs,rd,asT b x r⟩)] T=some (.str x,T):=by cases b <;> simp[dI,cm,asT,inD,inS,cK,eqF]
theorem AR{gs rd:List PyData}{v:PyData}(T:Tp):dI [.d (cm ⟨gs,rd,mdT v⟩)] T=some (.none,T):=by simp[dI,cm,mdT,inD,inS,cK,eqF]
theorem AS{gs rd:List PyData}{x:Str}(T:Tp):dI [.d (cm ⟨gs,rd,flT x⟩)] T=some (.none,T):=by simp[dI,cm,flT,inD,inS,cK,eqF]
theorem Ci{p:Bool}{n:Nat}{s:St3}{b:Bool}{x:Str}{r v:PyData}(T:Tp)(h:OkS p n s)(e:s.S=asT b x r)(hn:n<=20)(hv:VV v) :
  iE [.d (cm s),.d v] T=some (cm ⟨s.gs++[v],s.rd++cN b x v,stp r (s.gs++[v])⟩,T):=by
 have st:=h.st;rw[e] at st;generalize hS:asT b x r=S at st
 cases st with
 |md _=>cases b <;> simp[asT,mdT] at hS
 |fl _=>cases b <;> simp[asT,flT] at hS
 |@ask b' x' r' n' hp hx hg hn' hr=>
  obtain⟨rfl,rfl,rfl⟩:b=b'/\x=x'/\r=r':=by
   cases b <;> cases b' <;> simp[asT] at hS <;> simp[hS]
  have hv':∀u∈s.gs++[v],VV u:=fun u hu=>(List.mem_append.mp hu).elim (h.v u) fun z=>by rw[List.mem_singleton.mp z];exact hv
  obtain⟨_,a2,_⟩:=iJ hr (by simp) hv' (by omega:n'<=20);have st:=a2 25 T (by omega);have l1:s.gs.length+1<=sizeLine:=cS (by omega);have l2:s.rd.length+1<=sizeLine:=cS (by have:=h.rd;omega);obtain⟨gs,rd,S0⟩:=s;subst e
  cases b with
  |true=>simp[iE,cm,asT,l1,st,cN]
  |false=>simp[iE,cm,asT,l1,l2,st,cN]
def goC:FT:=(aC (ag inA (ar dI (ae (aa 0) ah)) (aa 1)))
def goB:FS:=(aE 0 (ar iE (ae (aa 0) (ae (ag ixA (aa 1) (ar dI (ae (aa 0) ah))) ah))))
theorem BN:jo=aL 2 (ak (bR goC goB 100000) (ay (aa 0))):=rfl
theorem zr{p:Bool}{n:Nat}{G:Dc}(hG:GV G)(hn:n<=20)(T:Tp)(s:St3)(h:OkS p n s):∀m,2-s.gs.length<m->bR goC goB m [some (.d (cm s)),some (.d (.dict G))] T=some ((.nx,[some (.d (cm (run G s))),some (.d (.dict G))]),T):=by
 refine gS hG hn (fun s s'=>∀m,2-s.gs.length<m->bR goC goB m [some (.d (cm s)),some (.d (.dict G))] T=some ((.nx,[some (.d (cm s')),some (.d (.dict G))]),T)) (fun s h e m hm=>?_) (fun s b x r v h e hk hl h' q m hm=>?_) _ s h rfl
 .obtain⟨m,rfl⟩:=aX m (by omega)
  refine kU ?_;obtain⟨gs,rd,S⟩:=s
  rcases eZ h.st with⟨v,e1,_⟩|⟨x,e1,_⟩|⟨b,x,r,e1,_⟩
  .have e1:S=mdT v:=e1
   subst e1;simp[goC,AR,inA,inB,inK]
  .have e1:S=flT x:=e1
   subst e1;simp[goC,AS,inA,inB,inK]
  .have e1:S=asT b x r:=e1
   subst e1
   rcases e with e|⟨b',x',r',e2,hk⟩
   .simp at e
   .have:x=x':=by
     have e2:asT b x r=asT b' x' r':=e2
     cases b <;> cases b' <;> simp[asT] at e2 <;> simp[e2]
    subst this;simp[goC,nJ,inA,inB,inK,hk]
 .obtain⟨m,rfl⟩:=aX m (by omega)
  have gv:=Ci T h e hn (hG x v hk);rw[ff e hl hk]
  have hc:goC [some (.d (cm s)),some (.d (.dict G))] T=some (true,T):=by
   obtain⟨gs,rd,S⟩:=s;have e1:S=asT b x r:=e;subst e1;simp[goC,nJ,inA,inB,inK,hk]
  have hb:goB [some (.d (cm s)),some (.d (.dict G))] T=some ((.nx,[some (.d (cm ⟨s.gs++[v],s.rd++cN b x v,stp r (s.gs++[v])⟩)),some (.d (.dict G))]),T):=by
   have aw:dI [.d (cm s)] T=some (.str x,T):=by
    obtain⟨gs,rd,S⟩:=s;have e1:S=asT b x r:=e;subst e1;exact nJ T
   simp[goB,aw,ixA,hk,gv]
  rw[lj hc hb];exact q m (by simp;omega)
theorem DZ{p:Bool}{n:Nat}{G:Dc}{s:St3}(T:Tp)(hG:GV G)(hn:n<=20)(h:OkS p n s):jo [.d (cm s),.d (.dict G)] T=some (cm (run G s),T):=by
 rw[BN];have:=zr hG hn T s h 100000 (by omega);simp[this]
def s0(r:PyData):St3:=⟨[],[],stp r []⟩
theorem dE{p:Bool}{n:Nat}{r:PyData}(h:Rg p 0 n r)(hn:n<=20):OkS p n (s0 r):=by
 obtain⟨a1,_,_⟩:=iJ (gs:=[]) h rfl (by simp) hn;exact⟨by simp[s0],a1,by simp[s0],by simp[s0],by simp[s0]⟩
theorem Cc{p:Bool}{n:Nat}{r:PyData}(T:Tp)(h:Rg p 0 n r)(hn:n<=20):jl [.d r] T=some (cm (s0 r),T):=by
 obtain⟨_,a2,_⟩:=iJ (gs:=[]) h rfl (by simp) hn;simp[jl,a2 25 T (by omega),cm,s0]
def eU:PyData->PyData
 |.tuple [.str w,v]=>if w=Str.ofString "made" then .tuple [.str w,stS v] else .tuple [.str w,v]
 |.tuple [_,.str x,_]=>di "wants" (.str x)
 |_=>.none
@[simp] theorem t5{v:PyData}:eU (mdT v)=.tuple [.str "made",stS v]:=by simp[mdT,eU]
@[simp] theorem t7{x:Str}:eU (flT x)=flT x:=by simp[flT,eU]
@[simp] theorem ua{b:Bool}{x:Str}{r:PyData}:eU (asT b x r)=di "wants" (.str x):=rfl
def vMd:PyData->PyData
 |.tuple [.str w,v]=>if w=Str.ofString "made" then v else .none
 |_=>.none
@[simp] theorem IQ{v:PyData}:vMd (mdT v)=v:=by simp[mdT,vMd]
@[simp] theorem IR{x:Str}:vMd (flT x)=.none:=by simp[flT,vMd]
@[simp] theorem IS{b:Bool}{x:Str}{r:PyData}:vMd (asT b x r)=.none:=rfl
def cP(s:St3):PyData:=.tuple [.tuple (s.rd.map rdS),eU s.S,vMd s.S]
def AtL(p:Bool)(n:Nat)(s:St3)(r:PyData):Prop:=∃n',n'<=n/\Rg p s.gs.length n' r/\s.S=stp r s.gs
theorem Ap{p:Bool}{n:Nat}{G:Dc}(hG:GV G)(hn:n<=20)(T:Tp)(s:St3)(h:OkS p n s):∀r m o,AtL p n s r->(3-s.gs.length)*21<m->goL m r G s.gs s.rd o T=some (cP (run G s),T):=by
 refine gS hG hn (fun s s'=>∀r m o,AtL p n s r->(3-s.gs.length)*21<m->goL m r G s.gs s.rd o T=some (cP s',T)) (fun s h e r m o a hm=>?_) (fun s b x r0 v h e hk hl h' q r m o a hm=>?_) _ s h rfl
 .obtain⟨n',hn',hr,hs⟩:=a
  obtain⟨_,_,a3⟩:=iJ hr rfl h.v (by omega);obtain⟨c1,c2,c3⟩:=a3 G m s.rd o T (by have:=h.le;omega) (by have:=h.rd;have:=h.le;omega) hG;rw[←hs] at c1 c2 c3
  rcases eZ h.st with⟨v,e1,_⟩|⟨x,e1,_⟩|⟨b,x,r,e1,_⟩
  .rw[c1 v e1,cP,e1];simp
  .rw[c2 x e1,cP,e1];simp;rfl
  .rcases e with e|⟨b',x',r',e2,hk⟩
   .rw[e1] at e;simp at e
   .rw[(c3 b' x' r' e2).1 hk,cP,e2];simp
 .obtain⟨n',hn',hr,hs⟩:=a
  obtain⟨a1,_,a3⟩:=iJ hr rfl h.v (by omega);obtain⟨_,_,c3⟩:=a3 G m s.rd o T (by omega) (by have:=h.rd;omega) hG;rw[←hs] at c3 a1;obtain⟨m',o',l,go⟩:=(c3 b x r0 e).2 v hk;rw[go,ff e hl hk];rw[e] at a1;generalize hS:asT b x r0=S at a1
  cases a1 with
  |md _=>cases b <;> simp[asT,mdT] at hS
  |fl _=>cases b <;> simp[asT,flT] at hS
  |@ask b' x' r' n2 hp hx hg hn2 hr2=>
   obtain⟨rfl,rfl,rfl⟩:b=b'/\x=x'/\r0=r':=by
    cases b <;> cases b' <;> simp[asT] at hS <;> simp[hS]
   refine q r0 m' o' ⟨n2,by omega,by simpa using hr2,rfl⟩ ?_;simp;omega
theorem nK{p:Bool}{n:Nat}{G:Dc}{r:PyData}(T:Tp)(hG:GV G)(hn:n<=20)(h:Rg p 0 n r):gN [.d r,.d (.dict G)] T=some (cP (run G (s0 r)),T):=by
 have:=Ap hG hn T (s0 r) (dE h hn) r 100000 none ⟨n,Nat.le_refl _,h,rfl⟩ (by simp[s0]);rw[←this,za];simp[goL,ρL,s0]
theorem tm{v:PyData}:aW (stS v)=true:=by simp[stS,aW]
theorem rZ{p:Bool}{n:Nat}{s:St3}(h:OkS p n s):aW (cP s)=true:=by
 have h2:bh (s.rd.map rdS)=true:=iw fun d hd=>by
  obtain⟨e,he,rfl⟩:=List.mem_map.mp hd;obtain⟨x,v,rfl,_,hv⟩:=h.rv e he;simp[rdS,aW,bh,tm]
 rcases eZ h.st with⟨v,e,hv⟩|⟨y,e,_⟩|⟨b',y,r',e,_⟩
 .simp[cP,e,aW,bh,h2,tm,iz hv.val]
 .simp[cP,e,aW,bh,h2]
  simp[flT,aW,bh]
 .simp[cP,e,aW,bh,h2,di]
theorem zi{ds:Dc}{x y:Str}{v:PyData}:av (ds++[(.str x,v)]) y=match av ds y with
  |some u=>some u
  |none=>if x=y then some v else none:=by
 induction ds with
 |nil=>rfl
 |cons q r ih=>
  obtain⟨k,d⟩:=q
  cases k with
  |str k=>
   show (if k=y then some d else av (r++[(.str x,v)]) y)=_
   by_cases h:k=y
   .rw[if_pos h]
    have:av ((PyData.str k,d)::r) y=some d:=if_pos h;rw[this]
   .rw[if_neg h,ih]
    have:av ((PyData.str k,d)::r) y=av r y:=if_neg h;rw[this]
  |_=>exact ih
theorem zh{ds:Dc}{x y:Str}{v:PyData}:av (bD ds x v) y=if x=y then (av ds x).map (fun _=>v) else av ds y:=by
 induction ds with
 |nil=>by_cases h:x=y <;> simp[bD,av,h]
 |cons q r ih=>
  obtain⟨k,d⟩:=q
  cases k with
  |str k=>
   by_cases hk:k=x
   .subst hk
    have e1:bD ((PyData.str k,d)::r) k v=(.str k,v)::bD r k v:=if_pos rfl;rw[e1]
    by_cases h:k=y
    .subst h
     simp[av]
    .simp[av,h,ih]
   .have e1:bD ((PyData.str k,d)::r) x v=(.str k,d)::bD r x v:=if_neg hk
    rw[e1]
    by_cases h:x=y
    .subst h
     simp[av,hk,ih]
    .simp[av,h] at ih ⊢
     rw[ih]
  |_=>exact ih
theorem ym{ds:Dc}{x:Str}{v:PyData}:(bD ds x v).length=ds.length:=by
 induction ds with
 |nil=>rfl
 |cons q r ih=>
  obtain⟨k,d⟩:=q
  cases k with
  |str k=>
   by_cases hk:k=x
   .have e1:bD ((PyData.str k,d)::r) x v=(.str k,v)::bD r x v:=if_pos hk
    rw[e1,List.length_cons,List.length_cons,ih]
   .have e1:bD ((PyData.str k,d)::r) x v=(.str k,d)::bD r x v:=if_neg hk
    rw[e1,List.length_cons,List.length_cons,ih]
  |_=>exact congrArg (· + 1) ih
theorem km{ds:Dc}{x y:Str}{v:PyData}:av (putN ds x v) y=if x=y then some v else av ds y:=by
 unfold putN
 cases h:av ds x with
 |some u=>
  rw[if_pos (by rfl),zh,h];rfl
 |none=>
  rw[if_neg (by simp),zi]
  by_cases hx:x=y
  .subst hx;rw[h,if_pos rfl]
  .rw[if_neg hx,if_neg hx]
   cases av ds y <;> rfl
def Sub(G G':Dc):Prop:=∀x v,av G x=some v->av G' x=some v
theorem Sub.refl(G:Dc):Sub G G:=fun _ _ h=>h
theorem Sub.trans{A B C:Dc}(h:Sub A B)(g:Sub B C):Sub A C:=fun x v q=>g x v (h x v q)
theorem Sub.new{G:Dc}{x:Str}{v:PyData}(h:av G x=none):Sub G (putN G x v):=fun y u q=>by
 rw[km]
 by_cases e:x=y
 .subst e;rw[h] at q;cases q
 .rw[if_neg e];exact q
theorem sj{p:Bool}{n:Nat}{G G':Dc}{s:St3}(hs:Sub G G')(hG:GV G)(hn:n<=20)(h:OkS p n s):run G' (run G s)=run G' s:=
 gS hG hn (fun s s'=>run G' s'=run G' s) (fun _ _ _=>rfl) (fun s b x r v _ e hk hl _ q=>by
  rw[ff e hl hk,q,ff e hl (hs x v hk)]) _ s h rfl
theorem sk{G':Dc}{s:St3}{v:PyData}(h:s.S=mdT v):run G' s=s:=kX (by rw[h];simp)
theorem kz{p:Bool}{n:Nat}{G G':Dc}{s:St3}(hs:∀x,av G x=av G' x)(hG:GV G)(hn:n<=20)(h:OkS p n s):run G s=run G' s:=
 gS hG hn (fun s s'=>s'=run G' s) (fun s h e=>by
  rcases e with e|⟨b,x,r,e,hk⟩
  .exact(kX e).symm
  .rw[hs] at hk;exact(nz e hk).symm) (fun s b x r v _ e hk hl _ q=>by
  rw[ff e hl hk,q,←ff e hl (by rw[←hs];exact hk)]) _ s h rfl
structure Bk(p:Bool)(n:Nat)(D0 R0:Dc):Prop where
 dk:∀q∈D0,∃x v,q=(.str x,v)/\VV v
 rk:∀q∈R0,∃x r,q=(.str x,r)/\Rg p 0 n r/\av R0 x=some r/\av D0 x=none
 rnd:(R0.map (·.1)).Nodup
 len:D0.length+R0.length<=900
 n20:n<=20
inductive Der(D0 R0:Dc):Str->PyData->Prop where
 |told {x:Str}{v:PyData}:av D0 x=some v->Der D0 R0 x v
 |made {x:Str}{v r:PyData}{G:Dc}:av R0 x=some r->GV G->(∀y u,av G y=some u->Der D0 R0 y u)->(run G (s0 r)).S=mdT v->Der D0 R0 x v
theorem fT{ds:Dc}{x:Str}{v:PyData}(h:av ds x=some v):(.str x,v)∈ds:=by
 induction ds with
 |nil=>cases h
 |cons q r ih=>
  obtain⟨k,d⟩:=q
  cases k with
  |str k=>
   by_cases hk:k=x
   .have e:av ((PyData.str k,d)::r) x=some d:=if_pos hk
    rw[e] at h;cases h;rw[hk];exact List.mem_cons_self
   .have e:av ((PyData.str k,d)::r) x=av r x:=if_neg hk
    rw[e] at h;exact List.mem_cons_of_mem _ (ih h)
  |_=>exact List.mem_cons_of_mem _ (ih h)
section
variable {p:Bool}{n:Nat}{D0 R0:Dc}
theorem Bk.rg(b:Bk p n D0 R0){x:Str}{r:PyData}(h:av R0 x=some r):Rg p 0 n r/\av D0 x=none:=by
 obtain⟨x',r',e,h1,h2,h3⟩:=b.rk _ (fT h);cases e;exact⟨h1,h3⟩
theorem Bk.gv(b:Bk p n D0 R0):GV D0:=fun x v h=>by
 obtain⟨x',v',e,h1⟩:=b.dk _ (fT h);cases e;exact h1
theorem Der.val(b:Bk p n D0 R0){x:Str}{v:PyData}(h:Der D0 R0 x v):VV v:=by
 cases h with
 |told h=>exact b.gv _ _ h
 |made hr hG _ e=>
  obtain⟨h1,_⟩:=iL hG b.n20 (dE (b.rg hr).1 b.n20)
  rcases eZ h1.st with⟨v',e1,hv⟩|⟨x,e1,_⟩|⟨b,x,r,e1,_⟩
  .rw[e1] at e
   have:v'=v:=by simpa[mdT] using e
   rw[←this];exact hv
  .rw[e1] at e;exact absurd e.symm fA
  .rw[e1] at e;cases b <;> simp[asT,mdT] at e
def Snd(D0 R0 G:Dc):Prop:=∀x v,av G x=some v->Der D0 R0 x v
def ClsAt(R0 G:Dc)(x:Str):Prop:=∀r v,av R0 x=some r->(run G (s0 r)).S=mdT v->av G x=some v
theorem Snd.gv(b:Bk p n D0 R0){G:Dc}(h:Snd D0 R0 G):GV G:=fun x v q=>(h x v q).val b
theorem vk(b:Bk p n D0 R0){G:Dc}(hd:Sub D0 G)(hs:Snd D0 R0 G)(hc:∀x,ClsAt R0 G x){x:Str}{v:PyData}(h:Der D0 R0 x v):av G x=some v:=by
 induction h with
 |told h=>exact hd _ _ h
 |made hr hG hall e ih=>
  rename_i x v r G1;refine hc x r v hr ?_;have hsub:Sub G1 G:=fun y u q=>ih y u q;have h1:=sj hsub hG b.n20 (dE (b.rg hr).1 b.n20);rw[sk e] at h1;rw[←h1];exact e
theorem zq(b:Bk p n D0 R0){G G':Dc}(hd:Sub D0 G)(hs:Snd D0 R0 G)(hc:∀x,ClsAt R0 G x)(hd':Sub D0 G')(hs':Snd D0 R0 G')(hc':∀x,ClsAt R0 G' x)(x:Str):av G x=av G' x:=by
 cases h:av G x with
 |some v=>exact(vk b hd' hs' hc' (hs x v h)).symm
 |none=>
  cases h':av G' x with
  |none=>rfl
  |some v=>rw[vk b hd hs hc (hs' x v h')] at h;cases h
def mu(R0 G:Dc):Nat:=R0.countP fun q=>match q.1 with
 |.str x=>(av G x).isNone
 |_=>false
theorem countP_le{α:Type}{f g:α->Bool}:∀{l:List α},(∀a∈l,g a=true->f a=true)->l.countP g<=l.countP f
 |[],_=>Nat.le_refl _
 |a::r,h=>by
  have ih:=countP_le (l:=r) fun x hx=>h x (List.mem_cons_of_mem _ hx);rw[List.countP_cons,List.countP_cons];have h1:=h a List.mem_cons_self
  cases hg:g a with
  |true=>rw[h1 hg];simp;exact ih
  |false=>simp;omega
theorem rM{α:Type}{f g:α->Bool}{a:α}:∀{l:List α},(∀a∈l,g a=true->f a=true)->a∈l->f a=true->g a=false->l.countP g<l.countP f
 |[],_,h,_,_=>by cases h
 |b::r,h,hm,hf,hg=>by
  have hr:∀x∈r,g x=true->f x=true:=fun x hx=>h x (List.mem_cons_of_mem _ hx);rw[List.countP_cons,List.countP_cons]
  rcases List.mem_cons.mp hm with e|e
  .subst e
   have:=countP_le hr;rw[hf,hg];simp;omega
  .have ih:=rM hr e hf hg
   have h1:=h b List.mem_cons_self
   cases hb:g b with
   |true=>rw[h1 hb];simp;exact ih
   |false=>simp;omega
theorem pC{G G':Dc}(h:Sub G G'):mu R0 G'<=mu R0 G:=countP_le fun q _ hq=>by
 split at hq
 .rename_i x e
  cases hk:av G x with
  |none=>rfl
  |some v=>rw[h x v hk] at hq;cases hq
 .cases hq
theorem vT{G:Dc}{x:Str}{r v:PyData}(hr:av R0 x=some r)(h:av G x=none):mu R0 (putN G x v)+1<=mu R0 G:=by
 have hs:=Sub.new (v:=v) h;refine rM (a:=(.str x,r)) (fun q _ hq=>?_) (fT hr) (by simp[h]) (by simp[km]);split at hq
 .rename_i x e
  cases hk:av G x with
  |none=>rfl
  |some v=>rw[hs x v hk] at hq;cases hq
 .cases hq
theorem sx{G:Dc}{x:Str}{v:PyData}(h:av G x=none):(putN G x v).length=G.length+1:=by
 unfold putN;rw[h,if_neg (by simp)];simp
end
theorem cU{i:Nat}{b:FS}{d:PyData}{r:List PyData}{ρ ρ':Rho}{T:Tp}(h:b (ρ.set i (some (.d d))) T=some ((.nx,ρ'),T)):forL i b (d::r) ρ T=forL i b r ρ' T:=by
 rw[rJ,h];rfl
@[simp] theorem Hw{i:Nat}{fk fv:FE}{ρ:Rho}{T:Tp}:bG i fk fv ρ T=bnd (fv ρ T) fun w T1=>lU i fk ρ w T1 ρ[i]?:=rfl
@[simp] theorem Gx{i:Nat}{fk:FE}{ρ:Rho}{w:D.W}{T:Tp}{ds:Dc}:lU i fk ρ w T (some (some (.loc (.dict ds))))=bnd (fk ρ T) (lV i ρ ds w):=rfl
@[simp] theorem Gy{i:Nat}{ρ:Rho}{T:Tp}{ds:Dc}{x:PyData}{s:Str}:lV i ρ ds (.d x) (.d (.str s)) T=if ds.length<=1000 then some ((.nx,ρ.set i (some (.loc (.dict (putN ds s x))))),T) else none:=rfl
@[simp] theorem Gw{i:Nat}{f:FE}{ρ:Rho}{T:Tp}:gh i f ρ T=bnd (f ρ T) fun w T1=>lz i ρ (i8 (view T1 w)) T1:=rfl
@[simp] theorem Ip{ds:Dc}:i8 (some (.dict ds))=some ds:=rfl
@[simp] theorem F8{i:Nat}{ρ:Rho}{ds:Dc}{T:Tp}:lz i ρ (some ds) T=some ((.nx,ρ.set i (some (.loc (.dict ds)))),T):=rfl
@[simp] theorem Hj{i:Nat}{ρ:Rho}{T:Tp}:cA i ρ T=some ((.nx,ρ.set i (some (.loc (.dict [])))),T):=rfl
@[simp] theorem F9{s:Str}{ds:Dc}:dP (.str s) (.dict ds)=some (.bool (!(av ds s).isSome)):=rfl
@[simp] theorem Ib{s:Str}{ds:Dc}:inA (.str s) (.dict ds)=some (.bool (av ds s).isSome):=rfl
@[simp] theorem HX{s:Str}{ds:Dc}:ixA (.dict ds) (.str s)=av ds s:=rfl
@[simp] theorem GA{o:PyData->PyData->Option PyData}{T:Tp}{x:PyData}{ds:Dc}:op2 o T (.d x) (.loc (.dict ds))=mkD T (o x (.dict ds)):=rfl
@[simp] theorem Gz{o:PyData->PyData->Option PyData}{T:Tp}{y:PyData}{ds:Dc}:op2 o T (.loc (.dict ds)) (.d y)=mkD T (o (.dict ds) y):=rfl
@[simp] theorem GB{o:PyData->Option PyData}{T:Tp}{ds:Dc}:op1 o T (.loc (.dict ds))=mkD T (o (.dict ds)):=rfl
@[simp] theorem ev_viewLD{T:Tp}{ds:Dc}:view T (.loc (.dict ds))=some (.dict ds):=rfl
@[simp] theorem F2{T:Tp}{ds:Dc}{r:List D.W}:views T (.loc (.dict ds)::r)=j6 (.dict ds) (views T r):=rfl
def bkD(D0 R0:Dc):PyData:=.tuple [.dict D0,.dict R0]
def ρG(D0 R0 G:Dc)(m:Int)(on o4:Option D.W):Rho:=[some (.d (bkD D0 R0)),some (.loc (.dict G)),some (.d (.int m)),on,o4]
section
variable {p:Bool}{n:Nat}{D0 R0:Dc}
def j8(R0:Dc)(k:PyData):Prop:=∃x r,k=.str x/\av R0 x=some r
theorem Snd.put(B:Bk p n D0 R0){G:Dc}{x:Str}{r v:PyData}(hs:Snd D0 R0 G)(hr:av R0 x=some r)(e:(run G (s0 r)).S=mdT v):Snd D0 R0 (putN G x v):=fun y u q=>by
 rw[km] at q
 by_cases h:x=y
 .subst h
  rw[if_pos rfl] at q;cases q;exact .made hr (hs.gv B) hs e
 .rw[if_neg h] at q
  exact hs y u q
theorem AH(B:Bk p n D0 R0){x:Str}{v:PyData}(h:Der D0 R0 x v):∀u,Der D0 R0 x u->v=u:=by
 induction h with
 |told h=>
  intro u hu
  cases hu with
  |told h'=>rw[h] at h';cases h';rfl
  |made hr _ _ _=>rw[(B.rg hr).2] at h;cases h
 |made hr hG hall e ih=>
  rename_i x v r G1;intro u hu
  cases hu with
  |told h'=>rw[(B.rg hr).2] at h';cases h'
  |made hr' hG' hall' e'=>
   rename_i r' G2;rw[hr] at hr';cases hr'
   have key:∀(s:St3),OkS p n s->∀v u,(run G1 s).S=mdT v->(run G2 s).S=mdT u->v=u:=fun s hs=>by
    refine gS hG B.n20 (fun s s'=>∀v u,s'.S=mdT v->(run G2 s).S=mdT u->v=u) (fun s h st v u e1 e2=>?_) (fun s b x r w h e hk hl h' q v u e1 e2=>?_) _ s hs rfl
    .rw[sk e1,e1] at e2
     simpa[mdT] using e2
    .rw[ff e hl hk] at e1
     cases hk2:av G2 x with
     |none=>rw[nz e hk2,e] at e2;cases b <;> simp[asT,mdT] at e2
     |some w'=>
      have:w=w':=ih x w hk w' (hall' x w' hk2);subst this;rw[ff e hl hk2] at e2;exact q v u e1 e2
   exact key _ (dE (B.rg hr).1 B.n20) v u e e'
theorem qH(B:Bk p n D0 R0){G:Dc}{x:Str}{r v u:PyData}(hs:Snd D0 R0 G)(hr:av R0 x=some r)(h:av G x=some v)(e:(run G (s0 r)).S=mdT u):v=u:=AH B (hs x v h) u (.made hr (hs.gv B) hs e)
theorem EJ(B:Bk p n D0 R0){G:Dc}{m:Int}{x:Str}{r:PyData}{o4:Option D.W}{T:Tp}{v:PyData}(hs:Snd D0 R0 G)(hr:av R0 x=some r)(h:av G x=some v):∃o,dN (ρG D0 R0 G m (some (.d (.str x))) o4) T=some ((.nx,ρG D0 R0 G m (some (.d (.str x))) o),T):=by
 have hG:=hs.gv B;have lr:=nK [] hG B.n20 (B.rg hr).1;obtain⟨ok,_⟩:=iL hG B.n20 (dE (B.rg hr).1 B.n20);have lk:=kM (T:=T) (T':=[]) (rZ ok);exact⟨some (.d (cP (run G (s0 r)))),by simp[dN,ρG,h,bkD,hr,lr,lk]⟩
theorem Dz(B:Bk p n D0 R0){G:Dc}{m:Int}{x:Str}{r:PyData}{o4:Option D.W}{T:Tp}(hs:Snd D0 R0 G)(hr:av R0 x=some r)(h:av G x=none)(hl:G.length<=1000) :
  ∃o,(∃v,(run G (s0 r)).S=mdT v/\dN (ρG D0 R0 G m (some (.d (.str x))) o4) T=some ((.nx,ρG D0 R0 (putN G x v) m (some (.d (.str x))) o),T)) \/
  ((∀v,(run G (s0 r)).S≠mdT v)/\dN (ρG D0 R0 G m (some (.d (.str x))) o4) T=some ((.nx,ρG D0 R0 G m (some (.d (.str x))) o),T)):=by
 have hG:=hs.gv B;have lr:=nK [] hG B.n20 (B.rg hr).1;obtain⟨ok,_⟩:=iL hG B.n20 (dE (B.rg hr).1 B.n20);have lk:=kM (T:=T) (T':=[]) (rZ ok);refine⟨some (.d (cP (run G (s0 r)))),?_⟩
 rcases eZ ok.st with⟨v,e,hv⟩|⟨y,e,_⟩|⟨b',y,r',e,_⟩
 .refine .inl ⟨v,e,?_⟩
  simp[dN,ρG,h,bkD,hr,lr,lk];simp[cP,e,hl]
 .refine .inr ⟨fun v q=>fA (q.symm.trans e),?_⟩
  simp[dN,ρG,h,bkD,hr,lr,lk];simp[cP,e];simp[flT]
 .refine .inr ⟨fun v q=>by rw[e] at q;cases b' <;> simp[asT,mdT] at q,?_⟩
  simp[dN,ρG,h,bkD,hr,lr,lk];simp[cP,e,di]
theorem lJ(B:Bk p n D0 R0){T:Tp}{m:Int}:∀(ks:List PyData) (G:Dc) (on o4:Option D.W),(∀k∈ks,j8 R0 k)->Snd D0 R0 G->G.length+mu R0 G<=900 ->
  ∃G' on' o4',forL 3 dN ks (ρG D0 R0 G m on o4) T=some ((.nx,ρG D0 R0 G' m on' o4'),T)/\Snd D0 R0 G'/\Sub G G'/\G'.length+mu R0 G'<=900/\((G'=G/\∀x,.str x∈ks->ClsAt R0 G x)\/(G.length<G'.length/\mu R0 G' < mu R0 G))
 |[],G,on,o4,_,hs,hl=>⟨G,on,o4,by simp[forL],hs,.refl G,hl,.inl ⟨rfl,fun x h=>by cases h⟩⟩
 |k::ks,G,on,o4,hk,hs,hl=>by
  obtain⟨x,r,rfl,hr⟩:=hk _ List.mem_cons_self;have hk':∀k∈ks,j8 R0 k:=fun k h=>hk k (List.mem_cons_of_mem _ h);have st:∀{ρ':Rho},dN (ρG D0 R0 G m (some (.d (.str x))) o4) T=some ((.nx,ρ'),T)->forL 3 dN (.str x::ks) (ρG D0 R0 G m on o4) T=forL 3 dN ks ρ' T:=fun h=>cU h
  cases h:av G x with
  |some v=>
   obtain⟨o,go⟩:=EJ B (m:=m) (o4:=o4) (T:=T) hs hr h;rw[st go];obtain⟨G',on',o4',e1,e2,e3,e4,e5⟩:=lJ B ks G (some (.d (.str x))) o hk' hs hl;refine⟨G',on',o4',e1,e2,e3,e4,e5.imp (fun⟨q2,q3⟩=>⟨q2,fun y hy=>?_⟩) id⟩
   rcases List.mem_cons.mp hy with z|z
   .cases z
    intro r' v' hr' e;have:=qH B hs hr' h e;rw[h,this]
   .exact q3 y z
  |none=>
   obtain⟨o,⟨v,e,go⟩|⟨ne,go⟩⟩:=Dz B (m:=m) (o4:=o4) (T:=T) hs hr h (by omega)
   .rw[st go]
    have m1:=vT (v:=v) hr h;have l1:=sx (v:=v) h;obtain⟨G',on',o4',e1,e2,e3,e4,e5⟩:=lJ B ks (putN G x v) (some (.d (.str x))) o hk' (hs.put B hr e) (by omega);refine⟨G',on',o4',e1,e2,(Sub.new h).trans e3,e4,.inr ?_⟩
    rcases e5 with⟨rfl,_⟩|⟨q1,q2⟩
    .exact⟨by omega,by omega⟩
    .exact⟨by omega,by omega⟩
   .rw[st go]
    obtain⟨G',on',o4',e1,e2,e3,e4,e5⟩:=lJ B ks G (some (.d (.str x))) o hk' hs hl;refine⟨G',on',o4',e1,e2,e3,e4,e5.imp (fun⟨q2,q3⟩=>⟨q2,fun y hy=>?_⟩) id⟩
    rcases List.mem_cons.mp hy with z|z
    .cases z
     intro r' v' hr' e;rw[hr] at hr';cases hr';exact absurd e (ne v')
    .exact q3 y z
theorem tT(B:Bk p n D0 R0):∀k∈R0.map (·.1),j8 R0 k:=fun k hk=>by
 obtain⟨q,hq,rfl⟩:=List.mem_map.mp hk;obtain⟨x,r,rfl,_,h,_⟩:=B.rk q hq;exact⟨x,r,rfl,h⟩
theorem oO{x:Str}{r:PyData}(h:av R0 x=some r):PyData.str x∈R0.map (·.1):=List.mem_map.mpr ⟨_,fT h,rfl⟩
theorem uQ(G:Dc):mu R0 G<=R0.length:=List.countP_le_length
def gdC:FT:=(aC (ag ltD (aa 2) (fCB aY (ae (aa 1) ah))))
@[simp] theorem GE{ds:Dc}:aY [.dict ds]=some (.int ds.length):=rfl
theorem sL(B:Bk p n D0 R0){T:Tp}:∀(f:Nat) (G:Dc) (m:Int) (on o4:Option D.W),m<G.length->mu R0 G+1<f->Snd D0 R0 G->G.length+mu R0 G<=900 ->
  ∃G' m' on' o4',bR gdC kI f (ρG D0 R0 G m on o4) T=some ((.nx,ρG D0 R0 G' m' on' o4'),T)/\Snd D0 R0 G'/\Sub G G'/\∀x,ClsAt R0 G' x
 |0,G,m,on,o4,_,h,_,_=>by omega
 |f+1,G,m,on,o4,hm,h,hs,hl=>by
  obtain⟨G',on',o4',e1,e2,e3,e4,e5⟩:=lJ B (T:=T) (m:=G.length) (R0.map (·.1)) G on o4 (tT B) hs hl
  have hc:∀(G:Dc) (m:Int) on o4,gdC (ρG D0 R0 G m on o4) T=some (decide (m<G.length),T):=fun G m on o4=>by simp[gdC,ρG]
  have hb:kI (ρG D0 R0 G m on o4) T=some ((.nx,ρG D0 R0 G' G.length on' o4'),T):=by
   simp[ρG] at e1;simp[kI,ρG,bkD] at e1 ⊢;exact e1
  rw[lj ((hc _ _ _ _).trans (by rw[decide_eq_true hm])) hb]
  rcases e5 with⟨rfl,q3⟩|⟨q1,q2⟩
  .obtain⟨f,rfl⟩:=aX f (by omega)
   rw[kU ((hc _ _ _ _).trans (by rw[decide_eq_false (by omega)]))];exact⟨G',_,on',o4',rfl,e2,e3,fun x r v hr e=>q3 x (oO hr) r v hr e⟩
  .obtain⟨G2,m2,on2,o42,f1,f2,f3,f4⟩:=sL B f G' G.length on' o4' (by omega) (by omega) e2 e4
   exact⟨G2,m2,on2,o42,f1,f2,e3.trans f3,f4⟩
theorem wI(B:Bk p n D0 R0):Snd D0 R0 D0:=fun _ _ h=>.told h
theorem Cg(B:Bk p n D0 R0)(T:Tp):∃G,ji [.d (bkD D0 R0)] T=some (.dict G,T)/\Snd D0 R0 G/\Sub D0 G/\∀x,ClsAt R0 G x:=by
 have hl:=B.len;have hm:=uQ (R0:=R0) D0;obtain⟨G,m,on,o4,e1,e2,e3,e4⟩:=sL B (T:=T) 100000 D0 (-1) none none (by omega) (by omega) (wI B) (by omega);refine⟨G,?_,e2,e3,e4⟩;rw[zc];simp[ρG,gdC] at e1;simp[bkD] at e1 ⊢;rw[e1];simp
end
def mdS:FS:=(bG 2 (aa 3) (ar jl (ae (aa 4) ah)))
def mdI:FS:=(ak (bG 2 (aa 3) (fG (ar jo (ae (ag ixA (aa 2) (aa 3)) (ae (aa 1) ah))))) (fIf (aC (ag eqD (ag ixD (ag ixD (ag ixA (aa 2) (aa 3)) (fC (.int 2))) (fC (.int 0))) (fC (.str "made")))) (bG 1 (aa 3) (ag ixD (ag ixD (ag ixA (aa 2) (aa 3)) (fC (.int 2))) (fC (.int 1)))) aD))
def mdB:FS:=(ak (aE 6 (fCB aY (ae (aa 1) ah))) (ak (bc 3 (aZ (ag ixD (aa 0) (fC (.int 1)))) mdI) (aE 5 (ag gtD (fCB aY (ae (aa 1) ah)) (aa 6)))))
theorem BC:ke=aL 7 (ak (gh 1 (ag ixD (aa 0) (fC (.int 0)))) (ak (cA 2) (ak (mi 3 4 (ag ixD (aa 0) (fC (.int 1))) mdS) (ak (aE 5 (fC (.bool true))) (ak (bR (aS (aa 5)) mdB 100000) (ay (ao .tuple (ae (aa 1) (ae (aa 2) ah))))))))):=rfl
def nm:PyData->Str
 |.str x=>x
 |_=>Str.ofString ""
def cmL(R0:Dc)(st:Str->St3):Dc:=R0.map fun q=>(q.1,cm (st (nm q.1)))
def ck(st:Str->St3)(x:Str)(s:St3):Str->St3:=fun y=>if y=x then s else st y
section
variable {p:Bool}{n:Nat}{D0 R0:Dc}
theorem lP{st:Str->St3}{x:Str}:av (cmL R0 st) x=(av R0 x).map fun _=>cm (st x):=by
 induction R0 with
 |nil=>rfl
 |cons q r ih=>
  obtain⟨k,d⟩:=q
  cases k with
  |str k=>
   by_cases hk:k=x
   .subst hk
    simp[cmL,av,nm]
   .have:=ih
    simp[cmL] at this;simp[cmL,av,hk,this]
  |_=>exact ih
theorem B5{st:Str->St3}:(cmL R0 st).length=R0.length:=by simp[cmL]
theorem B4{st:Str->St3}{x:Str}{s:St3}(hk:∀q∈R0,∃y r,q=(PyData.str y,r)):bD (cmL R0 st) x (cm s)=cmL R0 (ck st x s):=by
 induction R0 with
 |nil=>rfl
 |cons q r ih=>
  obtain⟨y,d,rfl⟩:=hk q List.mem_cons_self;have ih':=ih fun q hq=>hk q (List.mem_cons_of_mem _ hq);have e:cmL ((PyData.str y,d)::r) st=(.str y,cm (st y))::cmL r st:=rfl;have e2:cmL ((PyData.str y,d)::r) (ck st x s)=(.str y,cm (ck st x s y))::cmL r (ck st x s):=rfl;rw[e,e2,←ih']
  by_cases h:y=x
  .have e3:bD ((PyData.str y,cm (st y))::cmL r st) x (cm s)=(.str y,cm s)::bD (cmL r st) x (cm s):=if_pos h
   rw[e3];simp[ck,h]
  .have e3:bD ((PyData.str y,cm (st y))::cmL r st) x (cm s)=(.str y,cm (st y))::bD (cmL r st) x (cm s):=if_neg h
   rw[e3];simp[ck,h]
theorem AL(B:Bk p n D0 R0){st:Str->St3}{x:Str}{r:PyData}{s:St3}(h:av R0 x=some r):putN (cmL R0 st) x (cm s)=cmL R0 (ck st x s):=by
 unfold putN;rw[lP,h,if_pos (by rfl)]
 exact B4 fun q hq=>by
  obtain⟨y,r,e,_⟩:=B.rk q hq;exact⟨y,r,e⟩
def ρM(D0 R0 G:Dc)(st:Str->St3)(on o4 o5 o6:Option D.W):Rho:=[some (.d (bkD D0 R0)),some (.loc (.dict G)),some (.loc (.dict (cmL R0 st))),on,o4,o5,o6]
def SI(R0 G:Dc)(st:Str->St3):Prop:=∀x r,av R0 x=some r->∃G1,Sub G1 G/\GV G1/\st x=run G1 (s0 r)
theorem SI.sub{G G':Dc}{st:Str->St3}(h:SI R0 G st)(hs:Sub G G'):SI R0 G' st:=fun x r hr=>by
 obtain⟨G1,h1,h2,h3⟩:=h x r hr;exact⟨G1,h1.trans hs,h2,h3⟩
theorem SI.go(B:Bk p n D0 R0){G:Dc}{st:Str->St3}(h:SI R0 G st){x:Str}{r:PyData}(hr:av R0 x=some r):OkS p n (st x)/\run G (st x)=run G (s0 r):=by
 obtain⟨G1,h1,h2,h3⟩:=h x r hr;have ok:=dE (B.rg hr).1 B.n20;rw[h3];exact⟨(iL h2 B.n20 ok).1,sj h1 h2 B.n20 ok⟩
theorem SI.upd(B:Bk p n D0 R0){G:Dc}{st:Str->St3}(h:SI R0 G st)(hG:GV G){x:Str}{r:PyData}(hr:av R0 x=some r):SI R0 G (ck st x (run G (s0 r))):=fun y r' hr'=>by
 by_cases e:y=x
 .subst e
  rw[hr] at hr';cases hr';exact⟨G,.refl G,hG,by simp[ck]⟩
 .obtain⟨G1,h1,h2,h3⟩:=h y r' hr'
  exact⟨G1,h1,h2,by simp[ck,e];exact h3⟩
theorem Dh(B:Bk p n D0 R0){G:Dc}{st:Str->St3}{x:Str}{r:PyData}{o4 o5 o6:Option D.W}{T:Tp}(hs:Snd D0 R0 G)(hi:SI R0 G st)(hr:av R0 x=some r)(hl:G.length<=1000) :
  (∃v,(run G (s0 r)).S=mdT v/\mdI (ρM D0 R0 G st (some (.d (.str x))) o4 o5 o6) T=some ((.nx,ρM D0 R0 (putN G x v) (ck st x (run G (s0 r))) (some (.d (.str x))) o4 o5 o6),T)) \/
  ((∀v,(run G (s0 r)).S≠mdT v)/\mdI (ρM D0 R0 G st (some (.d (.str x))) o4 o5 o6) T=some ((.nx,ρM D0 R0 G (ck st x (run G (s0 r))) (some (.d (.str x))) o4 o5 o6),T)):=by
 have hG:=hs.gv B;obtain⟨ok,er⟩:=hi.go B hr;obtain⟨ok2,_⟩:=iL hG B.n20 (dE (B.rg hr).1 B.n20);have lg:=DZ [] hG B.n20 ok;rw[er] at lg;have lk:=kM (T:=T) (T':=[]) (Cq ok2)
 have c1:av (cmL R0 st) x=some (cm (st x)):=by rw[lP,hr];rfl
 have c2:=AL B (st:=st) (s:=run G (s0 r)) hr
 have c3:av (cmL R0 (ck st x (run G (s0 r)))) x=some (cm (run G (s0 r))):=by rw[lP,hr];simp[ck]
 have l2:(cmL R0 st).length<=1000:=by rw[B5];have:=B.len;omega
 have e2:∀s:St3,ixD (cm s) (.int 2)=some s.S:=fun s=>rfl;generalize hs':run G (s0 r)=s' at *
 rcases eZ ok2.st with⟨v,e,hv⟩|⟨y,e,_⟩|⟨b',y,r',e,_⟩
 .refine .inl ⟨v,e,?_⟩
  simp[mdI,ρM,c1,lg,lk,c2,l2,c3,e2,e,mdT,hl]
 .refine .inr ⟨fun v q=>fA (q.symm.trans e),?_⟩
  simp[mdI,ρM,c1,lg,lk,c2,l2,c3,e2,e,flT]
 .refine .inr ⟨fun v q=>by rw[e] at q;cases b' <;> simp[asT,mdT] at q,?_⟩
  cases b' <;> simp[mdI,ρM,c1,lg,lk,c2,l2,c3,e2,e,asT]
theorem zV{G:Dc}{x:Str}{v:PyData}(h:av G x=some v):(∀y,av (putN G x v) y=av G y)/\(putN G x v).length=G.length:=by
 refine⟨fun y=>?_,?_⟩
 .rw[km]
  by_cases e:x=y
  .subst e;rw[if_pos rfl,h]
  .rw[if_neg e]
 .unfold putN
  rw[h,if_pos (by rfl),ym]
theorem Sub.of{G G':Dc}(h:∀y,av G' y=av G y):Sub G G':=fun x v q=>by rw[h];exact q
structure Rnd(D0 R0:Dc)(ks:List PyData)(G:Dc)(st:Str->St3)(G':Dc)(st':Str->St3):Prop where
 snd:Snd D0 R0 G'
 sub:Sub G G'
 si:SI R0 G' st'
 bd:G'.length+mu R0 G'<=900
 le:G.length<=G'.length
 lt:G.length<G'.length->mu R0 G' < mu R0 G
 same:G'.length=G.length->(∀y,av G' y=av G y)/\(∀x r,.str x∈ks->av R0 x=some r->st' x=run G (s0 r)/\ClsAt R0 G x)/\∀x,.str x∉ks->st' x=st x
theorem uR(B:Bk p n D0 R0){T:Tp}{o4 o5 o6:Option D.W}:∀(ks:List PyData) (G:Dc) (st:Str->St3) (on:Option D.W),(∀k∈ks,j8 R0 k)->Snd D0 R0 G->SI R0 G st->G.length+mu R0 G<=900 ->
  ∃G' st' on',forL 3 mdI ks (ρM D0 R0 G st on o4 o5 o6) T=some ((.nx,ρM D0 R0 G' st' on' o4 o5 o6),T)/\Rnd D0 R0 ks G st G' st'
 |[],G,st,on,_,hs,hi,hl=>⟨G,st,on,by simp[forL],hs,.refl G,hi,hl,Nat.le_refl _,fun h=>absurd h (Nat.lt_irrefl _),fun _=>⟨fun _=>rfl,fun x r h=>(by cases h),fun _ _=>rfl⟩⟩
 |k::ks,G,st,on,hk,hs,hi,hl=>by
  obtain⟨x,r,rfl,hr⟩:=hk _ List.mem_cons_self;have hk':∀k∈ks,j8 R0 k:=fun k h=>hk k (List.mem_cons_of_mem _ h);have hG:=hs.gv B;have st0:∀{ρ':Rho},mdI (ρM D0 R0 G st (some (.d (.str x))) o4 o5 o6) T=some ((.nx,ρ'),T)->forL 3 mdI (.str x::ks) (ρM D0 R0 G st on o4 o5 o6) T=forL 3 mdI ks ρ' T:=fun h=>cU h
  have fin:∀(G1:Dc),Snd D0 R0 G1->Sub G G1->G1.length+mu R0 G1<=900->G.length<=G1.length->(G.length<G1.length->mu R0 G1<mu R0 G)->(G1.length=G.length->(∀y,av G1 y=av G y)/\ClsAt R0 G x)->SI R0 G1 (ck st x (run G (s0 r))) ->
    ∃G' st' on',forL 3 mdI ks (ρM D0 R0 G1 (ck st x (run G (s0 r))) (some (.d (.str x))) o4 o5 o6) T=some ((.nx,ρM D0 R0 G' st' on' o4 o5 o6),T)/\Rnd D0 R0 (.str x::ks) G st G' st':=by
   intro G1 h1 h2 h3 h4 h5 h6 h7;obtain⟨G',st',on',e1,R⟩:=uR B (T:=T) (o4:=o4) (o5:=o5) (o6:=o6) ks G1 (ck st x (run G (s0 r))) (some (.d (.str x))) hk' h1 h7 h3;refine⟨G',st',on',e1,R.snd,h2.trans R.sub,R.si,R.bd,Nat.le_trans h4 R.le,fun h=>?_,fun h=>?_⟩
   .have m1:=pC (R0:=R0) R.sub
    have m2:=pC (R0:=R0) h2
    by_cases c:G.length<G1.length
    .have:=h5 c;omega
    .have:=R.lt (by omega);omega
   .have c1:G1.length=G.length:=by have:=R.le;omega
    obtain⟨q1,q2⟩:=h6 c1;obtain⟨r1,r2,r3⟩:=R.same (by omega);have same:∀r',av R0 x=some r'\/True->True:=fun _ _=>trivial;refine⟨fun y=>(r1 y).trans (q1 y),fun y r' hy hr'=>?_,fun y hy=>?_⟩
    .by_cases hy2:PyData.str y∈ks
     .obtain⟨a1,a2⟩:=r2 y r' hy2 hr'
      have cg:=kz q1 (h1.gv B) B.n20 (dE (B.rg hr').1 B.n20);refine⟨by rw[a1,cg],fun r2' v hr2 e=>?_⟩;rw[hr'] at hr2;cases hr2;rw[←q1];exact a2 r' v hr' (by rw[cg];exact e)
     .have hxy:y=x:=by
       rcases List.mem_cons.mp hy with z|z
       .cases z;rfl
       .exact absurd z hy2
      subst hxy;rw[hr] at hr';cases hr';exact⟨by rw[r3 y hy2];simp[ck],q2⟩
    .have n1:PyData.str y∉ks:=fun z=>hy (List.mem_cons_of_mem _ z)
     have n2:¬y=x:=fun z=>hy (by rw[z];exact List.mem_cons_self);rw[r3 y n1];simp[ck,n2]
  rcases Dh B (T:=T) (o4:=o4) (o5:=o5) (o6:=o6) hs hi hr (by omega) with⟨v,e,go⟩|⟨ne,go⟩
  .rw[st0 go]
   have sp:=hs.put B hr e
   cases h:av G x with
   |none=>
    have m1:=vT (v:=v) hr h;have l1:=sx (v:=v) h;have sb:=Sub.new (v:=v) h;exact fin (putN G x v) sp sb (by omega) (by omega) (fun _=>by omega) (fun c=>by omega) ((hi.upd B hG hr).sub sb)
   |some u=>
    have:=qH B hs hr h e;subst this;obtain⟨o1,o2⟩:=zV h;have sb:=Sub.of o1;have m1:=pC (R0:=R0) sb;refine fin (putN G x u) sp sb (by omega) (by omega) (fun c=>by omega) (fun _=>⟨o1,fun r' v' hr' e'=>?_⟩) ((hi.upd B hG hr).sub sb);rw[hr] at hr';cases hr';rw[e] at e'
    have:u=v':=by simpa[mdT] using e'
    rw[←this];exact h
  .rw[st0 go]
   exact fin G hs (.refl G) hl (Nat.le_refl _) (fun c=>absurd c (Nat.lt_irrefl _)) (fun _=>⟨fun _=>rfl,fun r' v' hr' e'=>by
    rw[hr] at hr';cases hr'
    exact absurd e' (ne v')⟩) (hi.upd B hG hr)
theorem sE(B:Bk p n D0 R0){T:Tp}:∀(m:Nat) (G:Dc) (st:Str->St3) (on o4 o6:Option D.W),mu R0 G+1<m->Snd D0 R0 G->SI R0 G st->G.length+mu R0 G<=900 ->
  ∃G' st' on' o5' o6',bR (aS (aa 5)) mdB m (ρM D0 R0 G st on o4 (some (.d (.bool true))) o6) T=some ((.nx,ρM D0 R0 G' st' on' o4 o5' o6'),T)/\Snd D0 R0 G'/\Sub G G'/\(∀x,ClsAt R0 G' x)/\∀x r,av R0 x=some r->st' x=run G' (s0 r)
 |0,G,st,on,o4,o6,h,_,_,_=>by omega
 |m+1,G,st,on,o4,o6,h,hs,hi,hl=>by
  obtain⟨G',st',on',e1,R⟩:=uR B (T:=T) (o4:=o4) (o5:=some (.d (.bool true))) (o6:=some (.d (.int G.length))) (R0.map (·.1)) G st on (tT B) hs hi hl
  have hc:∀b G st on o4 o6,aS (aa 5) (ρM D0 R0 G st on o4 (some (.d (.bool b))) o6) T=some (b,T):=fun b G st on o4 o6=>by simp[ρM]
  have hb:mdB (ρM D0 R0 G st on o4 (some (.d (.bool true))) o6) T=some ((.nx,ρM D0 R0 G' st' on' o4 (some (.d (.bool (decide (G.length<G'.length))))) (some (.d (.int G.length)))),T):=by
   simp only[ρM,bkD] at e1;simp[mdB,ρM,bkD,e1]
  rw[lj (hc _ _ _ _ _ _) hb]
  by_cases c:G.length<G'.length
  .rw[decide_eq_true c]
   have:=R.lt c;obtain⟨G2,st2,on2,o52,o62,f1,f2,f3,f4,f5⟩:=sE B (T:=T) m G' st' on' o4 (some (.d (.int G.length))) (by omega) R.snd R.si R.bd;exact⟨G2,st2,on2,o52,o62,f1,f2,R.sub.trans f3,f4,f5⟩
  .rw[decide_eq_false c]
   obtain⟨m,rfl⟩:=aX m (by omega);rw[kU (hc _ _ _ _ _ _)];obtain⟨q1,q2,_⟩:=R.same (by have:=R.le;omega);refine⟨G',st',on',_,_,rfl,R.snd,R.sub,fun x r v hr e=>?_,fun x r hr=>?_⟩
   .have cg:=kz q1 (R.snd.gv B) B.n20 (dE (B.rg hr).1 B.n20)
    rw[q1];exact(q2 x r (oO hr) hr).2 r v hr (by rw[←cg];exact e)
   .have cg:=kz q1 (R.snd.gv B) B.n20 (dE (B.rg hr).1 B.n20)
    rw[(q2 x r (oO hr) hr).1,cg]
theorem jv{ds:Dc}{x:Str}(h:PyData.str x∉ds.map (·.1)):av ds x=none:=by
 cases e:av ds x with
 |none=>rfl
 |some v=>exact absurd (List.mem_map.mpr ⟨_,fT e,rfl⟩) h
def eC(q:PyData×PyData):PyData×PyData:=(q.1,cm (s0 q.2))
def ρ0(D0 R0:Dc)(c:Dc)(on o4:Option D.W):Rho:=[some (.d (bkD D0 R0)),some (.loc (.dict D0)),some (.loc (.dict c)),on,o4,none,none]
theorem BP{i j:Nat}{b:FS}{d:PyData×PyData}{r:Dc}{ρ ρ':Rho}{T:Tp}(h:b ((ρ.set i (some (.d d.1))).set j (some (.d d.2))) T=some ((.nx,ρ'),T)):eT i j b (d::r) ρ T=eT i j b r ρ' T:=by
 show bnd (b ((ρ.set i (some (.d d.1))).set j (some (.d d.2))) T) _=_;rw[h];rfl
theorem tN(B:Bk p n D0 R0){T:Tp}:∀(rest P:Dc) (on o4:Option D.W),R0=P++rest->∃on' o4',eT 3 4 mdS rest (ρ0 D0 R0 (P.map eC) on o4) T=some ((.nx,ρ0 D0 R0 (R0.map eC) on' o4'),T)
 |[],P,on,o4,e=>⟨on,o4,by rw[e];simp[eT]⟩
 |q::rest,P,on,o4,e=>by
  have hq:q∈R0:=by rw[e];simp
  obtain⟨x,r,rfl,hr,hk,_⟩:=B.rk q hq;have ls:=Cc T hr B.n20
  have nk:av (P.map eC) x=none:=jv fun z=>by
   have nd:=B.rnd;rw[e,List.map_append,List.nodup_append] at nd;obtain⟨q,hq1,hq2⟩:=List.mem_map.mp z;obtain⟨q',hq3,rfl⟩:=List.mem_map.mp hq1;exact nd.2.2 q'.1 (List.mem_map.mpr ⟨q',hq3,rfl⟩) (.str x) (by simp) hq2
  have pn:putN (P.map eC) x (cm (s0 r))=(P++[(PyData.str x,r)]).map eC:=by
   unfold putN;rw[nk,if_neg (by simp)];simp[eC]
  have pl:(P.map eC).length<=1000:=by
   have:=B.len
   have e2:R0.length=P.length+(rest.length+1):=by rw[e];simp
   simp;omega
  have st:mdS (((ρ0 D0 R0 (P.map eC) on o4).set 3 (some (.d (.str x)))).set 4 (some (.d r))) T=some ((.nx,ρ0 D0 R0 ((P++[(PyData.str x,r)]).map eC) (some (.d (.str x))) (some (.d r))),T):=by
   rw[←pn];simp at pl;simp[mdS,ρ0,ls,pl]
  rw[BP st];exact tN B rest (P++[(.str x,r)]) _ _ (by rw[e];simp)
def stI(R0:Dc)(x:Str):St3:=match av R0 x with
 |some r=>s0 r
 |none=>⟨[],[],.none⟩
theorem BJ(B:Bk p n D0 R0):R0.map eC=cmL R0 (stI R0):=by
 unfold cmL;refine List.map_congr_left fun q hq=>?_;obtain⟨x,r,rfl,_,hk,_⟩:=B.rk q hq;simp[eC,nm,stI,hk]
theorem A8(s:St3):run [] s=s:=by
 unfold run
 cases 2-s.gs.length with
 |zero=>rfl
 |succ f=>
  rw[ie]
  cases eP s.S with
  |none=>rfl
  |some q=>rfl
theorem A6:SI R0 D0 (stI R0):=fun x r hr=>⟨[],fun y v h=>(by cases h),fun y v h=>(by cases h),by simp[stI,hr,A8]⟩
theorem DV(B:Bk p n D0 R0)(T:Tp):∃G st,ke [.d (bkD D0 R0)] T=some (.tuple [.dict G,.dict (cmL R0 st)],T)/\Snd D0 R0 G/\Sub D0 G/\(∀x,ClsAt R0 G x)/\∀x r,av R0 x=some r->st x=run G (s0 r):=by
 have hl:=B.len;have hm:=uQ (R0:=R0) D0;obtain⟨on,o4,i1⟩:=tN B (T:=T) R0 [] none none rfl;obtain⟨G,st,on',o5,o6,e1,e2,e3,e4,e5⟩:=sE B (T:=T) 100000 D0 (stI R0) on o4 none (by omega) (wI B) A6 (by omega);refine⟨G,st,?_,e2,e3,e4,e5⟩;rw[BJ B] at i1;rw[BC];simp only[ρ0,bkD] at i1;simp only[ρM,bkD] at e1;have fi:∀ρ T,mi 3 4 (ag ixD (aa 0) (fC (.int 1))) mdS ρ T=bnd (ag ixD (aa 0) (fC (.int 1)) ρ T) (me 3 4 mdS ρ):=fun _ _=>rfl;have fk:∀ρ T,me 3 4 mdS ρ (.d (.dict R0)) T=eT 3 4 mdS R0 ρ T:=fun _ _=>rfl;simp[bkD,fi,fk];simp at i1;simp[i1,e1]
end
def lfI:FS:=(bG 1 (aa 2) (ar jf (ae (aa 2) (ae (ag ixA (aa 0) (aa 2)) ah))))
theorem EE:kg=aL 3 (ak (cA 1) (ak (bc 2 (aZ (aa 0)) lfI) (ay (aa 1)))):=rfl
def ln(x:Str)(s:St3):PyData:=.tuple [.str x,.tuple (s.rd.map rdS),eU s.S]
theorem Cj{p:Bool}{g n:Nat}{S:PyData}(T:Tp)(h:StepOk p g n S):iy [.d S] T=some (eU S,T):=by
 rcases eZ h with⟨v,rfl,hv⟩|⟨x,rfl,_⟩|⟨b,x,r,rfl,_⟩
 .rw[t5]
  simp[iy,mdT,oJ T hv]
 .rw[t7]
  simp[iy,flT]
 .rw[ua]
  cases b <;> simp[iy,asT,di]
theorem DX{p:Bool}{n:Nat}{s:St3}{x:Str}(T:Tp)(h:OkS p n s):jf [.d (.str x),.d (cm s)] T=some (ln x s,T):=by
 have c:bE bv (ao .tuple (ae (ag ixD (aa 0) (fC (.int 0))) (ae (ar (du 25) (ae (ag ixD (aa 0) (fC (.int 1))) ah)) ah))) [some (.d (.str x)),some (.d (cm s)),none] s.rd T=some (s.rd.map rdS,T):=d9 fun d hd=>by
  obtain⟨y,v,rfl,_,hv⟩:=h.rv d hd;simp[oJ T hv,rdS]
 have e:=Cj T h.st;have e1:ixD (cm s) (.int 1)=some (.tuple s.rd):=rfl;have e2:ixD (cm s) (.int 2)=some s.S:=rfl;simp[jf,e1,e2,c,e,ln,D.bz]
def lnL(R0:Dc)(st:Str->St3):Dc:=R0.map fun q=>(q.1,ln (nm q.1) (st (nm q.1)))
theorem iN{R0:Dc}{st:Str->St3}{x:Str}:av (lnL R0 st) x=(av R0 x).map fun _=>ln x (st x):=by
 induction R0 with
 |nil=>rfl
 |cons q r ih=>
  obtain⟨k,d⟩:=q
  cases k with
  |str k=>
   by_cases hk:k=x
   .subst hk
    simp[lnL,av,nm]
   .have:=ih
    simp[lnL] at this;simp[lnL,av,hk,this]
  |_=>exact ih
section
variable {p:Bool}{n:Nat}{D0 R0:Dc}
theorem uV(B:Bk p n D0 R0){st:Str->St3}(ok:∀x r,av R0 x=some r->OkS p n (st x)){T:Tp}:∀(rest P:Dc) (on:Option D.W),R0=P++rest->∃on',forL 2 lfI (rest.map (·.1)) [some (.d (.dict (cmL R0 st))),some (.loc (.dict (lnL P st))),on] T=some ((.nx,[some (.d (.dict (cmL R0 st))),some (.loc (.dict (lnL R0 st))),on']),T)
 |[],P,on,e=>⟨on,by rw[e];simp[forL]⟩
 |q::rest,P,on,e=>by
  have hq:q∈R0:=by rw[e];simp
  obtain⟨x,r,rfl,hr,hk,_⟩:=B.rk q hq
  have nk:av (lnL P st) x=none:=jv fun z=>by
   have nd:=B.rnd;rw[e,List.map_append,List.nodup_append] at nd;obtain⟨q,hq1,hq2⟩:=List.mem_map.mp z;obtain⟨q',hq3,rfl⟩:=List.mem_map.mp hq1;exact nd.2.2 q'.1 (List.mem_map.mpr ⟨q',hq3,rfl⟩) (.str x) (by simp) hq2
  have pn:putN (lnL P st) x (ln x (st x))=lnL (P++[(PyData.str x,r)]) st:=by
   unfold putN;rw[nk,if_neg (by simp)];simp[lnL,nm]
  have pl:(lnL P st).length<=1000:=by
   have:=B.len
   have e2:R0.length=P.length+(rest.length+1):=by rw[e];simp
   simp[lnL];omega
  have c1:av (cmL R0 st) x=some (cm (st x)):=by rw[lP,hk];rfl
  have ll:=DX (x:=x) T (ok x r hk)
  have st1:lfI (List.set [some (.d (.dict (cmL R0 st))),some (.loc (.dict (lnL P st))),on] 2 (some (.d (.str x)))) T=some ((.nx,[some (.d (.dict (cmL R0 st))),some (.loc (.dict (lnL (P++[(PyData.str x,r)]) st))),some (.d (.str x))]),T):=by
   rw[←pn];simp[lfI,c1,ll,pl]
  rw[List.map_cons,cU st1];exact uV B ok rest (P++[(.str x,r)]) _ (by rw[e];simp)
theorem Cf(B:Bk p n D0 R0){st:Str->St3}(ok:∀x r,av R0 x=some r->OkS p n (st x))(T:Tp):kg [.d (.dict (cmL R0 st))] T=some (.dict (lnL R0 st),T):=by
 obtain⟨on,e⟩:=uV B ok (T:=T) R0 [] none rfl
 have ek:(cmL R0 st).map (·.1)=R0.map (·.1):=by simp[cmL]
 rw[EE];have e0:lnL ([]:Dc) st=[]:=rfl;rw[e0] at e;simp[ek,e]
theorem FV{a b c:PyData}:bV [a,b,c] none (some 2)=[a,b]:=rfl
theorem uT(B:Bk p n D0 R0){G:Dc}{st:Str->St3}(hG:GV G)(hst:∀x r,av R0 x=some r->st x=run G (s0 r)){T:Tp}:∀(rest P:Dc) (on:Option D.W),R0=P++rest->∃on',forL 3 ko (rest.map (·.1)) [some (.d (bkD D0 R0)),some (.d (.dict G)),some (.loc (.dict (lnL P st))),on] T=some ((.nx,[some (.d (bkD D0 R0)),some (.d (.dict G)),some (.loc (.dict (lnL R0 st))),on']),T)
 |[],P,on,e=>⟨on,by rw[e];simp[forL]⟩
 |q::rest,P,on,e=>by
  have hq:q∈R0:=by rw[e];simp
  obtain⟨x,r,rfl,hr,hk,_⟩:=B.rk q hq
  have nk:av (lnL P st) x=none:=jv fun z=>by
   have nd:=B.rnd;rw[e,List.map_append,List.nodup_append] at nd;obtain⟨q,hq1,hq2⟩:=List.mem_map.mp z;obtain⟨q',hq3,rfl⟩:=List.mem_map.mp hq1;exact nd.2.2 q'.1 (List.mem_map.mpr ⟨q',hq3,rfl⟩) (.str x) (by simp) hq2
  have pn:putN (lnL P st) x (ln x (st x))=lnL (P++[(PyData.str x,r)]) st:=by
   unfold putN;rw[nk,if_neg (by simp)];simp[lnL,nm]
  have pl:(lnL P st).length<=1000:=by
   have:=B.len
   have e2:R0.length=P.length+(rest.length+1):=by rw[e];simp
   simp[lnL];omega
  have lr:=nK T hG B.n20 hr;rw[←hst x r hk] at lr
  have st1:ko (List.set [some (.d (bkD D0 R0)),some (.d (.dict G)),some (.loc (.dict (lnL P st))),on] 3 (some (.d (.str x)))) T=some ((.nx,[some (.d (bkD D0 R0)),some (.d (.dict G)),some (.loc (.dict (lnL (P++[(PyData.str x,r)]) st))),some (.d (.str x))]),T):=by
   rw[←pn]
   have z:(1:Nat)+2<=sizeLine:=by decide
   simp[ko,bkD,hk,lr,cP,FV,ln,pl,z]
  rw[List.map_cons,cU st1];exact uT B hG hst rest (P++[(.str x,r)]) _ (by rw[e];simp)
theorem qP(B:Bk p n D0 R0)(T:Tp):∃st:Str->St3,(∀x r,av R0 x=some r->OkS p n (st x))/\jm [.d (bkD D0 R0)] T=some (.dict (lnL R0 st),T)/\gG [.d (bkD D0 R0)] T=some (.dict (lnL R0 st),T):=by
 obtain⟨G,st,e1,s1,s2,s3,s4⟩:=DV B T;obtain⟨G',g1,t1,t2,t3⟩:=Cg B T;have hG:=s1.gv B
 have ok:∀x r,av R0 x=some r->OkS p n (st x):=fun x r hr=>by
  rw[s4 x r hr];exact(iL hG B.n20 (dE (B.rg hr).1 B.n20)).1
 have same:=zq B s2 s1 s3 t2 t1 t3
 have hst:∀x r,av R0 x=some r->st x=run G' (s0 r):=fun x r hr=>by
  rw[s4 x r hr];exact kz same hG B.n20 (dE (B.rg hr).1 B.n20)
 refine⟨st,ok,?_,?_⟩
 .have l:=Cf B ok T
  simp[jm,e1,l]
 .obtain⟨on,e⟩:=uT B (t1.gv B) hst (T:=T) R0 [] none rfl
  have e0:lnL ([]:Dc) st=[]:=rfl;rw[e0] at e;rw[yu];simp[g1];simp[bkD] at e ⊢;simp[e]
end
def nl(xs:List Str):List PyData:=xs.map .str
theorem ef(xs:List Str):(nl xs).length=xs.length:=by simp[nl]
theorem lD(a b:List Str):nl a++nl b=nl (a++b):=by simp[nl]
theorem nN(xs:List Str):b9 (nl xs)=some xs:=by have:=kr (fun x:Str=>x) xs;simpa[nl] using this
def PK:Str:=Str.ofString "peek"
structure Wd(ws:List Str)(m:Nat):Prop where
 ln:ws.length<=m
 sz:∀w∈ws,w.length<=21
 lo:∀w∈ws,∀c∈w.cps.toList,c<128
theorem vf{i:Nat}{f:FE}{ρ:Rho}{T T1:Tp}{ys xs:List PyData}(h:f ρ T=some (.d (.list ys),T1))(h2:ρ[i]? = some (some (.loc (.list xs))))(h3:xs.length+ys.length<=sizeLine):fL i f ρ T=some ((.nx,ρ.set i (some (.loc (.list (xs++ys))))),T1):=by
 unfold fL;rw[h,oT];simp only[h2];rw[if_pos h3]
theorem oq{M:FnM}{f:PyData->List Str}{T:Tp}{o0:Option D.W}:∀(es:List PyData) (acc:List Str) (o:Option D.W),(∀e∈es,M [.d e] T=some (.list (nl (f e)),T))->acc.length+(es.map f).flatten.length<=10000 ->
  ∃o',forL 2 (fL 1 (ar M (ae (aa 2) ah))) es [o0,some (.loc (.list (nl acc))),o] T=some ((.nx,[o0,some (.loc (.list (nl (acc++(es.map f).flatten)))),o']),T)
 |[],acc,o,_,_=>⟨o,by simp[forL]⟩
 |e::es,acc,o,h,hl=>by
  have h1:=h e List.mem_cons_self;rw[List.map_cons,List.flatten_cons,List.length_append] at hl;obtain⟨o',ih⟩:=oq (f:=f) es (acc++f e) (some (.d e)) (fun x hx=>h x (List.mem_cons_of_mem _ hx)) (by rw[List.length_append];omega);refine⟨o',?_⟩;rw[cU (ρ':=[o0,some (.loc (.list (nl (acc++f e)))),some (.d e)]),ih]
  .rw[List.map_cons,List.flatten_cons,List.append_assoc]
  .rw[←lD]
   exact vf (xs:=nl acc) (ys:=nl (f e)) (by simp[h1]) rfl (by rw[ef,ef];exact Nat.le_trans (show _<=10000 by omega) (by decide))
theorem og{X:FE}{f:PyData->List Str}{T:Tp}{e0:PyData}:∀(es:List PyData) (acc:List Str) (o:Option D.W),(∀e∈es,∀l,X [some (.d e0),some (.d l),some (.d e)] T=some (.d (.list (nl (f e))),T))->acc.length+(es.map f).flatten.length<=10000 ->
  ∃o',forL 2 (aE 1 (ag aG (aa 1) X)) es [some (.d e0),some (.d (.list (nl acc))),o] T=some ((.nx,[some (.d e0),some (.d (.list (nl (acc++(es.map f).flatten)))),o']),T)
 |[],acc,o,_,_=>⟨o,by simp[forL]⟩
 |e::es,acc,o,h,hl=>by
  have h1:=h e List.mem_cons_self;rw[List.map_cons,List.flatten_cons,List.length_append] at hl;obtain⟨o',ih⟩:=og (X:=X) (f:=f) (e0:=e0) es (acc++f e) (some (.d e)) (fun x hx=>h x (List.mem_cons_of_mem _ hx)) (by rw[List.length_append];omega);refine⟨o',?_⟩
  have z:(nl acc).length+(nl (f e)).length<=sizeLine:=by rw[ef,ef];exact Nat.le_trans (show _<=10000 by omega) (by decide)
  rw[cU (ρ':=[some (.d e0),some (.d (.list (nl (acc++f e)))),some (.d e)]),ih]
  .rw[List.map_cons,List.flatten_cons,List.append_assoc]
  .rw[←lD]
   simp[h1,z]
theorem iF{α:Type}{f:α->List Str}{m:Nat}:∀{es:List α},(∀e∈es,(f e).length<=m)->(es.map f).flatten.length<=m*es.length
 |[],_=>by simp
 |a::r,h=>by
  have h1:=h a List.mem_cons_self;have h2:=iF (f:=f) (es:=r) fun x hx=>h x (List.mem_cons_of_mem _ hx);rw[List.map_cons,List.flatten_cons,List.length_append,List.length_cons,Nat.mul_add];omega
theorem Wd.node{α:Type}{f:α->List Str}{fw:List Str}{es:List α}{m k:Nat}(h1:Wd fw k)(h:∀e∈es,Wd (f e) m):Wd (fw++(es.map f).flatten) (k+m*es.length) where
 ln:=by
  have:=iF (f:=f) fun e he=>(h e he).ln;have:=h1.ln;rw[List.length_append];omega
 sz:=fun w hw=>(List.mem_append.mp hw).elim (h1.sz w) fun z=>by
  obtain⟨l,hl,hw'⟩:=List.mem_flatten.mp z;obtain⟨e,he,rfl⟩:=List.mem_map.mp hl;exact(h e he).sz w hw'
 lo:=fun w hw=>(List.mem_append.mp hw).elim (h1.lo w) fun z=>by
  obtain⟨l,hl,hw'⟩:=List.mem_flatten.mp z;obtain⟨e,he,rfl⟩:=List.mem_map.mp hl;exact(h e he).lo w hw'
theorem pk_node{α:Type}{f:α->List Str}{fw:List Str}{es:List α}:PK∈fw++(es.map f).flatten↔PK∈fw\/∃e∈es,PK∈f e:=by
 constructor
 .intro h
  rcases List.mem_append.mp h with z|z
  .exact .inl z
  .obtain⟨l,hl,hw'⟩:=List.mem_flatten.mp z
   obtain⟨e,he,rfl⟩:=List.mem_map.mp hl;exact .inr ⟨e,he,hw'⟩
 .rintro(h|⟨e,he,h⟩)
  .exact List.mem_append_left _ h
  .exact List.mem_append_right _ (List.mem_flatten.mpr ⟨_,List.mem_map.mpr ⟨e,he,rfl⟩,h⟩)
theorem Wd.up{ws:List Str}{m k:Nat}(h:Wd ws m)(l:m<=k):Wd ws k:=⟨Nat.le_trans h.ln l,h.sz,h.lo⟩
theorem vG{ws:List Str}(h:∀w∈ws,w.length<=21/\∀c∈w.cps.toList,c<128):Wd ws ws.length:=⟨Nat.le_refl _,fun w hw=>(h w hw).1,fun w hw=>(h w hw).2⟩
def SE(k:Nat)(m:Nat)(e:PyData):Prop:=∃ws,Wd ws m/\PK∉ws/\(∀n T,k<=n->c6 n [.d e] T=some (.list (nl ws),T))/\∀n T,k<=n->bX n [.d e] T=some (.list (nl ws),T)
theorem m8{k m:Nat}{es:List PyData}(h:∀e∈es,SE k m e):∃f:PyData->List Str,∀e∈es,Wd (f e) m/\PK∉f e/\(∀n T,k<=n->c6 n [.d e] T=some (.list (nl (f e)),T))/\∀n T,k<=n->bX n [.d e] T=some (.list (nl (f e)),T):=by
 classical
 refine⟨fun e=>if h':e∈es then (h e h').choose else [],fun e he=>?_⟩;simp only[dif_pos he];exact(h e he).choose_spec
theorem vp{v:PyData}(h:VV v):(mk (cst 4 v)).length<=1000:=by
 have:=oz 4 v (dM h.val).1;have:=(dM h.val).2;rw[cV];omega
theorem oW:∀(n:Nat) (v:PyData),Va n v->∀c∈cst n v,c<128:=by
 intro n v h
 induction h with
 |@int n i _=>
  intro c hc;rw[dO] at hc;have:=iD i c hc;omega
 |@str n x hx=>
  intro c hc;rw[fj] at hc
  rcases List.mem_cons.mp hc with rfl|hc
  .decide
  .exact uz (jF (.str hx)).1 c hc
 |@tup n ds _ _ ih=>
  intro c hc
  cases ds with
  |nil=>
   rw[jO] at hc;simp at hc;omega
  |cons d ds=>
   rw[iR] at hc
   rcases List.mem_cons.mp hc with rfl|hc
   .decide
   .rcases List.mem_append.mp hc with z|z
    .exact ih d List.mem_cons_self c z
    .unfold tlS at z
     rcases List.mem_append.mp z with z|z
     .obtain⟨l,hl,hz⟩:=List.mem_flatten.mp z
      obtain⟨e,he,rfl⟩:=List.mem_map.mp hl
      rcases List.mem_cons.mp hz with rfl|hz
      .decide
      .exact ih e (List.mem_cons_of_mem _ he) c hz
     .simp at z
      omega
theorem vq{v:PyData}(h:VV v):mk (cst 4 v)≠PK:=fun z=>by
 have e:cst 4 v=[112,101,101,107]:=by
  have:=congrArg cd z;rw[cM] at this;rw[this]
  decide +kernel
 obtain⟨c,r,q,hq,_⟩:=gU h (Nat.le_refl 4);rw[e] at q;have:=(List.cons.inj q).1;omega
theorem v8{i:Int}(h0:0<=i)(h1:i<=1000):∃t:Str,t.length<=21/\(∀c∈t.cps.toList,c<128)/\t≠PK/\gy [.int i]=some (.str t)/\eA [.int i]=some (.str t):=by
 have s:single (.int i)=true:=qy (by omega) (by omega);refine⟨mk (nc i),?_,?_,?_,k7 s,k7 s⟩
 .have:=sg (n:=4) s
  rw[dO] at this;rw[cV];exact this
 .have:=oW 4 (.int i) (.int s)
  rw[dO] at this;intro c hc;exact this c (by rw[←cM (nc i)];exact hc)
 .have:=vq (v:=.int i) (.int s)
  rw[dO] at this;exact this
theorem vU{l:List Nat}(h:∀c∈l,c<128):∀c∈(mk l).cps.toList,c<128:=fun c hc=>h c (by rw[←cM l];exact hc)
theorem s2:2<=sizeLine:=by decide
theorem eI{s:String}(h:((Str.ofString s).cps.toList.all fun c=>decide (c<128))=true)(hl:(Str.ofString s).length<=21):(Str.ofString s).length<=21/\∀c∈(Str.ofString s).cps.toList,c<128:=⟨hl,fun c hc=>of_decide_eq_true (List.all_eq_true.mp h c hc)⟩
theorem CK{w:String}(h:w∈PW):((Str.ofString w).length<=21/\∀c∈(Str.ofString w).cps.toList,c<128)/\Str.ofString w≠PK:=by
 simp[PW] at h
 rcases h with rfl|rfl|rfl|rfl|rfl <;> exact⟨eI (by decide +kernel) (by decide +kernel),by decide +kernel⟩
theorem nT{e0:PyData}{w:Str}{fw:List Str}{es:List PyData}{f:PyData->List Str}{n m:Nat}(hs:∀e∈es,Wd (f e) m/\∀T,c6 n [.d e] T=some (.list (nl (f e)),T))(hl:m*es.length<=9000)(hfl:fw.length<=1)(ix:ixD e0 (.int 0)=some (.str w))
  (h1:∀T,eW [.d e0] T=some (.list (nl fw),T)) (h2:∀T,cu [.d e0] T=some (.list es,T)) (T:Tp):c6 (n+1) [.d e0] T=some (.list (nl (w::fw++(es.map f).flatten)),T):=by
 have fl:=iF (f:=f) (m:=m) fun e he=>(hs e he).1.ln;obtain⟨o',lp⟩:=oq (M:=c6 n) (f:=f) (T:=T) (o0:=some (.d e0)) es (w::fw) none (fun e he=>(hs e he).2 T) (by rw[List.length_cons];omega);have s3:fw.length+1<=sizeLine:=cS (by omega);have e1:PyData.str w::nl fw=nl (w::fw):=rfl;rw[xj];simp[ix,h1,h2,eO,hW,ef,Nat.add_comm,s3,e1,qa,lp]
theorem E9(n:Nat):qS n=aE 1 (ag aG (aa 1) (ar (bX n) (ae (aa 2) ah))):=rfl
def lwX(n:Nat):FE:=(bW (aS (fUn (br .tup) (aa 2))) (ar (bX n) (ae (aa 2) ah)) (ao .list (ae (fCB eA (ae (aa 2) ah)) ah)))
theorem wx(n:Nat):qR n=aE 1 (ag aG (aa 1) (lwX n)):=rfl
theorem nY{e0:PyData}{w:String}{es:List PyData}{f:PyData->List Str}{n m:Nat}(hs:∀e∈es,Wd (f e) m/\((∃xs,e=.tuple xs)/\(∀T,bX n [.d e] T=some (.list (nl (f e)),T))\/bU (D.kd e) .tup=false/\∃t,f e=[t]/\eA [e]=some (.str t)))(hl:m*es.length<=9000)
  (h0:w≠"put") (h1:w≠"row") (he:e0=.tuple (.str (Str.ofString w)::es)) (T:Tp):bX (n+1) [.d e0] T=some (.list (nl ([Str.ofString w]++(es.map f).flatten)),T):=by
 have fl:=iF (f:=f) (m:=m) fun e he=>(hs e he).1.ln
 obtain⟨o',lp⟩:=og (X:=lwX n) (f:=f) (T:=T) (e0:=e0) es [Str.ofString w] none (fun e he l=>by
  rcases(hs e he).2 with⟨⟨xs,rfl⟩,q⟩|⟨q1,t,q2,q3⟩
  .simp[lwX,q]
  .simp[lwX,q1,q3,q2,nl]) (by rw[List.length_singleton];omega)
 have c1:bV (PyData.str (Str.ofString w)::es) (some 1) none=es:=fN
 have a0:atI (PyData.str (Str.ofString w)::es) 0=some (.str (Str.ofString w)):=by
  unfold atI ixN;rw[if_pos (by decide),if_pos (by simp)];rfl
 rw[mI];subst he;have e1:nl [Str.ofString w]=[PyData.str (Str.ofString w)]:=rfl;rw[e1] at lp;rw[wx];simp[a0,h0,h1,c1,lp]
theorem Di{es:List PyData}{f:PyData->List Str}{n m:Nat}{t:Str}(hs:∀e∈es,Wd (f e) m/\∀T,bX n [.d e] T=some (.list (nl (f e)),T))(hl:m*es.length<=9000)(ht:eA [.int es.length]=some (.str t))(T:Tp) :
  bX (n+1) [.d (.tuple [.str "row",.tuple es])] T=some (.list (nl ([Str.ofString "row",t]++(es.map f).flatten)),T):=by
 have fl:=iF (f:=f) (m:=m) fun e he=>(hs e he).1.ln;obtain⟨o',lp⟩:=og (X:=ar (bX n) (ae (aa 2) ah)) (f:=f) (T:=T) (e0:=.tuple [.str "row",.tuple es]) es [Str.ofString "row",t] none (fun e he l=>by simp[(hs e he).2 T]) (by show 2+_<=10000;omega);have e1:nl [Str.ofString "row",t]=[PyData.str "row",.str t]:=rfl;rw[e1] at lp;rw[mI,E9];simp[ht,lp]
theorem lm{a b:Str}(h1:a.length<=21/\∀c∈a.cps.toList,c<128)(h2:b.length<=21/\∀c∈b.cps.toList,c<128):Wd [a,b] 2:=vG (ws:=[a,b]) fun w hw=>by
 simp at hw
 rcases hw with rfl|rfl
 .exact h1
 .exact h2
theorem iI{a:Str}(h1:a.length<=21/\∀c∈a.cps.toList,c<128):Wd [a] 1:=vG (ws:=[a]) fun w hw=>by
 rw[List.mem_singleton.mp hw];exact h1
theorem p3(n:Nat):3^(n+1)=3*3^n/\1<=3^n:=⟨by rw[Nat.pow_succ];omega,Nat.one_le_pow _ _ (by decide)⟩
theorem pq{m:Int}(hm:m<=1000):∀(n:Nat) (e:PyData),Ex m n e->n<=5->SE (n+1) (3^(n+1)) e:=by
 intro n e h
 induction h with
 |@put n v hv=>
  intro _;obtain⟨hv,z⟩:=hv;have:=p3 n;refine⟨[Str.ofString "put",mk (cst 4 v)],(lm (eI (by decide +kernel) (by decide +kernel)) ⟨by omega,vU (oW 4 v hv)⟩).up (by omega),?_,fun k T hk=>?_,fun k T hk=>?_⟩
  .simp only[List.mem_cons,List.not_mem_nil,or_false,not_or]
   exact⟨by decide +kernel,fun z=>vq hv z.symm⟩
  .obtain⟨k,rfl⟩:=aX k (by omega)
   have s:∀T,du 25 [.d v] T=some (.str (mk (cst 4 v)),T):=fun T=>oJ T hv;simp[c6,eW,cu,s,eO,hW,nl,forL,s2]
  .obtain⟨k,rfl⟩:=aX k (by omega)
   have s:∀T,cD 25 [.d v] T=some (.str (mk (cst 4 v)),T):=fun T=>jA T hv;simp[bX,s,nl]
 |@got n i h0 h1=>
  intro _;obtain⟨t,z,tl,tp,st,st'⟩:=v8 (i:=i) h0 (by omega);have:=p3 n;refine⟨[Str.ofString "got",t],(lm (eI (by decide +kernel) (by decide +kernel)) ⟨by omega,tl⟩).up (by omega),?_,fun k T hk=>?_,fun k T hk=>?_⟩
  .simp only[List.mem_cons,List.not_mem_nil,or_false,not_or]
   exact⟨by decide +kernel,fun z=>tp z.symm⟩
  .obtain⟨k,rfl⟩:=aX k (by omega)
   simp[c6,eW,cu,st,eO,hW,nl,forL,s2]
  .obtain⟨k,rfl⟩:=aX k (by omega)
   have:=nY (e0:=.tuple [.str "got",.int i]) (w:="got") (es:=[.int i]) (f:=fun _=>[t]) (n:=k) (m:=1) (fun e he=>by
    rw[List.mem_singleton.mp he]
    exact⟨iI ⟨by omega,tl⟩,.inr ⟨rfl,t,rfl,st'⟩⟩) (by simp) (by decide) (by decide) rfl T
   simpa using this
 |@row n es hl _ ih=>
  intro hn;obtain⟨f,hf⟩:=m8 fun e he=>ih e he (by omega);obtain⟨t,z,tl,tp,st,st'⟩:=v8 (i:=(es.length:Int)) (by omega) (by omega);have q:=p3 (n+1);have q':3^(n+1)<=3^5:=Nat.pow_le_pow_right (by decide) (by omega);have b2:3^(n+1)*es.length<=3^(n+1)*2:=Nat.mul_le_mul_left _ hl;have w2:=lm (eI (s:="row") (by decide +kernel) (by decide +kernel)) ⟨by omega,tl⟩;refine⟨[Str.ofString "row",t]++(es.map f).flatten,(w2.node fun e he=>(hf e he).1).up (by have:=p3 n;omega),fun z=>?_,fun k T hk=>?_,fun k T hk=>?_⟩
  .rcases pk_node.mp z with z|⟨e,he,z⟩
   .simp only[List.mem_cons,List.not_mem_nil,or_false] at z
    rcases z with z|z
    .exact absurd z (by decide +kernel)
    .exact tp z.symm
   .exact(hf e he).2.1 z
  .obtain⟨k,rfl⟩:=aX k (by omega)
   exact nT (w:=Str.ofString "row") (fw:=[t]) (fun e he=>⟨(hf e he).1,fun T=>(hf e he).2.2.1 k T (by omega)⟩) (by omega) (by simp) rfl (fun T=>by simp[eW,st,nl]) (fun T=>by simp[cu]) T
  .obtain⟨k,rfl⟩:=aX k (by omega)
   exact Di (fun e he=>⟨(hf e he).1,fun T=>(hf e he).2.2.2 k T (by omega)⟩) (by omega) st' T
 |@many n e he ih=>
  intro hn;obtain⟨xs,hxs⟩:=Ex.tup he
  obtain⟨f,hf⟩:=m8 (es:=[e]) fun x hx=>by rw[List.mem_singleton.mp hx];exact ih (by omega)
  have q:=p3 (n+1);have q':3^(n+1)<=3^5:=Nat.pow_le_pow_right (by decide) (by omega);have w1:=iI (eI (s:="many") (by decide +kernel) (by decide +kernel));refine⟨[Str.ofString "many"]++([e].map f).flatten,(w1.node fun e he=>(hf e he).1).up (by have:=p3 n;simp;omega),fun z=>?_,fun k T hk=>?_,fun k T hk=>?_⟩
  .rcases pk_node.mp z with z|⟨e,he,z⟩
   .exact absurd (List.mem_singleton.mp z) (by decide +kernel)
   .exact(hf e he).2.1 z
  .obtain⟨k,rfl⟩:=aX k (by omega)
   exact nT (w:=Str.ofString "many") (fw:=[]) (fun e he=>⟨(hf e he).1,fun T=>(hf e he).2.2.1 k T (by omega)⟩) (by simp;omega) (by simp) rfl (fun T=>by simp[eW,nl]) (fun T=>by simp[cu,fN]) T
  .obtain⟨k,rfl⟩:=aX k (by omega)
   exact nY (w:="many") (es:=[e]) (fun x hx=>⟨(hf x hx).1,.inl ⟨by rw[List.mem_singleton.mp hx];exact⟨xs,hxs⟩,fun T=>(hf x hx).2.2.2 k T (by omega)⟩⟩) (by simp;omega) (by decide) (by decide) rfl T
 |@pair n w a b hw ha hb _ iha ihb=>
  intro hn;obtain⟨xs,hxs⟩:=Ex.tup ha;obtain⟨ys,hys⟩:=Ex.tup hb
  obtain⟨f,hf⟩:=m8 (es:=[a,b]) fun x hx=>by
   simp at hx
   rcases hx with rfl|rfl
   .exact iha (by omega)
   .exact ihb (by omega)
  have q:=p3 (n+1);have q':3^(n+1)<=3^5:=Nat.pow_le_pow_right (by decide) (by omega);obtain⟨l1,l2⟩:=CK hw;have w1:=iI l1
  have ne:¬w="put"/\¬w="got"/\¬w="row":=by
   simp[PW] at hw
   rcases hw with rfl|rfl|rfl|rfl|rfl <;> simp
  obtain⟨n1,n2,n4⟩:=ne;refine⟨[Str.ofString w]++([a,b].map f).flatten,(w1.node fun e he=>(hf e he).1).up (by have:=p3 n;simp;omega),fun z=>?_,fun k T hk=>?_,fun k T hk=>?_⟩
  .rcases pk_node.mp z with z|⟨e,he,z⟩
   .exact l2 (List.mem_singleton.mp z).symm
   .exact(hf e he).2.1 z
  .obtain⟨k,rfl⟩:=aX k (by omega)
   exact nT (w:=Str.ofString w) (fw:=[]) (fun e he=>⟨(hf e he).1,fun T=>(hf e he).2.2.1 k T (by omega)⟩) (by simp;omega) (by simp) rfl (fun T=>by simp[eW,n1,n2,n4,nl]) (fun T=>by simp[cu,fN,n1,n2,n4]) T
  .obtain⟨k,rfl⟩:=aX k (by omega)
   exact nY (w:=w) (es:=[a,b]) (fun x hx=>⟨(hf x hx).1,.inl ⟨by simp at hx;exact hx.elim (fun z=>⟨xs,z.trans hxs⟩) fun z=>⟨ys,z.trans hys⟩,fun T=>(hf x hx).2.2.2 k T (by omega)⟩⟩) (by simp;omega) n1 n4 rfl T
theorem sG{X:FE}{T:Tp}{e0:PyData}:∀(ps:List (PyData×List Str)) (acc:List Str) (o:Option D.W),(∀q∈ps,∀l,X [some (.d e0),some (.d l),some (.d q.1)] T=some (.d (.list (nl q.2)),T))->acc.length+(ps.map (·.2)).flatten.length<=10000 ->
  ∃o',forL 2 (aE 1 (ag aG (aa 1) X)) (ps.map (·.1)) [some (.d e0),some (.d (.list (nl acc))),o] T=some ((.nx,[some (.d e0),some (.d (.list (nl (acc++(ps.map (·.2)).flatten)))),o']),T)
 |[],acc,o,_,_=>⟨o,by simp[forL]⟩
 |q::ps,acc,o,h,hl=>by
  have h1:=h q List.mem_cons_self;rw[List.map_cons,List.flatten_cons,List.length_append] at hl;obtain⟨o',ih⟩:=sG (X:=X) (e0:=e0) ps (acc++q.2) (some (.d q.1)) (fun x hx=>h x (List.mem_cons_of_mem _ hx)) (by rw[List.length_append];omega);refine⟨o',?_⟩
  have z:(nl acc).length+(nl q.2).length<=sizeLine:=by rw[ef,ef];exact Nat.le_trans (show _<=10000 by omega) (by decide)
  rw[List.map_cons,cU (ρ':=[some (.d e0),some (.d (.list (nl (acc++q.2)))),some (.d q.1)]),ih]
  .rw[List.map_cons,List.flatten_cons,List.append_assoc]
  .rw[←lD]
   simp[h1,z]
theorem kL{w:String}{ps:List (PyData×List Str)}{n:Nat}(hs:∀q∈ps,(∃xs,q.1=.tuple xs)/\(∀T,bX n [.d q.1] T=some (.list (nl q.2),T))\/bU (D.kd q.1) .tup=false/\∃t,q.2=[t]/\eA [q.1]=some (.str t))(hl:(ps.map (·.2)).flatten.length<=9000)
  (h0:w≠"put") (h1:w≠"row") (T:Tp):bX (n+1) [.d (.tuple (.str (Str.ofString w)::ps.map (·.1)))] T=some (.list (nl ([Str.ofString w]++(ps.map (·.2)).flatten)),T):=by
 obtain⟨o',lp⟩:=sG (X:=lwX n) (T:=T) (e0:=.tuple (.str (Str.ofString w)::ps.map (·.1))) ps [Str.ofString w] none (fun q hq l=>by
  rcases hs q hq with⟨⟨xs,hx⟩,z⟩|⟨q1,t,q2,q3⟩
  .rw[hx] at z ⊢
   simp[lwX,z]
  .simp[lwX,q1,q3,q2,nl]) (by rw[List.length_singleton];omega)
 have c1:bV (PyData.str (Str.ofString w)::ps.map (·.1)) (some 1) none=ps.map (·.1):=fN
 have a0:atI (PyData.str (Str.ofString w)::ps.map (·.1)) 0=some (.str (Str.ofString w)):=by
  unfold atI ixN;rw[if_pos (by decide),if_pos (by simp)];rfl
 rw[mI];have e1:nl [Str.ofString w]=[PyData.str (Str.ofString w)]:=rfl;rw[e1] at lp;rw[wx];simp[a0,h0,h1,c1,lp]
theorem tG{w:String}{e:PyData}{rs:List PyData}{we:List Str}{f:PyData->List Str}{n m:Nat}(hw:w≠"fail")(he:∀T,c6 25 [.d e] T=some (.list (nl we),T))(hwe:we.length<=1000)(hs:∀r∈rs,Wd (f r) m/\∀T,d3 n [.d r] T=some (.list (nl (f r)),T))(hl:m*rs.length<=8000)(c2:bV (PyData.str (Str.ofString w)::e::rs) (some 2) none=rs)(T:Tp) :
  d3 (n+1) [.d (.tuple (.str (Str.ofString w)::e::rs))] T=some (.list (nl (Str.ofString w::we++(rs.map f).flatten)),T):=by
 have fl:=iF (f:=f) (m:=m) fun e he=>(hs e he).1.ln;obtain⟨o',lp⟩:=oq (M:=d3 n) (f:=f) (T:=T) (o0:=some (.d (.tuple (.str (Str.ofString w)::e::rs)))) rs (Str.ofString w::we) none (fun e he=>(hs e he).2 T) (by rw[List.length_cons];omega);have s3:we.length+1<=sizeLine:=cS (by omega);have e1:PyData.str (Str.ofString w)::nl we=nl (Str.ofString w::we):=rfl
 have a0:atI (PyData.str (Str.ofString w)::e::rs) 0=some (.str (Str.ofString w)):=by
  unfold atI ixN;rw[if_pos (by decide),if_pos (by simp;omega)];rfl
 have a1:atI (PyData.str (Str.ofString w)::e::rs) 1=some e:=by
  unfold atI ixN;rw[if_pos (by decide),if_pos (by simp;omega)];rfl
 rw[p8];simp[a0,a1,hw,he,eO,hW,ef,Nat.add_comm,s3,e1,mB,c2,lp]
theorem sN{M:FnM}{T:Tp}{o0:Option D.W}:∀(ps:List (PyData×List Str)) (acc:List Str) (o:Option D.W),(∀q∈ps,M [.d q.1] T=some (.list (nl q.2),T))->acc.length+(ps.map (·.2)).flatten.length<=10000 ->
  ∃o',forL 2 (fL 1 (ar M (ae (aa 2) ah))) (ps.map (·.1)) [o0,some (.loc (.list (nl acc))),o] T=some ((.nx,[o0,some (.loc (.list (nl (acc++(ps.map (·.2)).flatten)))),o']),T)
 |[],acc,o,_,_=>⟨o,by simp[forL]⟩
 |q::ps,acc,o,h,hl=>by
  have h1:=h q List.mem_cons_self;rw[List.map_cons,List.flatten_cons,List.length_append] at hl;obtain⟨o',ih⟩:=sN ps (acc++q.2) (some (.d q.1)) (fun x hx=>h x (List.mem_cons_of_mem _ hx)) (by rw[List.length_append];omega);refine⟨o',?_⟩;rw[List.map_cons,cU (ρ':=[o0,some (.loc (.list (nl (acc++q.2)))),some (.d q.1)]),ih]
  .rw[List.map_cons,List.flatten_cons,List.append_assoc]
  .rw[←lD]
   exact vf (xs:=nl acc) (ys:=nl q.2) (by simp[h1]) rfl (by rw[ef,ef];exact Nat.le_trans (show _<=10000 by omega) (by decide))
theorem ad0:d0 [.list []]=some (.bool true):=rfl
theorem ad1(a:Bool):d0 [.list [.bool a]]=some (.bool a):=by cases a <;> rfl
theorem ad2(a b:Bool):d0 [.list [.bool a,.bool b]]=some (.bool (a&&b)):=by cases a <;> cases b <;> rfl
def SR(n:Nat)(r:PyData):Prop:=∃ws h,Wd ws (12*2^n-10)/\(PK∈ws↔h=false)/\(∀k T,n+2<=k->d3 k [.d r] T=some (.list (nl ws),T))/\(∀k T,n+2<=k->bX k [.d r] T=some (.list (nl ws),T))/\∀k T,n+2<=k->d4 k [.d r] T=some (.bool h,T)
theorem p4(n:Nat):2^(n+1)=2*2^n/\1<=2^n:=⟨by rw[Nat.pow_succ];omega,Nat.one_le_pow _ _ (by decide)⟩
theorem Rg.tup{p:Bool}{g n:Nat}{r:PyData}(h:Rg p g n r):∃xs,r=.tuple xs:=by cases h <;> exact⟨_,rfl⟩
theorem kY{x:Str}(h:isName (.str x)=true):x.length<=21/\∀c∈x.cps.toList,c<128:=by
 have:=(tL h).both;have h':(decide (1<=x.length)&&decide (x.length<=8)&&has LET x)=true:=h;rw[Bool.and_eq_true,Bool.and_eq_true] at h';have:=of_decide_eq_true h'.1.2;exact⟨by omega,(tL h).both.2⟩
theorem D8{p:Bool}:∀(n g:Nat) (r:PyData),Rg p g n r->n<=4->g<=100->SR n r:=by
 intro n g r h
 induction h with
 |@fail g n x hx=>
  intro hn hg;have nl':=kY hx.1;have q:=p4 n;refine⟨[Str.ofString "fail",x],true,(lm (eI (by decide +kernel) (by decide +kernel)) nl').up (by omega),?_,fun k T hk=>?_,fun k T hk=>?_,fun k T hk=>?_⟩
  .refine⟨fun z=>?_,fun z=>nomatch z⟩
   simp only[List.mem_cons,List.not_mem_nil,or_false] at z
   rcases z with z|z
   .exact absurd z (by decide +kernel)
   .exact absurd z.symm hx.2
  .obtain⟨k,rfl⟩:=aX k (by omega)
   simp[d3,nl]
  .obtain⟨k,rfl⟩:=aX k (by omega)
   have:=kL (w:="fail") (ps:=[(.str x,[x])]) (n:=k) (fun q hq=>by
    rw[List.mem_singleton.mp hq]
    exact .inr ⟨rfl,x,rfl,rfl⟩) (by simp) (by decide) (by decide) T
   simpa using this
  .obtain⟨k,rfl⟩:=aX k (by omega)
   have c2:bV [PyData.str "fail",.str x] (some 2) none=[]:=rfl;simp[d4,c2,bE,ad0]
 |@say g n e he=>
  intro hn hg;obtain⟨we,w1,w2,w3,w4⟩:=pq (by omega) 1 e he (by omega);obtain⟨xs,hxs⟩:=Ex.tup he;have q:=p4 n;have q':2^n<=2^4:=Nat.pow_le_pow_right (by decide) (by omega);have wl:=w1.ln;have lt:=iI (eI (s:="say") (by decide +kernel) (by decide +kernel));refine⟨[Str.ofString "say"]++([we].map id).flatten,true,⟨by simp;omega,(lt.node (es:=[we]) (f:=id) (m:=9) fun z hz=>by rw[List.mem_singleton.mp hz];exact w1).sz,(lt.node (es:=[we]) (f:=id) (m:=9) fun z hz=>by rw[List.mem_singleton.mp hz];exact w1).lo⟩,?_,fun k T hk=>?_,fun k T hk=>?_,fun k T hk=>?_⟩
  .refine⟨fun z=>?_,fun z=>nomatch z⟩
   rcases pk_node.mp z with z|⟨e,he,z⟩
   .exact absurd (List.mem_singleton.mp z) (by decide +kernel)
   .rw[List.mem_singleton.mp he] at z
    exact absurd z w2
  .obtain⟨k,rfl⟩:=aX k (by omega)
   have:=tG (w:="say") (e:=e) (rs:=[]) (we:=we) (f:=fun _=>[]) (n:=k) (m:=0) (by decide) (fun T=>w3 25 T (by omega)) (by omega) (fun r hr=>nomatch hr) (by simp) rfl T;simpa using this
  .obtain⟨k,rfl⟩:=aX k (by omega)
   have:=kL (w:="say") (ps:=[(e,we)]) (n:=k) (fun q hq=>by
    rw[List.mem_singleton.mp hq]
    exact .inl ⟨⟨xs,hxs⟩,fun T=>w4 k T (by omega)⟩) (by simp;omega) (by decide) (by decide) T
   simpa using this
  .obtain⟨k,rfl⟩:=aX k (by omega)
   have c2:bV [PyData.str "say",e] (some 2) none=[]:=rfl;simp[d4,c2,bE,ad0]
 |@ask g n w e r hw hg' he hr ih=>
  intro hn hg;obtain⟨we,w1,w2,w3,w4⟩:=pq (by omega) 1 e he (by omega);obtain⟨wr,hb,v1,v2,v3,v4,v5⟩:=ih (by omega) (by omega);obtain⟨xs,hxs⟩:=Ex.tup he;obtain⟨ys,hys⟩:=Rg.tup hr;have q:=p4 n;have q':2^n<=2^4:=Nat.pow_le_pow_right (by decide) (by omega);have wl:=w1.ln;have vl:=v1.ln
  have hwl:((Str.ofString w).length<=21/\∀c∈(Str.ofString w).cps.toList,c<128)/\w≠"fail"/\w≠"put"/\w≠"row":=by
   rcases hw with rfl|⟨rfl,_⟩ <;> exact⟨eI (by decide +kernel) (by decide +kernel),by decide,by decide,by decide⟩
  have lt:=iI hwl.1
  have W:=lt.node (es:=[we,wr]) (f:=id) (m:=12*2^n+9) fun z hz=>by
   simp at hz
   rcases hz with rfl|rfl
   .exact w1.up (by omega)
   .exact v1.up (by omega)
  refine⟨[Str.ofString w]++([we,wr].map id).flatten,hb&&decide (w≠"peek"),⟨by simp;omega,W.sz,W.lo⟩,?_,fun k T hk=>?_,fun k T hk=>?_,fun k T hk=>?_⟩
  .rw[pk_node]
   have e1:PK∈[Str.ofString w]↔w="peek":=by
    rw[List.mem_singleton];unfold PK;rw[Bv];exact⟨fun z=>z.symm,fun z=>z.symm⟩
   have e2:(∃z∈[we,wr],PK∈id z)↔hb=false:=by
    rw[←v2];constructor
    .rintro⟨z,hz,h⟩
     simp at hz
     rcases hz with rfl|rfl
     .exact absurd h w2
     .exact h
    .exact fun h=>⟨wr,by simp,h⟩
   rw[e1,e2]
   cases hb <;> simp
  .obtain⟨k,rfl⟩:=aX k (by omega)
   have:=tG (w:=w) (e:=e) (rs:=[r]) (we:=we) (f:=fun _=>wr) (n:=k) (m:=12*2^n-10) hwl.2.1 (fun T=>w3 25 T (by omega)) (by omega) (fun z hz=>by rw[List.mem_singleton.mp hz];exact⟨v1,fun T=>v3 k T (by omega)⟩) (by simp;omega) rfl T;simpa using this
  .obtain⟨k,rfl⟩:=aX k (by omega)
   have:=kL (w:=w) (ps:=[(e,we),(r,wr)]) (n:=k) (fun q hq=>by
    simp at hq
    rcases hq with rfl|rfl
    .exact .inl ⟨⟨xs,hxs⟩,fun T=>w4 k T (by omega)⟩
    .exact .inl ⟨⟨ys,hys⟩,fun T=>v4 k T (by omega)⟩) (by simp;omega) hwl.2.2.1 hwl.2.2.2 T
   simpa using this
  .obtain⟨k,rfl⟩:=aX k (by omega)
   have c2:bV [PyData.str (Str.ofString w),e,r] (some 2) none=[r]:=rfl;have:=v5 k T (by omega)
   by_cases hp:w="peek"
   .simp[d4,hp]
   .cases hb <;> simp[d4,c2,bE,hp,this,ad1]
 |@whn g n e r s he hr hs ihr ihs=>
  intro hn hg;obtain⟨we,w1,w2,w3,w4⟩:=pq (by omega) 1 e he (by omega);obtain⟨wr,hb,v1,v2,v3,v4,v5⟩:=ihr (by omega) hg;obtain⟨wt,hd,u1,u2,u3,u4,u5⟩:=ihs (by omega) hg;obtain⟨xs,hxs⟩:=Ex.tup he;obtain⟨ys,hys⟩:=Rg.tup hr;obtain⟨zs,hzs⟩:=Rg.tup hs;have q:=p4 n;have q':2^n<=2^4:=Nat.pow_le_pow_right (by decide) (by omega);have wl:=w1.ln;have vl:=v1.ln;have ul:=u1.ln;have lt:=iI (eI (s:="when") (by decide +kernel) (by decide +kernel))
  have W:=lt.node (es:=[we,wr,wt]) (f:=id) (m:=12*2^n+9) fun z hz=>by
   simp at hz
   rcases hz with rfl|rfl|rfl
   .exact w1.up (by omega)
   .exact v1.up (by omega)
   .exact u1.up (by omega)
  refine⟨[Str.ofString "when"]++([we,wr,wt].map id).flatten,hb&&hd,⟨by simp;omega,W.sz,W.lo⟩,?_,fun k T hk=>?_,fun k T hk=>?_,fun k T hk=>?_⟩
  .rw[pk_node]
   have e1:PK∈(["when"]:List Str)↔False:=by
    rw[List.mem_singleton];exact⟨fun z=>absurd z (by decide +kernel),fun z=>z.elim⟩
   have e2:(∃z∈[we,wr,wt],PK∈id z)↔hb=false\/hd=false:=by
    rw[←v2,←u2];constructor
    .rintro⟨z,hz,h⟩
     simp at hz
     rcases hz with rfl|rfl|rfl
     .exact absurd h w2
     .exact .inl h
     .exact .inr h
    .rintro(h|h)
     .exact⟨wr,by simp,h⟩
     .exact⟨wt,by simp,h⟩
   rw[e1,e2]
   cases hb <;> cases hd <;> simp
  .obtain⟨k,rfl⟩:=aX k (by omega)
   have e25:=fun T=>w3 25 T (by omega);have r3:=v3 k T (by omega);have s3:=u3 k T (by omega);have c2:bV [PyData.str "when",e,r,s] (some 2) none=[r,s]:=rfl
   obtain⟨o',lp⟩:=sN (M:=d3 k) (T:=T) (o0:=some (.d (.tuple [.str "when",e,r,s]))) [(r,wr),(s,wt)] (Str.ofString "when"::we) none (fun q hq=>by
    simp at hq
    rcases hq with rfl|rfl
    .exact r3
    .exact s3) (by simp;omega)
   have s4:we.length+1<=sizeLine:=cS (by omega);have e1:PyData.str "when"::nl we=nl (Str.ofString "when"::we):=rfl;rw[p8];simp at lp;simp[iZ,j9,e25,eO,hW,ef,Nat.add_comm,s4,e1,mB,c2,lp]
  .obtain⟨k,rfl⟩:=aX k (by omega)
   have:=kL (w:="when") (ps:=[(e,we),(r,wr),(s,wt)]) (n:=k) (fun q hq=>by
    simp at hq
    rcases hq with rfl|rfl|rfl
    .exact .inl ⟨⟨xs,hxs⟩,fun T=>w4 k T (by omega)⟩
    .exact .inl ⟨⟨ys,hys⟩,fun T=>v4 k T (by omega)⟩
    .exact .inl ⟨⟨zs,hzs⟩,fun T=>u4 k T (by omega)⟩) (by simp;omega) (by decide) (by decide) T
   simpa using this
  .obtain⟨k,rfl⟩:=aX k (by omega)
   have c2:bV [PyData.str "when",e,r,s] (some 2) none=[r,s]:=rfl;have a1:=v5 k T (by omega);have a2:=u5 k T (by omega)
   cases hb <;> cases hd <;> simp[d4,c2,bE,iZ,a1,a2,ad2]
theorem sz:sizeLine=16777216:=by decide
def menu:List Str:=["a","ab","abc","b","told","made","say","want","wants","ba","zz","x"]
theorem Ak{x:Str}(h:x∈menu):x.length<=5:=by
 simp only[menu,List.mem_cons,List.not_mem_nil,or_false] at h
 rcases h with h|h|h|h|h|h|h|h|h|h|h|h <;> subst h <;> decide
def Lo(x:Str):Prop:=∀c∈x.cps.toList,c<128
theorem vX{x:Str}(h:(x.cps.toList.all fun c=>decide (c<128))=true):Lo x:=fun c hc=>of_decide_eq_true (List.all_eq_true.mp h c hc)
theorem Lo.app{x y:Str}(h:Lo x)(g:Lo y):Lo (x++y):=fun c hc=>by
 rw[cps_toList_append] at hc
 rcases List.mem_append.mp hc with k|k
 .exact h c k
 .exact g c k
theorem Lo.join{z:Str}(hz:Lo z):∀{xs:List Str},(∀x∈xs,Lo x)->Lo (Str.join z xs)
 |[],_=>fun c hc=>by cases hc
 |[a],h=>h a List.mem_cons_self
 |a::b::r,h=>by
  have e:Str.join z (a::b::r)=a++z++Str.join z (b::r):=rfl;rw[e];exact((h a List.mem_cons_self).app hz).app (Lo.join hz fun x hx=>h x (List.mem_cons_of_mem _ hx))
theorem menu_lo{x:Str}(h:x∈menu):Lo x:=by
 simp only[menu,List.mem_cons,List.not_mem_nil,or_false] at h
 rcases h with h|h|h|h|h|h|h|h|h|h|h|h <;> subst h <;> exact vX (by decide +kernel)
theorem len_app(a b:Str):(a++b).length=a.length+b.length:=by
 show (a++b).cps.size=_;rw[PySem.Str.cps_append,Array.size_append];rfl
theorem join_le(z:Str):∀xs:List Str,(Str.join z xs).length<=(xs.map Str.length).sum+xs.length*z.length
 |[]=>by
  have:(Str.join z []).length=0:=rfl;omega
 |[a]=>by
  have:(Str.join z [a]).length=a.length:=rfl;simp[this]
 |a::b::r=>by
  have ih:=join_le z (b::r);have e:Str.join z (a::b::r)=a++z++Str.join z (b::r):=rfl;rw[e,len_app,len_app];simp only[List.map_cons,List.sum_cons,List.length_cons,Nat.add_mul,Nat.one_mul] at ih ⊢;omega
theorem A2{B:Nat}{xs:List Str}(h:∀x∈xs,x.length<=B):(xs.map Str.length).sum<=B*xs.length:=by
 induction xs with
 |nil=>simp
 |cons a r ih=>
  have h1:=h a List.mem_cons_self;have h2:=ih fun x hx=>h x (List.mem_cons_of_mem _ hx);simp only[List.map_cons,List.sum_cons,List.length_cons,Nat.mul_add,Nat.mul_one];omega
def txt(r:PyData):Str:=match ip [.d r] [] with
 |some (.str t,_)=>t
 |_=>Str.ofString ""
def hon(r:PyData):Bool:=match d4 25 [.d r] [] with
 |some (.bool b,_)=>b
 |_=>false
structure Shw(r:PyData):Prop where
 p:∀T,ip [.d r] T=some (.str (txt r),T)
 l:∀T,gF [.d r] T=some (.str (txt r),T)
 hp:∀T,d4 25 [.d r] T=some (.bool (hon r),T)
 hl:∀T,iq [.d r] T=some (.bool (hon r),T)
 ln:(txt r).length<=4300
 lo:Lo (txt r)
theorem Ar{ws:List Str}{m:Nat}(h:Wd ws m)(hm:m<=1000):jZ (.str " ") (.list (nl ws))=some (.str (Str.join " " ws))/\(Str.join " " ws).length<=22*m/\Lo (Str.join " " ws):=by
 have c1:(Str.ofString " ").length=1:=by decide
 have s:=A2 (B:=21) h.sz;have ln:=h.ln;have j:=join_le " " ws;rw[c1] at j;refine⟨?_,by omega,Lo.join (vX (by decide +kernel)) h.lo⟩;show (match b9 (nl ws) with|some ys=>if (ys.map fun y:Str=>y.length).sum+ys.length*(Str.ofString " ").length<=16777216 then some (PyData.str (Str.join " " ys)) else none|none=>none)=_;rw[nN];dsimp only;rw[c1,if_pos (by have:(ws.map fun y:Str=>y.length).sum=(ws.map Str.length).sum:=rfl;omega)]
theorem uO(x:Str)(ws:List Str):ft (.str x) (.list (nl ws))=some (.bool (!decide (x∈ws))):=by
 have f:(nl ws).all cK=true:=List.all_eq_true.mpr fun d hd=>by
  obtain⟨y,_,rfl⟩:=List.mem_map.mp hd;rfl
 have g:((nl ws).any fun y=>eqF y (.str x))=decide (x∈ws):=by
  induction ws with
  |nil=>rfl
  |cons a r ih=>
   have ih':=ih (by
    show (nl r).all cK=true
    exact List.all_eq_true.mpr fun d hd=>by
     obtain⟨y,_,rfl⟩:=List.mem_map.mp hd
     rfl)
   show (eqF (.str a) (.str x)||(nl r).any fun y=>eqF y (.str x))=_;rw[ih'];have:eqF (.str a) (.str x)=decide (a=x):=rfl;rw[this]
   by_cases h:a=x
   .simp[h]
   .have h':¬x=a:=fun z=>h z.symm
    simp[h,h']
 show (inS (.str x) (.list (nl ws))).map _=_;unfold inS;simp only[f,g];rfl
theorem shw{p:Bool}{n:Nat}{r:PyData}(h:Rg p 0 n r)(hn:n<=4):Shw r:=by
 obtain⟨ws,hb,v1,v2,v3,v4,v5⟩:=D8 n 0 r h hn (by omega);have q:2^n<=2^4:=Nat.pow_le_pow_right (by decide) hn;obtain⟨j1,j2,j3⟩:=Ar v1 (by omega);have w3:=fun T=>v3 25 T (by omega);have w4:=fun T=>v4 25 T (by omega);have w5:=fun T=>v5 25 T (by omega)
 have e1:∀T,ip [.d r] T=some (.str (Str.join " " ws),T):=fun T=>by simp[ip,w3,j1]
 have e2:txt r=Str.join " " ws:=by unfold txt;rw[e1]
 have e3:hon r=hb:=by unfold hon;rw[w5]
 refine⟨fun T=>by rw[e2];exact e1 T,fun T=>by rw[e2];simp[gF,w4,j1],fun T=>by rw[e3];exact w5 T,fun T=>?_,by rw[e2];omega,by rw[e2];exact j3⟩
 have e4:(!decide (PK∈ws))=hb:=by
  cases hb with
  |true=>rw[decide_eq_false fun z=>nomatch v2.mp z];rfl
  |false=>rw[decide_eq_true (v2.mpr rfl)];rfl
 have e5:=uO PK ws;rw[e4] at e5;unfold PK at e5;rw[e3];simp[iq,w4,e5]
theorem jQ{α:Type}{xs:List α}{i:Int}(h0:0<=i)(h1:i<xs.length):∃x,atI xs i=some x/\x∈xs:=by
 obtain⟨n,rfl⟩:=Int.eq_ofNat_of_zero_le h0
 have hn:n<xs.length:=by omega
 exact⟨xs[n],B8 (List.getElem?_eq_getElem hn),List.getElem_mem hn⟩
@[simp] theorem GO{i j:Int}:ia (.int i) (.int j)=if 0<j/\j<18446744073709551616 then some (.int (i / j)) else none:=rfl
def i7:FS:=ak (aE 5 (ag cO (ag bA (ag aG (ag aG (ag aG (ag cO (aa 3) (fC (.int 999999937))) (ag bA (ag bA (fC (.int 31)) (aa 1)) (aa 1))) (ag bA (fC (.int 7)) (aa 1))) (fC (.int 1))) (fC (.int 48271))) (fC (.int 2147483647)))) (ay (ag cO (ag ia (ag cO (ag bA (ag ia (aa 5) (fC (.int 7))) (fC (.int 69621))) (fC (.int 2147483629))) (fC (.int 5))) (aa 2)))
theorem gc{many:Int}(hm:0<many)(z:Int):0<=z % many/\z % many<many:=⟨Int.emod_nonneg _ (by omega),Int.emod_lt_of_pos _ hm⟩
theorem sQ{ns:List Int}{k many c:Int}{a:Option W}{T:Tp}(hk:0<=k)(hk':k<=100000)(hm:0<many)(ha:a=none\/∃i,a=some (.d (.int i))) :
  ∃r,bu (i7 [some (.d (bI ns)),some (.d (.int k)),some (.d (.int many)),some (.d (.int c)),a,none] T)=some (.int r,T)/\0<=r/\r<many:=by
 refine⟨_,?_,gc hm ((c % 999999937+31*k*k+7*k+1)*48271 % 2147483647 / 7*69621 % 2147483629 / 5)⟩
 rcases ha with rfl|⟨i,rfl⟩
 .simp[i7,hm]
  omega
 .simp[i7,hm]
  omega
theorem cJ(ns:List Int)(k many:Int)(T:Tp)(hk:0<=k:=by omega)(hk':k<=100000:=by omega)(hm:0<many:=by omega)(hl:ns.length<=63:=by omega):∃r,bx [.d (bI ns),.d (.int k),.d (.int many)] T=some (.int r,T)/\0<=r/\r<many:=by
 by_cases h0:ns.length=0
 .obtain⟨r,h,h'⟩:=sQ (ns:=ns) (c:=0) (a:=none) (T:=T) hk hk' hm (.inl rfl)
  refine⟨r,?_,h'⟩;rw[←h];unfold i7;simp[bx,bI,h0]
 .obtain⟨x,hx,_⟩:=jQ (xs:=ns) (i:=k % (ns.length:Int)) (gc (by omega) k).1 (gc (by omega) k).2
  have hx':atI (ns.map PyData.int) (k % (ns.length:Int))=some (.int x):=by
   unfold atI at hx ⊢;rw[List.length_map]
   cases e:ixN ns.length (k % (ns.length:Int)) with
   |none=>rw[e] at hx;cases hx
   |some j=>
    rw[e] at hx;show (ns.map PyData.int)[j]? = _;rw[List.getElem?_map,show ns[j]? = some x from hx];rfl
  have hp:(0:Int)<ns.length:=by omega
  have hpn:0<ns.length:=by omega
  have hd:=Int.ediv_nonneg hk (Int.le_of_lt hp)
  have hp2:(ns.length:Int)<18446744073709551616:=by omega
  have pw:(10:Int)^18=1000000000000000000:=by decide
  have hs:(0:Int)<=7*(if k / (ns.length:Int)<90 then k / (ns.length:Int) else 90):=by split <;> omega
  by_cases hc:1000000000000000000<=x/\127<x / 2^(7*(if k / (ns.length:Int)<90 then k / (ns.length:Int) else 90)).toNat
  .refine⟨_,?_,gc hm (x / 2^(7*(if k / (ns.length:Int)<90 then k / (ns.length:Int) else 90)).toNat)⟩
   simp[bx,bI,hp,hpn,hx',hp2,hs,hc.1,hc.2,hm,pw]
  .obtain⟨r,h,h'⟩:=sQ (ns:=ns) (c:=x) (a:=some (.d (.int (x / 2^(7*(if k / (ns.length:Int)<90 then k / (ns.length:Int) else 90)).toNat)))) (T:=T) hk hk' hm (.inr ⟨_,rfl⟩)
   refine⟨r,?_,h'⟩;rw[←h]
   by_cases h1:1000000000000000000<=x
   .have h2:¬127<x / 2^(7*(if k / (ns.length:Int)<90 then k / (ns.length:Int) else 90)).toNat:=fun z=>hc ⟨h1,z⟩
    unfold i7;simp[bx,bI,hp,hpn,hx',hp2,hs,h1,h2,pw]
   .unfold i7
    simp[bx,bI,hp,hpn,hx',hp2,hs,h1,pw]
structure Nms(xs:List Str):Prop where
 few:4<=xs.length
 most:xs.length<=7
 inm:∀x∈xs,x∈menu
 nd:xs.Nodup
theorem Ag{lo:Int}{n:Nat}{d:PyData}(h:d∈cy lo n):∃i:Int,d=.int i/\lo<=i/\i<lo+n:=by
 obtain⟨i,hi,rfl⟩:=List.mem_map.mp h;have:=List.mem_range.mp hi;exact⟨_,rfl,by omega,by omega⟩
theorem tw{P:Str->Prop}:∀{ys:List PyData},(∀y∈ys,∃x,y=.str x/\P x)->∃xs:List Str,ys=xs.map .str/\∀x∈xs,P x
 |[],_=>⟨[],rfl,fun _ h=>by cases h⟩
 |y::r,h=>by
  obtain⟨x,rfl,p⟩:=h y List.mem_cons_self;obtain⟨xs,rfl,q⟩:=tw (ys:=r) fun z hz=>h z (List.mem_cons_of_mem _ hz)
  exact⟨x::xs,rfl,fun z hz=>by
   rcases List.mem_cons.mp hz with k|k
   .subst k;exact p
   .exact q z k⟩
theorem in4{r:Int}(h0:0<=r)(h1:r<4):r=0\/r=1\/r=2\/r=3:=by omega
theorem BB:menu.Nodup:=by decide +kernel
def eQ(r0 s:Int)(i:Nat):Str:=menu.getD ((r0+s*(i:Int)) % 12).toNat ""
theorem tK(r0 s:Int)(i:Nat):atI (menu.map PyData.str) ((r0+s*(i:Int)) % 12)=some (.str (eQ r0 s i))/\eQ r0 s i∈menu:=by
 have hm:=gc (show (0:Int)<12 by decide) (r0+s*i)
 have hl:((r0+s*(i:Int)) % 12).toNat<menu.length:=by show _<12;omega
 have e:eQ r0 s i=menu[((r0+s*(i:Int)) % 12).toNat]:=by
  unfold eQ;rw[List.getD_eq_getElem?_getD,List.getElem?_eq_getElem hl];rfl
 refine⟨?_,by rw[e];exact List.getElem_mem hl⟩;unfold atI ixN;rw[if_pos hm.1,if_pos (by show _<(12:Int);exact hm.2)];show (menu.map PyData.str)[((r0+s*(i:Int)) % 12).toNat]? = _;rw[List.getElem?_map,List.getElem?_eq_getElem hl,e];rfl
theorem Ai{r0 s:Int}(hs:s=1\/s=5\/s=7\/s=11){i j:Nat}(hi:i<7)(hj:j<7)(h:eQ r0 s i=eQ r0 s j):i=j:=by
 have hm:=gc (show (0:Int)<12 by decide) (r0+s*i);have hm':=gc (show (0:Int)<12 by decide) (r0+s*j)
 have hl:((r0+s*(i:Int)) % 12).toNat<menu.length:=by show _<12;omega
 have hl':((r0+s*(j:Int)) % 12).toNat<menu.length:=by show _<12;omega
 have e:menu[((r0+s*(i:Int)) % 12).toNat]=menu[((r0+s*(j:Int)) % 12).toNat]:=by
  unfold eQ at h;rw[List.getD_eq_getElem?_getD,List.getElem?_eq_getElem hl,List.getD_eq_getElem?_getD,List.getElem?_eq_getElem hl'] at h;exact h
 have e2:=(List.getElem_inj BB).mp e
 have e3:(r0+s*(i:Int)) % 12=(r0+s*(j:Int)) % 12:=by omega
 rcases hs with rfl|rfl|rfl|rfl <;> omega
theorem Cd(ns:List Int)(k:Int)(T:Tp)(hk:0<=k)(hk':k<=90000)(hl:ns.length<=63):∃xs,ja [.d (bI ns),.d (.int k)] T=some (.list (xs.map .str),T)/\Nms xs:=by
 obtain⟨r0,e0,a0,b0⟩:=cJ ns k 12 T;obtain⟨r1,e1,a1,b1⟩:=cJ ns (k+1) 4 T;obtain⟨r2,e2,a2,b2⟩:=cJ ns (k+2) 4 T
 have st:∃s:Int,atI [PyData.int 1,.int 5,.int 7,.int 11] r1=some (.int s)/\(s=1\/s=5\/s=7\/s=11):=by
  rcases in4 a1 b1 with rfl|rfl|rfl|rfl
  .exact⟨1,rfl,by decide⟩
  .exact⟨5,rfl,by decide⟩
  .exact⟨7,rfl,by decide⟩
  .exact⟨11,rfl,by decide⟩
 obtain⟨s,e3,a3⟩:=st
 have hc:bE bv (ag ixD (aa 3) (ag cO (ag aG (aa 4) (ag bA (aa 5) (aa 0))) (fC (.int 12)))) [some (.d (bI ns)),some (.d (.int k)),some (.d (.list (menu.map .str))),some (.d (.int r0)),some (.d (.int s))] (cy 0 (4+r2).toNat) T=some (((List.range (4+r2).toNat).map (eQ r0 s)).map .str,T):=by
  have go:∀l:List Nat,(∀i∈l,i<7)->bE bv (ag ixD (aa 3) (ag cO (ag aG (aa 4) (ag bA (aa 5) (aa 0))) (fC (.int 12)))) [some (.d (bI ns)),some (.d (.int k)),some (.d (.list (menu.map .str))),some (.d (.int r0)),some (.d (.int s))] (l.map fun(i:Nat)=>PyData.int (0+(i:Int))) T=some ((l.map (eQ r0 s)).map .str,T):=fun l=>by
   induction l with
   |nil=>intro _;rfl
   |cons i l ih=>
    intro hi;have ih':=ih fun j hj=>hi j (List.mem_cons_of_mem _ hj);have h7:=hi i List.mem_cons_self;have f1:=(tK r0 s i).1
    have hb:(-18446744073709551616<s/\s<18446744073709551616):=by omega
    have e0:(0:Int)+(i:Int)=(i:Int):=by omega
    simp only[List.map_cons,e0] at ih' ⊢;unfold bE;simp[hb,f1];simp[e0] at ih';simp[ih']
  exact go _ fun i hi=>by have:=List.mem_range.mp hi;omega
 have h4:gk (4+r2)=true:=mO (by omega) (by omega);refine⟨(List.range (4+r2).toNat).map (eQ r0 s),?_,⟨by simp;omega,by simp;omega,fun x hx=>?_,?_⟩⟩
 .unfold menu at hc
  simp only[List.map_cons,List.map_nil] at hc;simp[ja,e0,e1,e2,e3,h4,hc]
 .obtain⟨i,_,rfl⟩:=List.mem_map.mp hx
  exact(tK r0 s i).2
 .exact List.pairwise_map.mpr (List.Pairwise.imp_of_mem (fun {i j} hi hj hne h=>hne (Ai a3 (by have:=List.mem_range.mp hi;omega) (by have:=List.mem_range.mp hj;omega) h)) List.nodup_range)
def gp:List PyData:=[PyData.int 0,.int 1,.int 2,.int (-3),.str "",.str "a",.str "-0",.tuple [],.tuple [.int 1,.str "b"],.tuple [.str "a",.tuple [.int 0]],.int 1000000000000000000,.int 1,.int 0]
def il:List PyData:=gp++menu.map PyData.str
def Pv(v:PyData):Prop:=VV v/\(mk (cst 4 v)).length<=21
theorem fW{v:PyData}(h:v∈il):Pv v:=by
 unfold il at h
 rcases List.mem_append.mp h with h|h
 .simp only[gp,List.mem_cons,List.not_mem_nil,or_false] at h
  rcases h with h|h|h|h|h|h|h|h|h|h|h|h|h <;> subst h
  .exact⟨.int (by decide +kernel),by decide +kernel⟩
  .exact⟨.int (by decide +kernel),by decide +kernel⟩
  .exact⟨.int (by decide +kernel),by decide +kernel⟩
  .exact⟨.int (by decide +kernel),by decide +kernel⟩
  .exact⟨.str (by decide +kernel),by decide +kernel⟩
  .exact⟨.str (by decide +kernel),by decide +kernel⟩
  .exact⟨.str (by decide +kernel),by decide +kernel⟩
  .exact⟨.tup (by simp) (fun d hd=>nomatch hd),by decide +kernel⟩
  .refine⟨.tup (by simp) fun d hd=>?_,by decide +kernel⟩
   simp only[List.mem_cons,List.not_mem_nil,or_false] at hd
   rcases hd with rfl|rfl
   .exact .int (by decide +kernel)
   .exact .str (by decide +kernel)
  .refine⟨.tup (by simp) fun d hd=>?_,by decide +kernel⟩
   simp only[List.mem_cons,List.not_mem_nil,or_false] at hd
   rcases hd with rfl|rfl
   .exact .str (by decide +kernel)
   .refine .tup (by simp) fun d hd=>?_
    simp only[List.mem_cons,List.not_mem_nil,or_false] at hd;subst hd;exact .int (by decide +kernel)
  .exact⟨.int (by decide +kernel),by decide +kernel⟩
  .exact⟨.int (by decide +kernel),by decide +kernel⟩
  .exact⟨.int (by decide +kernel),by decide +kernel⟩
 .obtain⟨y,hy,rfl⟩:=List.mem_map.mp h
  simp only[menu,List.mem_cons,List.not_mem_nil,or_false] at hy
  rcases hy with h|h|h|h|h|h|h|h|h|h|h|h <;> subst h <;> exact⟨.str (by decide +kernel),by decide +kernel⟩
theorem kT(ns:List Int)(k:Int)(xs:List Str)(N:Nms xs)(T:Tp)(hk:0<=k:=by omega)(hk':k<=90000:=by omega)(hl:ns.length<=63:=by omega):∃x,eX [.d (bI ns),.d (.int k),.d (.list (xs.map .str))] T=some (x,T)/\x∈il:=by
 have n1:=N.most;obtain⟨r,e,a,b⟩:=cJ ns k (13+(xs.length:Int)) T;obtain⟨x,h1,h2⟩:=jQ (xs:=gp++xs.map PyData.str) (i:=r) a (by simp[gp];omega);refine⟨x,?_,?_⟩
 .have hz:13+xs.length<=sizeLine:=by rw[sz];omega
  have hz':(xs.length:Int)+1+1+1+1+1+1+1+1+1+1+1+1+1=13+(xs.length:Int):=by omega
  simp[gp] at h1;simp[eX,hz,hz',e,h1]
 .unfold il
  rcases List.mem_append.mp h2 with h|h
  .exact List.mem_append_left _ h
  .obtain⟨y,hy,rfl⟩:=List.mem_map.mp h
   exact List.mem_append_right _ (List.mem_map.mpr ⟨y,N.inm y hy,rfl⟩)
abbrev exP(v:PyData):PyData:=.tuple [.str "put",v]
abbrev exG(k:Int):PyData:=.tuple [.str "got",.int k]
abbrev ex2(w:String)(a b:PyData):PyData:=.tuple [.str (Str.ofString w),a,b]
abbrev exR(a b:PyData):PyData:=.tuple [.str "row",.tuple [a,b]]
abbrev cC(e:PyData):PyData:=.tuple [.str "say",e]
abbrev EN(w:Str):PyData:=.tuple [.str "fail",.str w]
abbrev cW(e r:PyData):PyData:=.tuple [.str "want",e,r]
abbrev lW(e r:PyData):PyData:=.tuple [.str "peek",e,r]
abbrev pj(e p q:PyData):PyData:=.tuple [.str "when",e,p,q]
theorem FG{r:Int}(h0:0<=r)(h1:r<10):r=0\/r=1\/r=2\/r=3\/r=4\/r=5\/r=6\/r=7\/r=8\/r=9:=by omega
theorem FF{r:Int}(h0:0<=r)(h1:r<12):r=0\/r=1\/r=2\/r=3\/r=4\/r=5\/r=6\/r=7\/r=8\/r=9\/r=10\/r=11:=by omega
theorem in3{r:Int}(h0:0<=r)(h1:r<3):r=0\/r=1\/r=2:=by omega
theorem v_1:Pv (.int 1):=fW (by simp[il,gp])
theorem v_0:Pv (.int 0):=fW (by simp[il,gp])
theorem v_a:Pv (.str "a"):=fW (by simp[il,gp])
theorem wC{x:Str}(h:x∈menu):Pv (.str x):=fW (List.mem_append_right _ (List.mem_map.mpr ⟨x,h,rfl⟩))
theorem g0{k n:Nat}(h:0<k):Ex (k:Int) n (exG 0):=.got (by omega) (by omega)
theorem g1{k n:Nat}(h:1<k):Ex (k:Int) n (exG 1):=.got (by omega) (by omega)
theorem vd{m:Int}{n:Nat}{a b:PyData}(ha:Ex m n a)(hb:Ex m n b):Ex m (n+1) (exR a b):=.row (by simp) fun e he=>by
 simp only[List.mem_cons,List.not_mem_nil,or_false] at he
 rcases he with rfl|rfl
 .exact ha
 .exact hb
theorem D1(ns:List Int)(k:Int)(xs:List Str)(N:Nms xs)(T:Tp)(hk:0<=k:=by omega)(hk':k<=80000:=by omega)(hl:ns.length<=63:=by omega):∃e,ki [.d (bI ns),.d (.int k),.d (.list (xs.map .str))] T=some (e,T)/\Ex ((1:Nat):Int) 1 e:=by
 obtain⟨v,ev,hv⟩:=kT ns (k+1) xs N T;obtain⟨r,er,a,b⟩:=cJ ns k 10 T;have hv:=fW hv
 have z:(5:Nat)+5<=sizeLine:=by decide
 have all:∃e,atI [exG 0,ex2 "sum" (exG 0) (exP (.int 1)),ex2 "join" (exG 0) (exP (.str "a")),.tuple [.str "many",exG 0],ex2 "same" (exG 0) (exP v),exR (exG 0) (exP v),ex2 "part" (exG 0) (exP (.int 0)),ex2 "less" (exG 0) (exP (.int 1)),.tuple [.str "many",exG 0],exG 0] r=some e/\Ex ((1:Nat):Int) 1 e:=by
  have g:=fun n=>g0 (k:=1) (n:=n) (by decide)
  rcases FG a b with rfl|rfl|rfl|rfl|rfl|rfl|rfl|rfl|rfl|rfl
  .exact⟨_,rfl,g 1⟩
  .exact⟨_,rfl,.pair (by simp[PW]) (g 0) (.put v_1) (fun z=>absurd z (by decide))⟩
  .exact⟨_,rfl,.pair (by simp[PW]) (g 0) (.put v_a) (fun _=>⟨_,rfl⟩)⟩
  .exact⟨_,rfl,.many (g 0)⟩
  .exact⟨_,rfl,.pair (by simp[PW]) (g 0) (.put hv) (fun z=>absurd z (by decide))⟩
  .exact⟨_,rfl,vd (g 0) (.put hv)⟩
  .exact⟨_,rfl,.pair (by simp[PW]) (g 0) (.put v_0) (fun z=>absurd z (by decide))⟩
  .exact⟨_,rfl,.pair (by simp[PW]) (g 0) (.put v_1) (fun z=>absurd z (by decide))⟩
  .exact⟨_,rfl,.many (g 0)⟩
  .exact⟨_,rfl,g 1⟩
 obtain⟨e,ee,he⟩:=all;refine⟨e,?_,he⟩;simp[ki,ev,z,er,ee]
theorem pf(ns:List Int)(k:Int)(xs:List Str)(N:Nms xs)(T:Tp)(hk:0<=k:=by omega)(hk':k<=90000:=by omega)(hl:ns.length<=63:=by omega):∃r x,bx [.d (bI ns),.d (.int k),.d (.int (xs.length:Int))] T=some (.int r,T)/\atI (xs.map PyData.str) r=some (.str x)/\x∈menu:=by
 have n1:=N.few;obtain⟨r,e,a,b⟩:=cJ ns k (xs.length:Int) T;obtain⟨x,h1,h2⟩:=jQ (xs:=xs.map PyData.str) (i:=r) a (by simpa using b);obtain⟨y,hy,rfl⟩:=List.mem_map.mp h2;exact⟨r,y,e,h1,N.inm y hy⟩
theorem kE{x:Str}(h:x∈menu):isName (.str x)=true/\x≠Str.ofString "peek":=by
 simp only[menu,List.mem_cons,List.not_mem_nil,or_false] at h
 rcases h with h|h|h|h|h|h|h|h|h|h|h|h <;> subst h <;> exact⟨by decide +kernel,by decide +kernel⟩
theorem AV(ns:List Int)(k w:Int)(xs:List Str)(N:Nms xs)(T:Tp)(hw0:0<w)(hw:w<=12)(hk:0<=k:=by omega)(hk':k<=70000:=by omega)(hl:ns.length<=63:=by omega):∃r,i9 [.d (bI ns),.d (.int k),.d (.list (xs.map .str)),.d (.int w)] T=some (r,T)/\Rg true 0 4 r:=by
 obtain⟨r0,n0,e0,f0,m0⟩:=pf ns k xs N T;obtain⟨r1,n1,e1,f1,m1⟩:=pf ns (k+1) xs N T;obtain⟨v,e2,hv⟩:=kT ns (k+2) xs N T;have hv:=fW hv;obtain⟨x,e3,hx⟩:=D1 ns (k+3) xs N T;obtain⟨r5,e5,a5,b5⟩:=cJ ns (k+5) 3 T;obtain⟨r6,n6,e6,f6,m6⟩:=pf ns (k+6) xs N T;obtain⟨r7,e7,a7,b7⟩:=cJ ns (k+7) w T
 have hb:∃b,atI [exR (exG 0) (exG 1),ex2 "same" (exG 0) (exG 1),ex2 "sum" (exG 1) (exG 0)] r5=some b/\Ex ((2:Nat):Int) 1 b:=by
  have p:=fun n=>g0 (k:=2) (n:=n) (by decide);have q:=fun n=>g1 (k:=2) (n:=n) (by decide)
  rcases in3 a5 b5 with rfl|rfl|rfl
  .exact⟨_,rfl,vd (p 0) (q 0)⟩
  .exact⟨_,rfl,.pair (by simp[PW]) (p 0) (q 0) (fun z=>absurd z (by decide))⟩
  .exact⟨_,rfl,.pair (by simp[PW]) (q 0) (p 0) (fun z=>absurd z (by decide))⟩
 obtain⟨b,eb,hb⟩:=hb;have p0:∀{m:Int},Ex m 1 (exP (.str n0)):=.put (wC m0);have p1:∀{m:Int},Ex m 1 (exP (.str n1)):=.put (wC m1);have W:("want" : String)="want"\/(("want" : String)="peek"/\true=true):=.inl rfl;have P:("peek" : String)="want"\/(("peek" : String)="peek"/\true=true):=.inr ⟨rfl,rfl⟩;have say2:∀{n:Nat},Rg true 2 (n+1) (cC b):=.say hb;have later:∀{n:Nat},Rg true 1 (n+2) (cW (exP (.str n1)) (cC (exG 1))):=.ask W (by decide) p1 (.say (g1 (by decide)));have sayv:∀{g n:Nat},Rg true g (n+1) (cC (exP v)):=.say (.put hv);have whn:∀{n:Nat},Rg true 1 (n+3) (pj x (cW (exP (.str n1)) (cC (exG 1))) (cC (exP v))):=.whn hx later sayv
 have all:∃r,atI [cC (exP v),cW (exP (.str n0)) (cC x),cW (exP (.str n0)) (cW (exP (.str n1)) (cC b)),cW (exP (.str n0)) (cC x),cW (exP (.str n0)) (pj x (cW (exP (.str n1)) (cC (exG 1))) (cC (exP v))),cW (exP (.str n0)) (cW (exG 0) (cC (exG 1))),EN n6,cW (exP (.str n0)) (cW (exP (.str n0)) (cC b)),
   lW (exP (.str n0)) (cC x),lW (exP (.str n0)) (pj x (cW (exP (.str n1)) (cC (exG 1))) (cC (exP v))),cW (exP (.str n0)) (lW (exP (.str n1)) (cC b)),lW (exP (.str n0)) (cW (exP (.str n1)) (cC b))] r7=some r/\Rg true 0 4 r:=by
  rcases FF a7 (by omega) with rfl|rfl|rfl|rfl|rfl|rfl|rfl|rfl|rfl|rfl|rfl|rfl
  .exact⟨_,rfl,sayv⟩
  .exact⟨_,rfl,.ask W (by decide) p0 (.say hx)⟩
  .exact⟨_,rfl,.ask W (by decide) p0 (.ask W (by decide) p1 say2)⟩
  .exact⟨_,rfl,.ask W (by decide) p0 (.say hx)⟩
  .exact⟨_,rfl,.ask W (by decide) p0 whn⟩
  .exact⟨_,rfl,.ask W (by decide) p0 (.ask W (by decide) (g0 (by decide)) (.say (g1 (by decide))))⟩
  .exact⟨_,rfl,.fail (kE m6)⟩
  .exact⟨_,rfl,.ask W (by decide) p0 (.ask W (by decide) p0 say2)⟩
  .exact⟨_,rfl,.ask P (by decide) p0 (.say hx)⟩
  .exact⟨_,rfl,.ask P (by decide) p0 whn⟩
  .exact⟨_,rfl,.ask W (by decide) p0 (.ask P (by decide) p1 say2)⟩
  .exact⟨_,rfl,.ask P (by decide) p0 (.ask W (by decide) p1 say2)⟩
 obtain⟨r,er,hr⟩:=all;refine⟨r,?_,hr⟩
 .have z1:(4:Nat)+2<=sizeLine:=by decide
  have z2:(6:Nat)+2<=sizeLine:=by decide
  have z3:(8:Nat)+2<=sizeLine:=by decide
  have z4:(10:Nat)+2<=sizeLine:=by decide
  simp[i9,e0,f0,e1,f1,e2,e3,e5,eb,e6,f6,z1,z2,z3,z4,e7,er]
structure Dn(ds:Dc)(P:Str->PyData->Prop):Prop where
 kp:∀q∈ds,∃x v,q=(.str x,v)/\P x v
 nd:(ds.map (·.1)).Nodup
theorem yw{x y:Str}{v:PyData}{r:Dc}:av ((.str y,v)::r) x=if y=x then some v else av r x:=rfl
theorem Dn.mem{P:Str->PyData->Prop}{x:Str}{v:PyData}:∀{ds:Dc},Dn ds P->(.str x,v)∈ds->av ds x=some v
 |q::r,h,hm=>by
  obtain⟨y,u,rfl,_⟩:=h.kp q List.mem_cons_self;have nd:=List.nodup_cons.mp h.nd;rw[yw]
  rcases List.mem_cons.mp hm with e|e
  .cases e
   rw[if_pos rfl]
  .have:y≠x:=fun z=>nd.1 (by subst z;exact List.mem_map.mpr ⟨_,e,rfl⟩)
   rw[if_neg this];exact Dn.mem ⟨fun q hq=>h.kp q (List.mem_cons_of_mem _ hq),nd.2⟩ e
theorem Dn.get{P:Str->PyData->Prop}{ds:Dc}(h:Dn ds P){x:Str}{v:PyData}(e:av ds x=some v):P x v:=by
 obtain⟨y,u,q,p⟩:=h.kp _ (fT e);cases q;exact p
theorem Dn.key{P:Str->PyData->Prop}{ds:Dc}(h:Dn ds P){x:Str} : .str x∈ds.map (·.1)↔∃v,av ds x=some v:=by
 constructor
 .intro hx
  obtain⟨q,hq,e⟩:=List.mem_map.mp hx;obtain⟨y,u,rfl,_⟩:=h.kp q hq;cases e;exact⟨u,h.mem hq⟩
 .rintro⟨v,e⟩
  exact List.mem_map.mpr ⟨_,fT e,rfl⟩
theorem Dn.app{P:Str->PyData->Prop}{ds:Dc}(h:Dn ds P){x:Str}{v:PyData}(hv:P x v)(hx : .str x∉ds.map (·.1)):Dn (ds++[(.str x,v)]) P where
 kp:=fun q hq=>(List.mem_append.mp hq).elim (h.kp q) fun z=>⟨x,v,List.mem_singleton.mp z,hv⟩
 nd:=by
  rw[List.map_append,List.nodup_append];refine⟨h.nd,by simp,fun a ha b hb=>?_⟩;simp at hb;subst hb;exact fun z=>hx (z ▸ ha)
theorem jr{ds:Dc}{x:Str}{v:PyData}(hx : .str x∉ds.map (·.1)):putN ds x v=ds++[(.str x,v)]:=by
 unfold putN;rw[jv hx,if_neg (by simp)]
theorem Dn.nil{P:Str->PyData->Prop}:Dn [] P:=⟨(fun q hq=>nomatch hq),List.nodup_nil⟩
theorem oQ{i:Nat}{body:FS}{I:Nat->Rho->Tp->Prop}:∀(ds:List PyData) (k:Nat) (ρ:Rho) (T:Tp),I k ρ T ->
  (∀j d ρ T,ds[j]? = some d->I (k+j) ρ T->∃ρ' T',body (ρ.set i (some (.d d))) T=some ((.nx,ρ'),T')/\I (k+j+1) ρ' T')->∃ρ' T',forL i body ds ρ T=some ((.nx,ρ'),T')/\I (k+ds.length) ρ' T'
 |[],k,ρ,T,h,_=>⟨ρ,T,rfl,h⟩
 |d::r,k,ρ,T,h,hs=>by
  obtain⟨ρ1,T1,e1,h1⟩:=hs 0 d ρ T rfl h
  obtain⟨ρ2,T2,e2,h2⟩:=oQ (body:=body) (I:=I) r (k+1) ρ1 T1 h1 fun j d ρ T hd hI=>by
   rw[show k+1+j=k+(j+1) by omega] at hI ⊢;exact hs (j+1) d ρ T (by simpa using hd) hI
  refine⟨ρ2,T2,?_,by rw[List.length_cons,show k+(r.length+1)=k+1+r.length by omega];exact h2⟩;unfold forL;rw[e1];exact e2
theorem tI{n j:Nat}{d:PyData}(h:(cy 0 n)[j]? = some d):d=.int (j:Int)/\j<n:=by
 unfold cy at h;rw[List.getElem?_map] at h
 cases q:(List.range n)[j]? with
 |none=>rw[q] at h;cases h
 |some i=>
  rw[q] at h;cases h
  have hj:j<n:=by
   have:=(List.getElem?_eq_some_iff.mp q).1;simpa using this
  rw[List.getElem?_range hj] at q;cases q;exact⟨by simp,hj⟩
structure BI(xs:List Str)(j:Nat)(D R:Dc):Prop where
 d:Dn D fun _ v=>VV v
 r:Dn R fun _ r=>Rg true 0 4 r
 dk:∀x,.str x∈D.map (·.1)->x∈xs.take j
 rk:∀x,.str x∈R.map (·.1)->x∈xs.take j
 dj:∀x,.str x∈R.map (·.1)->.str x∉D.map (·.1)
 ln:D.length+R.length<=j
theorem BI.bk{xs:List Str}{j:Nat}{D R:Dc}(h:BI xs j D R)(hj:j<=900){E:Dc}(hE:Dn E fun _ v=>VV v)(ek:E.map (·.1)=D.map (·.1)):Bk true 4 E R where
 dk:=fun q hq=>hE.kp q hq
 rk:=fun q hq=>by
  obtain⟨x,r,rfl,p⟩:=h.r.kp q hq;refine⟨x,r,rfl,p,h.r.mem hq,jv ?_⟩;rw[ek];exact h.dj x (List.mem_map.mpr ⟨_,hq,rfl⟩)
 rnd:=h.r.nd
 len:=by
  have:=h.ln
  have e:E.length=D.length:=by have:=congrArg List.length ek;simpa using this
  omega
 n20:=by decide
theorem take_succ{xs:List Str}{j:Nat}{x:Str}(h:xs[j]? = some x):xs.take (j+1)=xs.take j++[x]:=by
 rw[List.take_succ,h];rfl
theorem r8{xs:List Str}{j:Nat}{x:Str}(nd:xs.Nodup)(h:xs[j]? = some x):x∉xs.take j:=fun z=>by
 have e:=List.take_append_drop j xs
 have hd:x∈xs.drop j:=by
  rw[List.mem_iff_getElem?];exact⟨0,by rw[List.getElem?_drop];exact h⟩
 rw[←e,List.nodup_append] at nd;exact nd.2.2 x z x hd rfl
def ρB(ns:List Int)(k:Int)(xs:List Str)(w:Int)(D R:Dc)(o:Option W):Rho:=[some (.d (bI ns)),some (.d (.int k)),some (.d (.list (xs.map .str))),some (.d (.int w)),some (.loc (.dict D)),some (.loc (.dict R)),o]
theorem vB{xs:List Str}{j:Nat}{x:Str}(h:xs[j]? = some x):atI (xs.map PyData.str) (j:Int)=some (.str x):=by
 have hj:=(List.getElem?_eq_some_iff.mp h).1;unfold atI ixN;rw[if_pos (by omega),if_pos (by simp;omega)];show (xs.map PyData.str)[(j:Int).toNat]? = _;rw[List.getElem?_map,show ((j:Int).toNat)=j by omega,h];rfl
theorem D2(ns:List Int)(w:Int)(xs:List Str)(N:Nms xs)(T:Tp)(hw0:0<w)(hw:w<=12)(hl:ns.length<=63):∃D R,jj [.d (bI ns),.d (.int 10),.d (.list (xs.map .str)),.d (.int w)] T=some (bkD D R,T)/\BI xs (xs.length-1) D R:=by
 have n7:=N.most;have n4:=N.few
 obtain⟨ρ',T',e,D,R,o,rfl,rfl,h⟩:=oQ (i:=6) (body:=kJ) (I:=fun j ρ T1=>∃D R o,ρ=ρB ns 10 xs w D R o/\T1=T/\BI xs j D R) (cy 0 (xs.length-1)) 0 (ρB ns 10 xs w [] [] none) T ⟨[],[],none,rfl,rfl,⟨.nil,.nil,(fun _ z=>nomatch z),(fun _ z=>nomatch z),(fun _ z=>nomatch z),Nat.le_refl _⟩⟩ fun j d ρ T1 hd hI=>by
  obtain⟨D,R,o,rfl,rfl,h⟩:=hI;rw[Nat.zero_add] at h ⊢;obtain⟨rfl,hj⟩:=tI hd;obtain⟨x,hx⟩:∃x,xs[j]? = some x:=⟨_,List.getElem?_eq_getElem (by omega)⟩;have a1:=vB hx;have hnx:=r8 N.nd hx;have hnd : .str x∉D.map (·.1):=fun z=>hnx (h.dk x z);have hnr : .str x∉R.map (·.1):=fun z=>hnx (h.rk x z);have ts:=take_succ hx
  have mono:∀y,y∈xs.take j->y∈xs.take (j+1):=fun y hy=>by rw[ts];exact List.mem_append_left _ hy
  have hxt:x∈xs.take (j+1):=by rw[ts];simp
  obtain⟨r0,e0,c0,c1⟩:=cJ ns (10+10*(j:Int)) 3 T1;have hlen:=h.ln
  have dl:D.length<=1000:=by omega
  have rl:R.length<=1000:=by omega
  by_cases z:r0=0
  .obtain⟨v,ev,hv⟩:=kT ns (10+10*(j:Int)+1) xs N T1
   subst z;refine⟨ρB ns 10 xs w (D++[(.str x,v)]) R (some (.d (.int j))),T1,?_,D++[(.str x,v)],R,_,rfl,rfl,⟨h.d.app (fW hv).1 hnd,h.r,fun y hy=>?_,fun y hy=>mono y (h.rk y hy),fun y hy hy'=>?_,by simp;omega⟩⟩
   .rw[←jr hnd]
    simp[kJ,ρB,e0,a1,ev,dl]
   .rw[List.map_append] at hy
    rcases List.mem_append.mp hy with hy|hy
    .exact mono y (h.dk y hy)
    .simp at hy
     rw[hy];exact hxt
   .rw[List.map_append] at hy'
    rcases List.mem_append.mp hy' with hy' | hy'
    .exact h.dj y hy hy'
    .simp at hy'
     rw[hy'] at hy;exact hnr hy
  .obtain⟨r,er,hr⟩:=AV ns (10+10*(j:Int)+2) w xs N T1 hw0 hw
   refine⟨ρB ns 10 xs w D (R++[(.str x,r)]) (some (.d (.int j))),T1,?_,D,R++[(.str x,r)],_,rfl,rfl,⟨h.d,h.r.app hr hnr,fun y hy=>mono y (h.dk y hy),fun y hy=>?_,fun y hy=>?_,by simp;omega⟩⟩
   .rw[←jr hnr]
    simp[kJ,ρB,e0,z,a1,er,rl]
   .rw[List.map_append] at hy
    rcases List.mem_append.mp hy with hy|hy
    .exact mono y (h.rk y hy)
    .simp at hy
     rw[hy];exact hxt
   .rw[List.map_append] at hy
    rcases List.mem_append.mp hy with hy|hy
    .exact h.dj y hy
    .simp at hy
     rw[hy];exact hnd
 rw[nA,Nat.zero_add] at h;refine⟨D,R,?_,h⟩
 have h1:((xs.length:Int)-1).toNat=xs.length-1:=by omega
 have h2:gk ((xs.length:Int)-1)=true:=mO (by omega) (by omega);rw[zd];unfold ρB at e;simp[h1,h2,e,bkD]
theorem yW{ds:Dc}{x:Str}{v u:PyData}(h:av ds x=some u):(putN ds x v).map (·.1)=ds.map (·.1)/\∀q∈putN ds x v,q∈ds\/q=(.str x,v):=by
 unfold putN;rw[h,if_pos (by rfl)];clear h
 induction ds with
 |nil=>exact⟨rfl,fun q hq=>.inl hq⟩
 |cons q r ih=>
  obtain⟨k,d⟩:=q
  have other:∀k,bD ((k,d)::r) x v=(k,d)::bD r x v->(bD ((k,d)::r) x v).map (·.1)=((k,d)::r).map (·.1)/\∀q∈bD ((k,d)::r) x v,q∈(k,d)::r\/q=(.str x,v):=fun k e=>by
   rw[e];refine⟨by rw[List.map_cons,List.map_cons,ih.1],fun q hq=>?_⟩
   rcases List.mem_cons.mp hq with z|z
   .exact .inl (by rw[z];exact List.mem_cons_self)
   .exact(ih.2 q z).imp (List.mem_cons_of_mem _) id
  cases k with
  |str y=>
   by_cases hy:y=x
   .have e:bD ((.str y,d)::r) x v=(.str y,v)::bD r x v:=by
     show (if y=x then _ else _)=_;rw[if_pos hy]
    rw[e];refine⟨by rw[List.map_cons,List.map_cons,ih.1],fun q hq=>?_⟩
    rcases List.mem_cons.mp hq with z|z
    .exact .inr (by rw[z,hy])
    .exact(ih.2 q z).imp (List.mem_cons_of_mem _) id
   .refine other _ ?_
    show (if y=x then _ else _)=_;rw[if_neg hy]
  |_=>exact other _ rfl
def ρEl(ns:List Int)(xs:List Str)(D R E:Dc)(o:Option W):Rho:=[some (.d (bI ns)),some (.d (.int 100)),some (.d (.list (xs.map .str))),some (.d (bkD D R)),some (.loc (.dict E)),o]
theorem Ck(ns:List Int)(xs:List Str)(N:Nms xs)(T:Tp)(hl:ns.length<=63){j:Nat}{D R:Dc}(hB:BI xs j D R)(hj:j<=7):∃E,jb [.d (bI ns),.d (.int 100),.d (.list (xs.map .str)),.d (bkD D R)] T=some (bkD E R,T)/\Dn E (fun _ v=>VV v)/\E.map (·.1)=D.map (·.1):=by
 have hlen:=hB.ln
 have go:∀(rest P E:Dc) (o:Option W),D=P++rest->Dn E (fun _ v=>VV v)->E.map (·.1)=P.map (·.1)->∃E' o',forL 5 kq (rest.map (·.1)) (ρEl ns xs D R E o) T=some ((.nx,ρEl ns xs D R E' o'),T)/\Dn E' (fun _ v=>VV v)/\E'.map (·.1)=D.map (·.1):=by
  intro rest
  induction rest with
  |nil=>exact fun P E o e hE ek=>⟨E,o,rfl,hE,by rw[ek,e];simp⟩
  |cons q rest ih=>
   intro P E o e hE ek
   have hq:q∈D:=by rw[e];simp
   obtain⟨x,v,rfl,hv⟩:=hB.d.kp q hq;have hk:=hB.d.mem hq
   have eE:E.length=P.length:=by have:=congrArg List.length ek;simpa using this
   have eD:D.length=P.length+(rest.length+1):=by rw[e];simp
   have hx : .str x∉E.map (·.1):=fun z=>by
    have nd:=hB.d.nd;rw[e,List.map_append,List.nodup_append] at nd;exact nd.2.2 (.str x) (ek ▸ z) (.str x) (by simp) rfl
   have h1:=hE.app (P:=fun _ v=>VV v) hv hx;have k1:av (E++[(.str x,v)]) x=some v:=h1.mem (by simp)
   have l1:E.length<=1000:=by omega
   have l2:(E++[(PyData.str x,v)]).length<=1000:=by simp;omega
   have l4:E.length<=999:=by omega
   have l3:((E++[(PyData.str x,v)]).length:Int)=(E.length:Int)+1:=by simp
   obtain⟨r0,e0,c0,c1⟩:=cJ ns (100+2*((E.length:Int)+1)) 2 T;have pn:putN E x v=E++[(.str x,v)]:=jr hx
   by_cases z:r0=0
   .obtain⟨u,eu,hu⟩:=kT ns (101+2*((E.length:Int)+1)) xs N T
    subst z;obtain⟨p1,p2⟩:=yW (v:=u) k1;have h2:Dn (putN (E++[(.str x,v)]) x u) fun _ v=>VV v:=⟨fun q hq=>(p2 q hq).elim (h1.kp q) fun z=>⟨x,u,z,(fW hu).1⟩,by rw[p1];exact h1.nd⟩;obtain⟨E',o',f1,f2,f3⟩:=ih (P++[(.str x,v)]) (putN (E++[(.str x,v)]) x u) (some (.d (.str x))) (by rw[e];simp) h2 (by rw[p1,List.map_append,List.map_append,ek]);refine⟨E',o',?_,f2,f3⟩;rw[List.map_cons,cU (ρ':=ρEl ns xs D R (putN (E++[(.str x,v)]) x u) (some (.d (.str x)))),f1];rw[ρEl,ρEl];simp[kq,bkD,hk,pn,e0,eu,l1,l2,l3,l4]
   .obtain⟨E',o',f1,f2,f3⟩:=ih (P++[(.str x,v)]) (E++[(.str x,v)]) (some (.d (.str x))) (by rw[e];simp) h1 (by rw[List.map_append,List.map_append,ek])
    refine⟨E',o',?_,f2,f3⟩;rw[List.map_cons,cU (ρ':=ρEl ns xs D R (E++[(.str x,v)]) (some (.d (.str x)))),f1];rw[ρEl,ρEl];simp[kq,bkD,hk,pn,e0,z,l1,l2,l3]
 obtain⟨E,o,e,h1,h2⟩:=go D [] [] none rfl .nil rfl;refine⟨E,?_,h1,h2⟩;rw[yv];unfold ρEl at e;simp[bkD] at e ⊢;simp[e]
structure Pl(d:PyData)(k n:Nat):Prop where
 sh:Sh d k n
 cl:d.canLay0=true
theorem Pl.mono{d:PyData}{k n k' n':Nat}(h:Pl d k n)(hk:k<=k')(hn:n<=n'):Pl d k' n':=⟨h.sh.mono hk hn,h.cl⟩
theorem Pl.str{x:Str}{n:Nat}(h:∀c∈x.cps.toList,c<128)(hn:x.length<=n)(hl:x.length<=60000):Pl (.str x) 0 n:=⟨Sh.str h hn,(Sm.mkS hl h).ok⟩
theorem Pl.tup{ds:List PyData}{k n:Nat}(h:∀d∈ds,Pl d k n):Pl (.tuple ds) (k+1) ((n+1)*ds.length):=by
 have s:=Shs.of (f:=fun _=>n) fun d hd=>(h d hd).sh
 have e:(ds.map fun _=>n+1).sum=(n+1)*ds.length:=by
  induction ds with
  |nil=>rfl
  |cons a r ih=>
   rw[List.map_cons,List.sum_cons,List.length_cons,ih (fun d hd=>h d (List.mem_cons_of_mem _ hd)) (Shs.of fun d hd=>(h d (List.mem_cons_of_mem _ hd)).sh),Nat.mul_add];omega
 rw[e] at s;exact⟨Sh.tuple s,jD fun d hd=>(h d hd).cl⟩
theorem Pl.list{ds:List PyData}{k n:Nat}(h:∀d∈ds,Pl d k n):Pl (.list ds) (k+1) ((n+1)*ds.length):=by
 have s:=(Pl.tup h).sh;exact⟨⟨s.sh,s.lv,s.dp,s.wt⟩,jD fun d hd=>(h d hd).cl⟩
theorem Pl.two{a b:PyData}{k n m:Nat}(ha:Pl a k n)(hb:Pl b k m):Pl (.tuple [a,b]) (k+1) (n+m+2):=
 ⟨Sh.mono (Sh.tuple (Shs.cons ha.sh (Shs.cons hb.sh (Shs.nil k 0)))) (Nat.le_refl _) (by omega),jD fun d hd=>by
  simp at hd
  rcases hd with rfl|rfl
  .exact ha.cl
  .exact hb.cl⟩
theorem Pl.three{a b c:PyData}{k n m l:Nat}(ha:Pl a k n)(hb:Pl b k m)(hc:Pl c k l):Pl (.tuple [a,b,c]) (k+1) (n+m+l+3):=
 ⟨Sh.mono (Sh.tuple (Shs.cons ha.sh (Shs.cons hb.sh (Shs.cons hc.sh (Shs.nil k 0))))) (Nat.le_refl _) (by omega),jD fun d hd=>by
  simp at hd
  rcases hd with rfl|rfl|rfl
  .exact ha.cl
  .exact hb.cl
  .exact hc.cl⟩
theorem Pl.good{d:PyData}{k n:Nat}(h:Pl d k n)(hk:k<=60)(hn:n<=60000):gq d=true:=BL (h.sh.mono hk hn) (PyData.hasDict_of_canLay d h.cl)
theorem Pl.shp{d:PyData}{k n:Nat}(h:Pl d k n)(hk:k<=60):SeqAt.shaped d=true:=by
 have:=h.sh.dp;unfold SeqAt.shaped;rw[h.cl,decide_eq_true (by omega)];rfl
theorem vS{a b:PyData}{k n m:Nat}(ha:Pl a k n)(hb:Pl b k m)(hk:k<=60):neG a b=some (.bool (!PyData.eqv a b)):=by
 unfold neG;rw[if_pos ⟨ha.shp hk,hb.shp hk⟩]
theorem jI{s:String}(h:((Str.ofString s).cps.toList.all fun c=>decide (c<128))=true)(hl:(Str.ofString s).length<=21):Pl (.str (Str.ofString s)) 0 21:=Pl.str (eI h hl).2 hl (by omega)
theorem iC{x:Str}(h:isName (.str x)=true):Pl (.str x) 0 21:=Pl.str (kY h).2 (kY h).1 (by have:=(kY h).1;omega)
theorem vN{v:PyData}(h:VV v):Pl (stS v) 0 1000:=Pl.str (vU (oW 4 v h)) (vp h) (by have:=vp h;omega)
def xf(l:PyData):Prop:=Pl l 3 3200/\∃x a b,l=.tuple [.str x,a,b]
theorem BU{p:Bool}{g n:Nat}{S:PyData}(h:StepOk p g n S):Pl (eU S) 2 1030:=by
 rcases eZ h with⟨v,rfl,hv⟩|⟨x,rfl,hx⟩|⟨b,x,r,rfl,hx⟩
 .rw[t5]
  exact((jI (by decide +kernel) (by decide +kernel)).two (vN hv)).mono (by decide) (by decide)
 .rw[t7]
  exact((jI (by decide +kernel) (by decide +kernel)).two (iC hx)).mono (by decide) (by decide)
 .rw[ua]
  exact((jI (by decide +kernel) (by decide +kernel)).two (iC hx)).mono (by decide) (by decide)
theorem zR{p:Bool}{n:Nat}{s:St3}(h:OkS p n s):Pl (.tuple (s.rd.map rdS)) 2 2060:=by
 have l1:=h.rd;have l2:=h.le
 have q:Pl (.tuple (s.rd.map rdS)) 2 ((1023+1)*(s.rd.map rdS).length):=Pl.tup fun d hd=>by
  obtain⟨e,he,rfl⟩:=List.mem_map.mp hd;obtain⟨x,v,rfl,hx,hv⟩:=h.rv e he;exact((iC hx).two (vN hv)).mono (by decide) (by decide)
 refine q.mono (Nat.le_refl _) ?_;rw[List.length_map];have:(1023+1)*s.rd.length<=(1023+1)*2:=Nat.mul_le_mul_left _ (by omega);omega
theorem jW{p:Bool}{n:Nat}{s:St3}{x:Str}(h:OkS p n s)(hx:isName (.str x)=true):xf (ln x s):=⟨(((iC hx).mono (by decide) (Nat.le_refl _)).three (zR h) (BU h.st)).mono (Nat.le_refl _) (by decide),x,_,_,rfl⟩
def kn(R:Dc):List Str:=R.map fun q=>nm q.1
theorem lF{P:Str->PyData->Prop}{R:Dc}(h:Dn R P):R.map (·.1)=(kn R).map .str:=by
 unfold kn;rw[List.map_map];refine List.map_congr_left fun q hq=>?_;obtain⟨x,v,rfl,_⟩:=h.kp q hq;rfl
theorem gZ{P:Str->PyData->Prop}{R:Dc}(h:Dn R P){x:Str}:x∈kn R↔∃v,av R x=some v:=by
 rw[←h.key,lF h];constructor
 .exact fun z=>List.mem_map.mpr ⟨x,z,rfl⟩
 .intro z
  obtain⟨y,hy,e⟩:=List.mem_map.mp z;cases e;exact hy
theorem pF{P:Str->PyData->Prop}{R:Dc}(h:Dn R P):(kn R).Nodup:=by
 have:=h.nd;rw[lF h] at this;exact List.Pairwise.imp (fun h z=>h (by rw[z])) (List.pairwise_map.mp this)
theorem mZ{P:Str->PyData->Prop}{R:Dc}(h:Dn R P)(hl:R.length<64):f9 (.dict R)=some (.list ((bK (kn R)).map .str)):=by
 show lT (b9 (R.map (·.1)))=_;rw[lF h];have e:=nN (kn R);unfold nl at e;rw[e];show (if (kn R).length<64 then _ else _)=_;rw[if_pos (by simpa[kn] using hl)]
theorem sort_mem{R:Dc}{x:Str}:x∈bK (kn R)↔x∈kn R:=(gI (kn R)).mem_iff
theorem jq{R:Dc}:(bK (kn R)).length=R.length:=by rw[(gI (kn R)).length_eq];simp[kn]
def fH(v:PyData):Prop:=∃t l,v=.tuple [.str t,l]/\t.length<=4300/\Lo t/\xf l
theorem wY{a b c:PyData}:bV [a,b,c] (some 1) none=[b,c]:=rfl
theorem jS{a b:String}(h1:((Str.ofString a).cps.toList.all fun c=>decide (c<128))=true)(h2:(Str.ofString a).length<=21)(h3:((Str.ofString b).cps.toList.all fun c=>decide (c<128))=true)(h4:(Str.ofString b).length<=21):Pl (.tuple [.str (Str.ofString a),.str (Str.ofString b)]) 1 44:=(jI h1 h2).two (jI h3 h4)
abbrev RD2:List PyData:=[.tuple [.str "a",.str "1"],.tuple [.str "zz",.str "'"]]
abbrev EN3:List PyData:=[.tuple [.str "made",.str "1"],.tuple [.str "wants",.str "a"],.tuple [.str "fails",.str "b"]]
theorem CI{r:Int}(h0:0<=r)(h1:r<3):Pl (.tuple (bV RD2 none (some r))) 2 100:=by
 have a1:Pl (.tuple [.str "a",.str "1"]) 1 44:=jS (by decide +kernel) (by decide +kernel) (by decide +kernel) (by decide +kernel);have a2:Pl (.tuple [.str "zz",.str "'"]) 1 44:=jS (by decide +kernel) (by decide +kernel) (by decide +kernel) (by decide +kernel)
 have all:∀d∈RD2,Pl d 1 44:=fun d hd=>by
  simp only[RD2,List.mem_cons,List.not_mem_nil,or_false] at hd
  rcases hd with rfl|rfl
  .exact a1
  .exact a2
 have key:∀l:List PyData,l.length<=2->(∀d∈l,d∈RD2)->Pl (.tuple l) 2 100:=fun l hl hm=>by
  have:=Pl.tup fun d hd=>all d (hm d hd);refine this.mono (Nat.le_refl _) ?_;have:(44+1)*l.length<=(44+1)*2:=Nat.mul_le_mul_left _ hl;omega
 rcases in3 h0 h1 with rfl|rfl|rfl
 .have e:bV RD2 none (some 0)=[]:=rfl
  rw[e]
  exact key [] (by simp) fun d hd=>nomatch hd
 .have e:bV RD2 none (some 1)=[RD2[0]]:=rfl
  rw[e]
  exact key _ (by simp) fun d hd=>by rw[List.mem_singleton.mp hd];exact List.getElem_mem _
 .have e:bV RD2 none (some 2)=RD2:=rfl
  rw[e];exact key _ (by simp) fun d hd=>hd
theorem DJ{r:Int}(h0:0<=r)(h1:r<3):∃e,atI EN3 r=some e/\Pl e 2 44:=by
 rcases in3 h0 h1 with rfl|rfl|rfl
 .exact⟨_,rfl,(jS (by decide +kernel) (by decide +kernel) (by decide +kernel) (by decide +kernel)).mono (by decide) (Nat.le_refl _)⟩
 .exact⟨_,rfl,(jS (by decide +kernel) (by decide +kernel) (by decide +kernel) (by decide +kernel)).mono (by decide) (Nat.le_refl _)⟩
 .exact⟨_,rfl,(jS (by decide +kernel) (by decide +kernel) (by decide +kernel) (by decide +kernel)).mono (by decide) (Nat.le_refl _)⟩
theorem yL(ns:List Int)(k:Int)(x:Str)(T:Tp)(hl:ns.length<=63)(hk:0<=k)(hk':k<=1000){xs:List Str}{j:Nat}{D R:Dc}(hB:BI xs j D R)(hj:j<=7)(hx:x∈menu){st st':Str->St3}(ok:∀x r,av R x=some r->OkS true 4 (st x))(ok':∀x r,av R x=some r->OkS true 4 (st' x))(hn:∀y∈kn R,isName (.str y)=true) :
  ∃ps,dr [.d (bI ns),.d (.int k),.d (.str x),.d (bkD D R),.d (.dict (lnL R st)),.d (.dict (lnL R st'))] T=some (.list ps,T)/\(ps=[]\/∃v,ps=[v]/\fH v):=by
 have hlen:=hB.ln;obtain⟨r0,e0,a0,b0⟩:=cJ ns k 7 T;have so:=mZ hB.r (by omega)
 have sl:((bK (kn R)).map PyData.str).length=R.length:=by rw[List.length_map,jq]
 have shw':∀y r,av R y=some r->Shw r:=fun y r h=>shw (hB.r.get h) (Nat.le_refl 4);have xn:=(kE hx).1
 have line:∀(s:Str->St3) (y:Str) (r:PyData),OkS true 4 (s y)->fH (.tuple [.str (txt r),.tuple [.str x,.tuple ((s y).rd.map rdS),eU (s y).S]])\/¬Shw r:=fun s y r h=>by
  by_cases q:Shw r
  .exact .inl ⟨_,_,rfl,q.ln,q.lo,jW (x:=x) h xn⟩
  .exact .inr q
 by_cases c1:r0=5\/r0=6
 .by_cases c2:R.length=0
  .have hR:R=[]:=List.length_eq_zero_iff.mp c2
   subst hR;refine⟨[],?_,.inl rfl⟩;have e1:f9 (.dict [])=some (.list []):=rfl
   have g4:(4:Int)<r0:=by omega
   simp[dr,e0,bkD,e1,g4,av]
  .obtain⟨r1,e1,a1,b1⟩:=cJ ns (k+1) (R.length:Int) T
   obtain⟨d,f1,f2⟩:=jQ (xs:=(bK (kn R)).map PyData.str) (i:=r1) a1 (by rw[sl];exact b1);obtain⟨y,hy,rfl⟩:=List.mem_map.mp f2;obtain⟨r,hr⟩:=(gZ hB.r).mp (sort_mem.mp hy);have sw:=shw' y r hr;have lt:=sw.l
   have g4:(4:Int)<r0:=by omega
   have g0:(0:Int)<R.length:=by omega
   have hRn:¬R=[]:=fun z=>c2 (by rw[z];rfl)
   have z:(1:Nat)+2<=sizeLine:=by decide
   have k1:av (lnL R st) y=some (ln y (st y)):=by rw[iN,hr];rfl
   have k2:av (lnL R st') y=some (ln y (st' y)):=by rw[iN,hr];rfl
   rcases c1 with rfl|rfl
   .refine⟨_,?_,.inr ⟨_,rfl,(line st y r (ok y r hr)).resolve_right fun z=>z sw⟩⟩
    simp[dr,e0,bkD,so,jq,g0,hRn,e1,f1,k1,ln,wY,hr,lt,z]
   .refine⟨_,?_,.inr ⟨_,rfl,(line st' y r (ok' y r hr)).resolve_right fun z=>z sw⟩⟩
    simp[dr,e0,bkD,so,jq,g0,hRn,e1,f1,k2,ln,wY,hr,lt,z]
 .have g4:¬(4:Int)<r0:=by omega
  cases hr:av R x with
  |none=>
   refine⟨[],?_,.inl rfl⟩;simp[dr,e0,bkD,so,g4,hr]
  |some r=>
   have sw:=shw' x r hr;have lt:=sw.l;have lh:=sw.hl
   by_cases c0:r0=0
   .refine⟨[],?_,.inl rfl⟩
    subst c0;simp[dr,e0,bkD,so,hr]
   .have k1:av (lnL R st) x=some (ln x (st x)):=by rw[iN,hr];rfl
    have k2:av (lnL R st') x=some (ln x (st' x)):=by rw[iN,hr];rfl
    by_cases cp:r0=1/\hon r=false
    .obtain⟨rfl,hp⟩:=cp
     rw[hp] at lh;obtain⟨r1,e1,a1,b1⟩:=cJ ns (k+1) 3 T;obtain⟨r2,e2,a2,b2⟩:=cJ ns (k+2) 3 T;obtain⟨en,f1,f2⟩:=DJ a2 b2;have rp:=CI a1 b1;refine⟨[.tuple [.str (txt r),.tuple [.str x,.tuple (bV RD2 none (some r1)),en]]],?_,.inr ⟨_,rfl,_,_,rfl,sw.ln,sw.lo,?_,x,_,_,rfl⟩⟩
     .simp[dr,e0,bkD,so,hr,lt,lh,e1,e2,f1]
     .exact(((iC xn).mono (by decide) (Nat.le_refl _)).three rp f2).mono (Nat.le_refl _) (by decide)
    .have go:∀(s:Str->St3),atI [PyData.dict (lnL R st),.dict (lnL R st')] (r0 % 2)=some (.dict (lnL R s))->av (lnL R s) x=some (ln x (s x))->dr [.d (bI ns),.d (.int k),.d (.str x),.d (bkD D R),.d (.dict (lnL R st)),.d (.dict (lnL R st'))] T=some (.list [.tuple [.str (txt r),ln x (s x)]],T):=fun s h1 h2=>by
      by_cases c11:r0=1
      .have ht:hon r=true:=by
        cases q:hon r with
        |true=>rfl
        |false=>exact absurd ⟨c11,q⟩ cp
       rw[ht] at lh;subst c11;simp at h1;simp[dr,e0,bkD,so,hr,lt,lh,h1,h2]
      .simp[dr,e0,bkD,so,g4,hr,c0,c11,lt,h1,h2]
     have hm:=gc (show (0:Int)<2 by decide) r0
     rcases(show r0 % 2=0\/r0 % 2=1 by omega) with q|q
     .exact⟨_,go st (by rw[q];rfl) k1,.inr ⟨_,rfl,_,_,rfl,sw.ln,sw.lo,jW (ok x r hr) xn⟩⟩
     .exact⟨_,go st' (by rw[q];rfl) k2,.inr ⟨_,rfl,_,_,rfl,sw.ln,sw.lo,jW (ok' x r hr) xn⟩⟩
def Sl(R:Dc)(st:Str->St3)(H:Dc)(x:Str):Bool:=match av R x,av H x with
 |some r,some (.tuple [.str t,l])=>decide (t=txt r)&&(!hon r&&!PyData.eqv l (ln x (st x)))
 |_,_=>false
section
variable {xs:List Str}{j:Nat}{D R H:Dc}{st:Str->St3}
theorem E4(hB:BI xs j D R)(hH:Dn H fun _ v=>fH v)(x:Str)(T:Tp):gK [.d (.dict R),.d (.dict H),.d (.str x)] T=some ((match av R x,av H x with
  |some r,some (.tuple [.str t,l])=>if t=txt r then l else .none
  | _,_=>.none),T):=by
 cases h1:av H x with
 |none=>cases h2:av R x <;> simp[gK,h1]
 |some v=>
  cases h2:av R x with
  |none=>simp[gK,h1,h2]
  |some r=>
   obtain⟨t,l,rfl,_⟩:=hH.get h1;have sw:=(shw (hB.r.get h2) (Nat.le_refl 4)).p
   by_cases c:t=txt r
   .simp[gK,h1,h2,sw,c]
   .simp[gK,h1,h2,sw,c]
theorem BF{ds:List PyData}:iP (.tuple ds) .none=some (.bool true):=rfl
theorem tW:iP .none .none=some (.bool false):=rfl
theorem zK(hB:BI xs j D R)(hH:Dn H fun _ v=>fH v)(ok:∀x r,av R x=some r->OkS true 4 (st x)){x:Str}{r:PyData}(hr:av R x=some r)(hx:isName (.str x)=true)(T:Tp):gL [.d (.dict R),.d (.dict H),.d (ln x (st x))] T=some (.bool (Sl R st H x),T):=by
 have lo:=fun T=>E4 hB hH x T;have i0:ixD (ln x (st x)) (.int 0)=some (.str x):=rfl;unfold Sl;rw[hr] at lo ⊢
 cases h1:av H x with
 |none=>
  rw[h1] at lo;simp[gL,i0,lo,tW]
 |some v=>
  obtain⟨t,l,rfl,_,_,lk,y,a,b,rfl⟩:=hH.get h1;rw[h1] at lo
  by_cases c:t=txt r
  .have hp:=(shw (hB.r.get hr) (Nat.le_refl 4)).hp
   have ne:=vS lk (jW (ok x r hr) hx).1 (by decide);simp only[c] at lo;simp[gL,i0,lo,BF,ne,hr,c]
   cases PyData.eqv (.tuple [.str y,a,b]) (ln x (st x)) <;> cases hq:hon r <;> (rw[hq] at hp;simp[hp])
  .simp only[c] at lo
   simp[gL,i0,lo,tW,c]
theorem A4{P Q:Str->PyData->Prop}{A B:Dc}{f:Str->Bool}(hA:Dn A P)(hB:Dn B Q)(h:∀x,f x=true->x∈kn A/\x∈kn B):(bK (kn A)).filter f=(bK (kn B)).filter f:=by
 have n1:(bK (kn A)).Nodup:=(gI (kn A)).nodup_iff.mpr (pF hA);have n2:(bK (kn B)).Nodup:=(gI (kn B)).nodup_iff.mpr (pF hB);refine mF ((List.perm_ext_iff_of_nodup (n1.filter _) (n2.filter _)).mpr fun x=>?_) ((kf _).filter _) ((kf _).filter _);rw[List.mem_filter,List.mem_filter,sort_mem,sort_mem];exact⟨fun⟨_,q⟩=>⟨(h x q).2,q⟩,fun⟨_,q⟩=>⟨(h x q).1,q⟩⟩
theorem Sl.mem{P:Str->PyData->Prop}(hR:Dn R P){Q:Str->PyData->Prop}(hH:Dn H Q){x:Str}(h:Sl R st H x=true):x∈kn R/\x∈kn H:=by
 unfold Sl at h;split at h
 .rename_i r t l h1 h2
  exact⟨(gZ hR).mpr ⟨_,h1⟩,(gZ hH).mpr ⟨_,h2⟩⟩
 .cases h
def due(R:Dc)(st:Str->St3)(H:Dc):List Str:=(bK (kn R)).filter (Sl R st H)
theorem Dj:kn (lnL R st)=kn R:=by simp[kn,lnL]
theorem Dk{P:Str->PyData->Prop}(h:Dn R P):Dn (lnL R st) fun x v=>v=ln x (st x) where
 kp:=fun q hq=>by
  obtain⟨p,hp,rfl⟩:=List.mem_map.mp hq;obtain⟨x,v,rfl,_⟩:=h.kp p hp;exact⟨x,_,rfl,rfl⟩
 nd:=by
  have:(lnL R st).map (·.1)=R.map (·.1):=by simp[lnL]
  rw[this];exact h.nd
theorem ut(hB:BI xs j D R)(hj:j<=7)(hH:Dn H fun _ v=>fH v)(ok:∀x r,av R x=some r->OkS true 4 (st x))(hn:∀y∈kn R,isName (.str y)=true)(T:Tp)(hl:jm [.d (bkD D R)] T=some (.dict (lnL R st),T)):fg [.d (bkD D R),.d (.dict H)] T=some (.list ((due R st H).map .str),T):=by
 have hlen:=hB.ln;have ld:=Dk (st:=st) hB.r
 have ll:(lnL R st).length=R.length:=by simp[lnL]
 have so:=mZ ld (by omega);rw[Dj] at so
 have c:=qi (c:=aS (ar gL (ae (ag ixD (aa 1) (fC (.int 1))) (ae (aa 2) (ae (ag ixA (aa 3) (aa 0)) ah))))) (ρ:=[some (.d (bkD D R)),some (.d (.dict H)),some (.d (.dict (lnL R st)))]) (T:=T) (p:=fun d=>Sl R st H (nm d)) (ds:=(bK (kn R)).map .str) fun d hd=>by
  obtain⟨x,hx,rfl⟩:=List.mem_map.mp hd;have hx':=sort_mem.mp hx;obtain⟨r,hr⟩:=(gZ hB.r).mp hx'
  have k1:av (lnL R st) x=some (ln x (st x)):=by rw[iN,hr];rfl
  have is:=zK hB hH ok hr (hn x hx') T;simp[bkD,k1,is,nm]
 have fm:((bK (kn R)).map PyData.str).filter (fun d=>Sl R st H (nm d))=(due R st H).map .str:=by
  unfold due;rw[List.filter_map];rfl
 rw[fm] at c;unfold fg gn;simp[hl,so,dR,oS];simp[c,uF,oR]
end
def less(H:Dc)(ys:List Str):Dc:=H.filter fun q=>decide (nm q.1∉ys)
section
variable {P:Str->PyData->Prop}{H:Dc}
theorem Dn.sub{p:PyData×PyData->Bool}(h:Dn H P):Dn (H.filter p) P where
 kp:=fun q hq=>h.kp q (List.mem_filter.mp hq).1
 nd:=List.Pairwise.sublist (List.filter_sublist.map _) h.nd
theorem drop_one(h:Dn H P)(y:Str):(if (av H y).isSome=true then cY H y else H)=H.filter fun q=>decide (nm q.1≠y):=by
 have e:cY H y=H.filter fun q=>decide (nm q.1≠y):=by
  unfold cY;refine List.filter_congr fun q hq=>?_;obtain⟨x,v,rfl,_⟩:=h.kp q hq;rfl
 cases hk:av H y with
 |some v=>rw[if_pos (by rfl),e]
 |none=>
  rw[if_neg (by simp),List.filter_eq_self.mpr];intro q hq;obtain⟨x,v,rfl,_⟩:=h.kp q hq;refine decide_eq_true fun z=>?_;have z':x=y:=z;have:=h.mem hq;rw[z',hk] at this;cases this
theorem uU{T:Tp}{H0:PyData}{L:PyData}:∀(ys:List Str) (H:Dc) (o:Option W),Dn H P->∃o',forL 3 qt (ys.map .str) [some (.d H0),some (.d L),some (.loc (.dict H)),o] T=some ((.nx,[some (.d H0),some (.d L),some (.loc (.dict (less H ys))),o']),T)
 |[],H,o,_=>⟨o,by
   have:less H []=H:=List.filter_eq_self.mpr fun q hq=>by simp
   rw[this]
   rfl⟩
 |y::ys,H,o,h=>by
  have d1:=drop_one h y;obtain⟨o',ih⟩:=uU (T:=T) (H0:=H0) (L:=L) ys (H.filter fun q=>decide (nm q.1≠y)) (some (.d (.str y))) h.sub;refine⟨o',?_⟩
  have e:less (H.filter fun q=>decide (nm q.1≠y)) ys=less H (y::ys):=by
   unfold less;rw[List.filter_filter];refine List.filter_congr fun q hq=>?_
   by_cases z:nm q.1=y <;> by_cases w:nm q.1∈ys <;> simp[z,w]
  rw[e] at ih;rw[List.map_cons,cU (ρ':=[some (.d H0),some (.d L),some (.loc (.dict (H.filter fun q=>decide (nm q.1≠y)))),some (.d (.str y))]),ih];rw[←d1];rfl
theorem uu(h:Dn H P)(hl:H.length<=900)(ys:List Str)(T:Tp):gQ [.d (.dict H),.d (.list (ys.map .str))] T=some (.dict (less H ys),T):=by
 obtain⟨o',e⟩:=uU (P:=P) (T:=T) (H0:=.dict H) (L:=.list (ys.map .str)) ys H none h;rw[xR];unfold gn;simp[dR];simp[e,jM,oM,oR]
theorem tP(h:Dn H P)(hl:H.length<=900){T:Tp}{ys:List Str}:∀(rest Q:Dc) (o:Option W),H=Q++rest->∃o',forL 3 kH (rest.map (·.1)) [some (.d (.dict H)),some (.d (.list (ys.map .str))),some (.loc (.dict (less Q ys))),o] T=some ((.nx,[some (.d (.dict H)),some (.d (.list (ys.map .str))),some (.loc (.dict (less H ys))),o']),T)
 |[],Q,o,e=>⟨o,by rw[e];simp[forL]⟩
 |q::rest,Q,o,e=>by
  have hq:q∈H:=by rw[e];simp
  obtain⟨x,v,rfl,_⟩:=h.kp q hq;have hk:=h.mem hq;obtain⟨o',ih⟩:=tP h hl (T:=T) (ys:=ys) rest (Q++[(.str x,v)]) (some (.d (.str x))) (by rw[e];simp);refine⟨o',?_⟩;have ni:=uO x ys;unfold nl at ni
  have hx : .str x∉(less Q ys).map (·.1):=fun z=>by
   obtain⟨p,hp,ep⟩:=List.mem_map.mp z;have hpQ:=(List.mem_filter.mp hp).1;have nd:=h.nd;rw[e,List.map_append,List.nodup_append] at nd;exact nd.2.2 (.str x) (List.mem_map.mpr ⟨p,hpQ,ep⟩) (.str x) (by simp) rfl
  have ll:(less Q ys).length<=1000:=by
   have h1:(less Q ys).length<=Q.length:=List.length_filter_le _ _
   have h2:H.length=Q.length+(rest.length+1):=by rw[e];simp
   omega
  by_cases c:x∈ys
  .have e2:less (Q++[(.str x,v)]) ys=less Q ys:=by
    unfold less;rw[List.filter_append];simp[nm,c]
   rw[e2] at ih;rw[List.map_cons,cU (ρ':=[some (.d (.dict H)),some (.d (.list (ys.map .str))),some (.loc (.dict (less Q ys))),some (.d (.str x))]),ih];simp[kH,ni,c]
  .have e2:less (Q++[(.str x,v)]) ys=less Q ys++[(.str x,v)]:=by
    unfold less;rw[List.filter_append];simp[nm,c]
   rw[e2] at ih;rw[List.map_cons,cU (ρ':=[some (.d (.dict H)),some (.d (.list (ys.map .str))),some (.loc (.dict (less Q ys++[(.str x,v)]))),some (.d (.str x))]),ih];rw[←jr hx];simp[kH,ni,c,hk,ll]
theorem DY(h:Dn H P)(hl:H.length<=900)(ys:List Str)(T:Tp):jh [.d (.dict H),.d (.list (ys.map .str))] T=some (.dict (less H ys),T):=by
 obtain⟨o',e⟩:=tP h hl (T:=T) (ys:=ys) H [] none rfl;have e0:less [] ys=[]:=rfl;rw[e0] at e;rw[zb];simp[e]
end
theorem kas_lt{n:Nat}{c:Nat->Nat->Bool}(h:1<=n){i:Nat}(hi:i∈g7 n c):i<n:=by
 have q:=mV (c:=c) (ny h);unfold g7 at hi;have:=(Array.Perm.mem_iff q).mp (Array.mem_toList_iff.mp hi);simpa using this
theorem yS{α:Type}{d:α}{vs:List α}{ks:List Str}{a:α}(h:a∈cG d vs ks):a∈vs:=by
 unfold cG at h;split at h
 .exact h
 .rename_i h2
  obtain⟨i,hi,rfl⟩:=List.mem_map.mp h;have:=kas_lt (by omega) hi;rw[List.getD_eq_getElem?_getD,List.getElem?_eq_getElem this];exact List.getElem_mem _
theorem yT{α:Type}{d:α}{vs:List α}{ks:List Str}:(cG d vs ks).length=vs.length:=by
 unfold cG;split
 .rfl
 .rename_i h2
  rw[List.length_map,qC (by omega)]
theorem yQ{H:Dc}(h:Dn H fun x v=>isName (.str x)=true/\fH v)(hl:H.length<=7):∃zs,gW (.dict H)=some (.list zs)/\gq (.list zs)=true:=by
 have e:b9 (hZ H)=some (kn H):=by
  show b9 (H.map (·.1))=_;rw[lF h];exact nN (kn H)
 have kl:(kn H).length=H.length:=by simp[kn]
 refine⟨cG .none (H.map fun p=>.tuple [p.1,p.2]) (kn H),?_,?_⟩
 .simp only[gW,e]
  rw[if_pos ⟨pF h,by omega⟩]
 .have all:∀d∈cG .none (H.map fun p=>PyData.tuple [p.1,p.2]) (kn H),Pl d 5 7530:=fun d hd=>by
   obtain⟨q,hq,rfl⟩:=List.mem_map.mp (yS hd);obtain⟨x,v,rfl,hx,t,l,rfl,h1,h2,lk,_⟩:=h.kp q hq;exact(((iC hx).mono (by decide) (Nat.le_refl _)).two (((Pl.str h2 h1 (by omega)).mono (by decide) (Nat.le_refl _)).two lk)).mono (by decide) (by decide)
  have pl:=Pl.list all;refine pl.good (by decide) ?_;rw[yT,List.length_map];have:(7530+1)*H.length<=(7530+1)*7:=Nat.mul_le_mul_left _ hl;omega
theorem Du:bU .dct .dct=true:=rfl
theorem Dt:bU .lst .dct=false:=rfl
theorem uE{H:Dc}(h:Dn H fun x v=>isName (.str x)=true/\fH v)(hl:H.length<=7)(T:Tp):cE [.d (.dict H),.d (.dict H)] T=some (.bool true,T):=by
 obtain⟨zs,e,g⟩:=yQ h hl;simp[cE,Du,e,jR,g]
theorem BM{ys:List Str}(h:∀y∈ys,y.length<=21/\∀c∈y.cps.toList,c<128)(hl:ys.length<=100):gq (.list (ys.map .str))=true:=by
 have pl:=Pl.list (ds:=ys.map PyData.str) (k:=0) (n:=21) fun d hd=>by
  obtain⟨y,hy,rfl⟩:=List.mem_map.mp hd;exact Pl.str (h y hy).2 (h y hy).1 (by have:=(h y hy).1;omega)
 refine pl.good (by decide) ?_;rw[List.length_map];have:(21+1)*ys.length<=(21+1)*100:=Nat.mul_le_mul_left _ hl;omega
theorem uD{ys:List Str}(h:∀y∈ys,y.length<=21/\∀c∈y.cps.toList,c<128)(hl:ys.length<=100)(T:Tp):cE [.d (.list (ys.map .str)),.d (.list (ys.map .str))] T=some (.bool true,T):=by
 have g:=BM h hl;simp[cE,Dt,jR,g]
def HN(x:Str)(v:PyData):Prop:=isName (.str x)=true/\fH v
theorem HN.pr{H:Dc}(h:Dn H HN):Dn H fun _ v=>fH v:=⟨fun q hq=>by
 obtain⟨x,v,e,_,p⟩:=h.kp q hq
 exact⟨x,v,e,p⟩,h.nd⟩
def lzO(o:Option W):Option W:=(cz [o]).headD none
theorem Dl{o:Option W}{r:Rho}:cz (o::r)=lzO o::cz r:=rfl
@[simp] theorem Ko{x:PyData}:lzO (some (.d x))=some (.d x):=rfl
@[simp] theorem Kn{x:PyData}:lzO (some (.loc x))=some (.d x):=rfl
def ρ7(ns:List Int)(xs:List Str)(bk ln ol hd:W)(o6 o7 o8 o9 o10 o11 o12 o13 o14:Option W):Rho:=[some (.d (bI ns)),some (.d (.list (xs.map .str))),some bk,some ln,some ol,some hd,o6,o7,o8,o9,o10,o11,o12,o13,o14]
section
variable {ns:List Int}{xs:List Str}{j:Nat}{D R E H:Dc}{st st':Str->St3}
theorem Dy(N:Nms xs)(hl:ns.length<=63)(hB:BI xs j D R)(hj:j<=7)(ok:∀x r,av R x=some r->OkS true 4 (st x))(ok':∀x r,av R x=some r->OkS true 4 (st' x))(hn:∀y∈kn R,isName (.str y)=true):∃H o6 o7,forL 6 jx (cy 0 xs.length) (ρ7 ns xs (.d (bkD D R)) (.d (.dict (lnL R st))) (.d (.dict (lnL R st'))) (.loc (.dict [])) none none none none none none none none none) []=some ((.nx,ρ7 ns xs (.d (bkD D R)) (.d (.dict (lnL R st))) (.d (.dict (lnL R st'))) (.loc (.dict H)) o6 o7 none none none none none none none),[])/\Dn H HN/\H.length<=7:=by
 have n7:=N.most
 obtain⟨ρ',T',e,H,o6,o7,rfl,rfl,h1,h2,h3⟩:=oQ (i:=6) (body:=jx) (I:=fun j ρ T1=>∃H o6 o7,ρ=ρ7 ns xs (.d (bkD D R)) (.d (.dict (lnL R st))) (.d (.dict (lnL R st'))) (.loc (.dict H)) o6 o7 none none none none none none none/\T1=[]/\Dn H HN/\(∀x,.str x∈H.map (·.1)->x∈xs.take j)/\H.length<=j) (cy 0 xs.length) 0 (ρ7 ns xs (.d (bkD D R)) (.d (.dict (lnL R st))) (.d (.dict (lnL R st'))) (.loc (.dict [])) none none none none none none none none none) [] ⟨[],none,none,rfl,rfl,.nil,(fun _ z=>nomatch z),Nat.le_refl _⟩ fun i d ρ T1 hd hI=>by
  obtain⟨H,o6,o7,rfl,rfl,h1,h2,h3⟩:=hI;rw[Nat.zero_add] at h2 h3 ⊢;obtain⟨rfl,hi⟩:=tI hd;obtain⟨x,hx⟩:∃x,xs[i]? = some x:=⟨_,List.getElem?_eq_getElem hi⟩;have a1:=vB hx;have hnx:=r8 N.nd hx;have ts:=take_succ hx;have xm:=N.inm x (List.mem_of_getElem? hx)
  have mono:∀y,y∈xs.take i->y∈xs.take (i+1):=fun y hy=>by rw[ts];exact List.mem_append_left _ hy
  obtain⟨ps,e1,e2⟩:=yL ns (130+4*(i:Int)) x [] hl (by omega) (by omega) hB hj xm ok ok' hn
  rcases e2 with rfl|⟨v,rfl,hv⟩
  .refine⟨_,[],?_,H,some (.d (.int i)),o7,rfl,rfl,h1,fun y hy=>mono y (h2 y hy),by omega⟩
   simp[jx,ρ7,a1,e1,forL]
  .have hnk : .str x∉H.map (·.1):=fun z=>hnx (h2 x z)
   have hl':H.length<=1000:=by omega
   refine⟨_,[],?_,H++[(.str x,v)],some (.d (.int i)),some (.d v),rfl,rfl,h1.app ⟨(kE xm).1,hv⟩ hnk,fun y hy=>?_,by simp;omega⟩
   .rw[←jr hnk]
    simp[jx,tj,ρ7,a1,e1,forL,hl']
   .rw[List.map_append] at hy
    rcases List.mem_append.mp hy with hy|hy
    .exact mono y (h2 y hy)
    .simp at hy
     rw[hy,ts];simp
 rw[nA,Nat.zero_add] at h3;exact⟨H,o6,o7,e,h1,by omega⟩
theorem oU(hB:BI xs j D R)(hH:Dn H HN)(hl:H.length<=7)(ok:∀x r,av R x=some r->OkS true 4 (st x))(hn:∀y∈kn R,isName (.str y)=true){ol:W}{o6 o7:Option W}:∀(ys acc:List Str) (o9:Option W),(∀y∈ys,y∈kn H)->acc.length+ys.length<=100->∃o9',forL 9 fU (ys.map .str) (ρ7 ns xs (.d (bkD D R)) (.d (.dict (lnL R st))) ol (.d (.dict H)) o6 o7 (some (.loc (.list (acc.map .str)))) o9 none none none none none) []=some ((.nx,ρ7 ns xs (.d (bkD D R)) (.d (.dict (lnL R st))) ol (.d (.dict H)) o6 o7 (some (.loc (.list ((acc++ys.filter (Sl R st H)).map .str)))) o9' none none none none none),[])
 |[],acc,o9,_,_=>⟨o9,by simp[forL]⟩
 |y::ys,acc,o9,hy,hq=>by
  obtain⟨v,hv⟩:=(gZ hH).mp (hy y List.mem_cons_self);obtain⟨yn,t,l,rfl,_,_,lk,z,a,b,rfl⟩:=hH.get hv;rw[List.length_cons] at hq;have la:acc.length<sizeLine:=Nat.lt_of_lt_of_le (by omega:acc.length<1000) (by decide)
  have step:∀s,Sl R st H y=s->fU ((ρ7 ns xs (.d (bkD D R)) (.d (.dict (lnL R st))) ol (.d (.dict H)) o6 o7 (some (.loc (.list (acc.map .str)))) o9 none none none none none).set 9 (some (.d (.str y)))) []=some ((.nx,ρ7 ns xs (.d (bkD D R)) (.d (.dict (lnL R st))) ol (.d (.dict H)) o6 o7 (some (.loc (.list ((if s=true then acc++[y] else acc).map .str)))) (some (.d (.str y))) none none none none none),[]):=fun s hs=>by
   unfold Sl at hs;rw[hv] at hs
   cases hr:av R y with
   |none=>
    rw[hr] at hs;subst hs;simp[fU,ρ7,bkD,hr]
   |some r=>
    rw[hr] at hs;have sw:=shw (hB.r.get hr) (Nat.le_refl 4);have s1:=sw.l;have s2:=sw.hl
    have k1:av (lnL R st) y=some (ln y (st y)):=by rw[iN,hr];rfl
    have ne:=vS lk (jW (ok y r hr) yn).1 (by decide);have hs':(decide (t=txt r)&&(!hon r&&!PyData.eqv (.tuple [.str z,a,b]) (ln y (st y))))=s:=hs
    cases hh:hon r with
    |true=>
     rw[hh] at s2 hs'
     have:s=false:=by rw[←hs'];simp
     subst this;simp[fU,ρ7,bkD,hr,s2]
    |false=>
     rw[hh] at s2 hs'
     by_cases ht:t=txt r
     .cases he:PyData.eqv (.tuple [.str z,a,b]) (ln y (st y)) with
      |true=>
       rw[he] at ne hs'
       have:s=false:=by rw[←hs'];simp
       subst this;simp[fU,ρ7,bkD,hr,s1,s2,hv,ht,k1,ne]
      |false=>
       rw[he] at ne hs'
       have:s=true:=by rw[←hs'];simp[ht]
       subst this;simp[fU,ρ7,bkD,hr,s1,s2,hv,ht,k1,ne,la]
     .have:s=false:=by rw[←hs'];simp[ht]
      subst this;simp[fU,ρ7,bkD,hr,s1,s2,hv,ht]
  have st1:=step _ rfl;rw[List.map_cons,cU st1]
  cases hs:Sl R st H y with
  |true=>
   rw[if_pos rfl];obtain⟨o9',ih⟩:=oU hB hH hl ok hn ys (acc++[y]) (some (.d (.str y))) (fun x hx=>hy x (List.mem_cons_of_mem _ hx)) (by simp;omega);exact⟨o9',by rw[ih,List.filter_cons,if_pos hs];simp⟩
  |false=>
   rw[if_neg (by simp)];obtain⟨o9',ih⟩:=oU hB hH hl ok hn ys acc (some (.d (.str y))) (fun x hx=>hy x (List.mem_cons_of_mem _ hx)) (by omega);exact⟨o9',by rw[ih,List.filter_cons,if_neg (by simp[hs])]⟩
theorem vA(hH:Dn H HN)(hl:H.length<=7){bk ln ol:PyData}{o6 o7 o9 o11 o12:Option W}{dl:PyData}:∀(L:List (List Str)) (o13 o14:Option W),∃o13' o14',forL 13 nL (L.map fun ys=>.list (ys.map .str)) (ρ7 ns xs (.d bk) (.d ln) (.d ol) (.d (.dict H)) o6 o7 (some (.d dl)) o9 (some (.d (.dict H))) o11 o12 o13 o14) []=some ((.nx,ρ7 ns xs (.d bk) (.d ln) (.d ol) (.d (.dict H)) o6 o7 (some (.d dl)) o9 (some (.d (.dict H))) o11 o12 o13' o14'),[])
 |[],o13,o14=>⟨o13,o14,rfl⟩
 |ys::L,o13,o14=>by
  have g1:=fun T=>uu hH (by omega) ys T;have g2:=fun T=>DY hH (by omega) ys T;have sub:Dn (less H ys) HN:=hH.sub;have ll:(less H ys).length<=H.length:=List.length_filter_le _ _;have g3:=fun T=>uE sub (by omega) T
  have l3:(less H ys).length<=1000:=by omega
  have lk:=kM (T:=[]) (T':=[]) (x:=.bool true) (by simp[aW]);obtain⟨o13',o14',ih⟩:=vA hH hl (bk:=bk) (ln:=ln) (ol:=ol) (o6:=o6) (o7:=o7) (o9:=o9) (o11:=o11) (o12:=o12) (dl:=dl) L (some (.d (.list (ys.map .str)))) (some (.loc (.dict (putN (less H ys) "x" (.tuple [.str "",.tuple []])))));refine⟨o13',o14',?_⟩;rw[List.map_cons,cU ?_];exact ih;simp[nL,ρ7,mf,g1,pk,Dl,g2,g3,lk,l3]
theorem yr(hH:Dn H HN):due R st (less H (due R st H))=[]:=by
 refine List.filter_eq_nil_iff.mpr fun x hx h=>?_;have hk:Dn (less H (due R st H)) HN:=hH.sub
 cases e:av (less H (due R st H)) x with
 |none=>
  unfold Sl at h;rw[e] at h;split at h
  .rename_i h2;cases h2
  .cases h
 |some v=>
  have m:=fT e;obtain⟨m1,m2⟩:=List.mem_filter.mp m;have hx2:x∉due R st H:=of_decide_eq_true m2;refine hx2 (List.mem_filter.mpr ⟨hx,?_⟩);unfold Sl at h ⊢;rw[e] at h;rw[hH.mem m1];exact h
theorem rO{e:FE}{c:FT}{ρ:Rho}{T:Tp}{Q:PyData->Prop}:∀{ds:List PyData},(∀d∈ds,(∃b,c (some (.d d)::ρ) T=some (b,T))/\∃y,e (some (.d d)::ρ) T=some (.d y,T)/\Q y)->∃ys,bE c e ρ ds T=some (ys,T)/\ys.length<=ds.length/\∀y∈ys,Q y
 |[],_=>⟨[],rfl,Nat.le_refl _,fun y hy=>nomatch hy⟩
 |d::r,h=>by
  obtain⟨⟨b,hb⟩,y,e1,q1⟩:=h d List.mem_cons_self;obtain⟨ys,e2,l2,q2⟩:=rO (ds:=r) fun x hx=>h x (List.mem_cons_of_mem _ hx)
  cases b with
  |true=>
   refine⟨y::ys,?_,by simp[l2],fun z hz=>?_⟩
   .unfold bE
    simp[hb,e1,e2]
   .rcases List.mem_cons.mp hz with k|k
    .subst k;exact q1
    .exact q2 z k
  |false=>
   refine⟨ys,?_,by simp;omega,q2⟩;unfold bE;simp[hb,e2]
end
theorem B1{f:FE}{ρ:Rho}{T:Tp}{ds:Dc}(h:f ρ T=some (.d (.dict ds),T)):j4 f ρ T=some (.d (.dict ds),T):=by
 unfold j4;rw[h];rfl
theorem c9{a b:FS}{ρ ρ1:Rho}{T T1:Tp}(h:a ρ T=some ((.nx,ρ1),T1)):ak a b ρ T=b ρ1 T1:=by
 rw[DC,h];rfl
theorem De{y:Str}(h:y∈menu):y.length<=21/\∀c∈y.cps.toList,c<128:=⟨by have:=Ak h;omega,menu_lo h⟩
def V(ns:List Int)(o1 o2 o3 o4 o5 o6 o7 o8 o9 o10 o11 o12 o13 o14:Option W):Rho:=[some (.d (bI ns)),o1,o2,o3,o4,o5,o6,o7,o8,o9,o10,o11,o12,o13,o14]
theorem Ao:∀ns:List Int,ns.length<=63->∃T',lY [.d (bI ns)] []=some (.bool true,T'):=by
 intro ns hl;refine⟨[],?_⟩;obtain⟨xs,e1,N⟩:=Cd ns 0 [] (by omega) (by omega) hl;have n7:=N.most;have n4:=N.few;obtain⟨r4,e4,a4,b4⟩:=cJ ns 4 3 []
 have hw:∃w:Int,atI [PyData.int 8,.int 12,.int 12] r4=some (.int w)/\0<w/\w<=12:=by
  rcases in3 a4 b4 with rfl|rfl|rfl
  .exact⟨8,rfl,by decide,by decide⟩
  .exact⟨12,rfl,by decide,by decide⟩
  .exact⟨12,rfl,by decide,by decide⟩
 obtain⟨w,ew,w0,w12⟩:=hw;obtain⟨D,R,e2,hB⟩:=D2 ns w xs N [] w0 w12 hl;have hlen:=hB.ln;obtain⟨st,ok,lp,e3⟩:=qP (hB.bk (by omega) hB.d rfl) [];obtain⟨E,ee,hE,ek⟩:=Ck ns xs N [] hl hB (by omega);obtain⟨st',ok',_,e5⟩:=qP (hB.bk (by omega) hE ek) []
 have hn:∀y∈kn R,isName (.str y)=true:=fun y hy=>by
  have:=hB.rk y (hB.r.key.mpr ((gZ hB.r).mp hy));exact(kE (N.inm y (List.mem_of_mem_take this))).1
 have hm:∀y∈kn R,y∈menu:=fun y hy=>by
  have:=hB.rk y (hB.r.key.mpr ((gZ hB.r).mp hy));exact N.inm y (List.mem_of_mem_take this)
 obtain⟨H,o6,o7,e6,hH,hHl⟩:=Dy (ns:=ns) N hl hB (by omega) ok ok' hn;have so:=mZ hH (by omega);have skl:(bK (kn H)).length=H.length:=jq;obtain⟨o9,e9⟩:=oU (ns:=ns) (xs:=xs) hB hH hHl ok hn (ol:=.d (.dict (lnL R st'))) (o6:=o6) (o7:=o7) (bK (kn H)) [] none (fun y hy=>sort_mem.mp hy) (by simp;omega);have dq:(bK (kn H)).filter (Sl R st H)=due R st H:=A4 hH hB.r fun x hx=>⟨(Sl.mem hB.r hH hx).2,(Sl.mem hB.r hH hx).1⟩;rw[List.nil_append,dq] at e9;have kl:(bK (kn R)).length=R.length:=jq;have dm:∀y∈due R st H,y∈menu:=fun y hy=>hm y (sort_mem.mp (List.mem_filter.mp hy).1)
 have dl:(due R st H).length<=7:=by
  have h1:(due R st H).length<=(bK (kn R)).length:=List.length_filter_le _ _;omega
 have s1:=ut hB (by omega) (HN.pr hH) ok hn [] lp;have sd:=fun T=>uD (ys:=due R st H) (fun y hy=>De (dm y hy)) (by omega) T;have sh:=fun T=>uE hH hHl T;have cf:∀T,gj cE [.loc (.list ((due R st H).map .str)),.d (.list ((due R st H).map .str))] T=some (.d (.bool true),T):=fun T=>jp rfl (sd []) (by simp[aW]);have lg:=fun T=>uu hH (by omega) (due R st H) T;have hless:Dn (less H (due R st H)) HN:=hH.sub;have s2:=ut hB (by omega) (HN.pr hless) ok hn [] lp;rw[yr hH] at s2;have sn:=fun T=>uD (ys:=[]) (fun y hy=>nomatch hy) (by simp) T
 obtain⟨ys,c1,c2,c3⟩:=rO (c:=aC (ag eqD (ar bx (ae (aa 1) (ae (ag aG (fC (.int 170)) (aa 0)) (ae (fC (.int 2)) ah)))) (fC (.int 0)))) (e:=ag ixD (aa 2) (aa 0)) (ρ:=ρ7 ns xs (.d (bkD D R)) (.d (.dict (lnL R st))) (.d (.dict (lnL R st'))) (.d (.dict H)) o6 o7 (some (.d (.list ((due R st H).map .str)))) o9 (some (.d (.dict H))) (some (.loc (.list ((due R st H).map .str)))) none none none) (T:=[]) (Q:=fun y=>∃x,y=.str x/\x∈menu) (ds:=cy 0 xs.length) fun d hd=>by
  obtain⟨i,rfl,i0,i1⟩:=Ag hd;obtain⟨r,er,_,_⟩:=cJ ns (170+i) 2 [];obtain⟨x,f1,f2⟩:=jQ (xs:=xs.map PyData.str) (i:=i) i0 (by simpa using i1);obtain⟨y,hy,rfl⟩:=List.mem_map.mp f2;refine⟨⟨decide (r=0),?_⟩,.str y,?_,y,rfl,N.inm y hy⟩
  .simp[ρ7,er]
  .simp[ρ7,f1]
 obtain⟨zs,rfl,_⟩:=tw c3;rw[List.length_map,nA] at c2;obtain⟨o13,o14,ea⟩:=vA (ns:=ns) (xs:=xs) hH hHl (bk:=bkD D R) (ln:=.dict (lnL R st)) (ol:=.dict (lnL R st')) (o6:=o6) (o7:=o7) (o9:=o9) (o11:=some (.loc (.list ((due R st H).map .str)))) (o12:=some (.d (.list ((zs++[Str.ofString "nobody"]).map .str)))) (dl:=.list ((due R st H).map .str)) [due R st H,zs++[Str.ofString "nobody"],[]] none none;have r1:gk (xs.length:Int)=true:=mO (by omega) (by omega);have zl:zs.length+1<=sizeLine:=cS (by omega);have dl2:(due R st H).length<sizeLine:=Nat.lt_of_lt_of_le (by omega:(due R st H).length<1000) (by decide);have start:∀S:FS,aL 15 S [.d (bI ns)] []=bu (S (V ns none none none none none none none none none none none none none none) []):=fun _=>rfl;rw[ρ7] at c1;unfold ρ7 at e6 e9 ea;rw[Ae,start];refine(congrArg bu (c9 (T1:=[]) (ρ1:=V ns (some (.d (.list (xs.map .str)))) none none none none none none none none none none none none none) (by simp[V,e1]))).trans ?_;refine(congrArg bu (c9 (T1:=[]) (ρ1:=V ns (some (.d (.list (xs.map .str)))) (some (.d (bkD D R))) none none none none none none none none none none none none) (by simp[V,e4,ew,e2]))).trans ?_;refine(congrArg bu (c9 (T1:=[]) (ρ1:=V ns (some (.d (.list (xs.map .str)))) (some (.d (bkD D R))) (some (.d (.dict (lnL R st)))) none none none none none none none none none none none) (by simp[V,e3]))).trans ?_;refine(congrArg bu (c9 (T1:=[]) (ρ1:=V ns (some (.d (.list (xs.map .str)))) (some (.d (bkD D R))) (some (.d (.dict (lnL R st)))) (some (.d (.dict (lnL R st')))) none none none none none none none none none none) (by simp[V,ee,e5]))).trans ?_;refine(congrArg bu (c9 (T1:=[]) (ρ1:=V ns (some (.d (.list (xs.map .str)))) (some (.d (bkD D R))) (some (.d (.dict (lnL R st)))) (some (.d (.dict (lnL R st')))) (some (.loc (.dict []))) none none none none none none none none none) (by simp[V]))).trans ?_;refine(congrArg bu (c9 (T1:=[]) (ρ1:=V ns (some (.d (.list (xs.map .str)))) (some (.d (bkD D R))) (some (.d (.dict (lnL R st)))) (some (.d (.dict (lnL R st')))) (some (.loc (.dict H))) o6 o7 none none none none none none none) (by simp[V,r1,e6]))).trans ?_;show bu (ak _ _ (V ns (some (.d (.list (xs.map .str)))) (some (.d (bkD D R))) (some (.d (.dict (lnL R st)))) (some (.d (.dict (lnL R st')))) (some (.d (.dict H))) o6 o7 none none none none none none none) [])=_;refine(congrArg bu (c9 (T1:=[]) (ρ1:=V ns (some (.d (.list (xs.map .str)))) (some (.d (bkD D R))) (some (.d (.dict (lnL R st)))) (some (.d (.dict (lnL R st')))) (some (.d (.dict H))) o6 o7 (some (.loc (.list []))) none none none none none none) (by simp[V]))).trans ?_;refine(congrArg bu (c9 (T1:=[]) (ρ1:=V ns (some (.d (.list (xs.map .str)))) (some (.d (bkD D R))) (some (.d (.dict (lnL R st)))) (some (.d (.dict (lnL R st')))) (some (.d (.dict H))) o6 o7 (some (.loc (.list ((due R st H).map .str)))) o9 none none none none none) (by simp[V,so] at e9 ⊢;exact e9))).trans ?_;show bu (ak _ _ (V ns (some (.d (.list (xs.map .str)))) (some (.d (bkD D R))) (some (.d (.dict (lnL R st)))) (some (.d (.dict (lnL R st')))) (some (.d (.dict H))) o6 o7 (some (.d (.list ((due R st H).map .str)))) o9 none none none none none) [])=_
 refine(congrArg bu (c9 (T1:=[]) (ρ1:=V ns (some (.d (.list (xs.map .str)))) (some (.d (bkD D R))) (some (.d (.dict (lnL R st)))) (some (.d (.dict (lnL R st')))) (some (.d (.dict H))) o6 o7 (some (.d (.list ((due R st H).map .str)))) o9 (some (.d (.dict H))) none none none none) (by
  rw[ve,B1 (ds:=H) (by simp[V])]
  rfl))).trans ?_
 refine(congrArg bu (c9 (T1:=[]) (ρ1:=V ns (some (.d (.list (xs.map .str)))) (some (.d (bkD D R))) (some (.d (.dict (lnL R st)))) (some (.d (.dict (lnL R st')))) (some (.d (.dict H))) o6 o7 (some (.d (.list ((due R st H).map .str)))) o9 (some (.d (.dict H))) (some (.loc (.list ((due R st H).map .str)))) none none none) (by simp[V,lK,s1,uC]))).trans ?_;refine(congrArg bu (c9 (T1:=[]) (ρ1:=V ns (some (.d (.list (xs.map .str)))) (some (.d (bkD D R))) (some (.d (.dict (lnL R st)))) (some (.d (.dict (lnL R st')))) (some (.d (.dict H))) o6 o7 (some (.d (.list ((due R st H).map .str)))) o9 (some (.d (.dict H))) (some (.loc (.list ((due R st H).map .str)))) none none none) (by simp[V,cf]))).trans ?_
 refine(congrArg bu (c9 (T1:=[]) (ρ1:=V ns (some (.d (.list (xs.map .str)))) (some (.d (bkD D R))) (some (.d (.dict (lnL R st)))) (some (.d (.dict (lnL R st')))) (some (.d (.dict H))) o6 o7 (some (.d (.list ((due R st H).map .str)))) o9 (some (.d (.dict H))) (some (.loc (.list ((due R st H).map .str)))) (some (.d (.list ((zs++[Str.ofString "nobody"]).map .str)))) none none) (by
  simp only[V,ve,DF,BR]
  simp[r1,c1,zl]))).trans ?_
 refine(congrArg bu (c9 (T1:=[]) (ρ1:=V ns (some (.d (.list (xs.map .str)))) (some (.d (bkD D R))) (some (.d (.dict (lnL R st)))) (some (.d (.dict (lnL R st')))) (some (.d (.dict H))) o6 o7 (some (.d (.list ((due R st H).map .str)))) o9 (some (.d (.dict H))) (some (.loc (.list ((due R st H).map .str)))) (some (.d (.list ((zs++[Str.ofString "nobody"]).map .str)))) o13 o14) (by simp[V] at ea ⊢;exact ea))).trans ?_;refine(congrArg bu (c9 (T1:=[]) (ρ1:=V ns (some (.d (.list (xs.map .str)))) (some (.d (bkD D R))) (some (.d (.dict (lnL R st)))) (some (.d (.dict (lnL R st')))) (some (.d (.dict H))) o6 o7 (some (.d (.list ((due R st H).map .str)))) o9 (some (.d (.dict H))) (some (.loc (.list ((due R st H).map PyData.str++[.str "x"])))) (some (.d (.list ((zs++[Str.ofString "nobody"]).map .str)))) o13 o14) (by simp[V,dl2]))).trans ?_;rw[List.map_nil] at s2;have sn':∀T,cE [.d (.list []),.d (.list [])] T=some (.bool true,T):=sn;simp[V,dw,lL,iG,lg,oX,s2,um,sn',sh,s1,sd]
def top(i:Nat):Stmt:=PySem.Challenge.pw_redo_k73_stale_lines.main.body.getD i (.Pass ⟨0,0,0,0⟩)
abbrev zS:List (Str×Nat):=("is_whole",8)::("has_only",9)::("is_name",10)::("is_single",11)::("is_built",12)::("many_of",14)::("is_value",13)::("exprs_within",16)::("is_honest",19)::("stamp_of",21)::("filling_words",26)::("expr_words",25)::("recipe_words",24)::("show_recipe",23)::("told_less",35)::("bounded",30)::("told_many",31)::("told_part",32)::("told_sum",33)::("told_join",34)::("told_of",29)::("told_by",28)::("step_of",37)::("end_by",47)::("line_from",46)::("lines_from",45)::("start_of",41)::("awaited_at",43)::("given",44)::("gone_on",42)::("made_afresh",40)::("lines_of",39)::("own_line",49)::("is_stale",52)::("stale",51)::("let_go",53)::("_law_draw",55)::("_law_same",56)::("_law_stamp",57)::("_law_names",58)::("_law_value",59)::("_law_expr",60)::("_law_recipe",61)::("_law_book",62)::("_law_fits",63)::("_law_of_two",64)::("_law_told",65)::("_law_is_name",66)::("_law_run",67)::("_law_good",68)::("_law_lines",69)::("_law_words",70)::("_law_shown",71)::("_law_honest",72)::("_law_elder",73)::("_law_held_one",74)::("_law_left",75)::("law",76)::[]
abbrev zZ:List Str:=["abs","all","bool","dict","int","isinstance","len","list","min","range","repr","sorted","str","sum","tuple"]
abbrev zI:List (Str×Int):=[("MOST_LETTERS",8),("MOST_PARTS",8),("MOST_ROWS",4),("MOST_SIGNS",20),("MOST_VALUES",40)]
abbrev zT:List (Str×Str):=[("LETTERS","abcdefghijklmnopqrstuvwxyz"),("TEXT_SIGNS","abcdefghijklmnopqrstuvwxyz0123456789-")]
structure Bi(K:Frag)(mg:Str->Option Value):Prop extends Bz K mg zZ zI zT where
 g_GETTING:xb K mg "GETTING" ["want","peek"]
section
variable {P:Program}{w:World}{K:Frag}{mg:Str->Option Value}{base:Heap}(E:Ev P w K mg base (Bi K mg) top zS)
include E
theorem fR:Fn P w K mg base "is_whole" ["thing"] 1 (spM K 1 d8):=aT E 8 ["thing"] fun B S hr=>(az (aB (dC (bN .int B.z (af 0) B.z boot_int) (gi (vn (bN .bl B.z (af 0) B.z boot_bool))))))
theorem qE:Fn P w K mg base "has_only" ["text","signs"] 1 (spM K 2 gM):=aT E 9 ["text","signs"] fun B S hr=>(az (aB (ba j7 rfl B.z boot_all (ai (eV (top 9) ["text","signs"] (bF (af 0)) (cI pS (af 0) (af 2))) am))))
theorem zw:Fn P w K mg base "is_name" ["thing"] 2 (spM K 1 iu):=aT E 10 ["thing"] fun B S hr=>(az (aB (dC (bN .str B.z (af 0) B.z boot_str) (dC (sW df df aj (ba bw rfl B.z boot_len (ai (af 0) am)) (jw rfl B.i)) (gi (bH (qE E) hr (af 0) (sV rfl B.s)))))))
theorem x4:Fn P w K mg base "is_single" ["thing"] 2 (spM K 1 jg):=aT E 11 ["thing"] fun B S hr=>(ax (aK (bb (aQ (fR E) hr (af 0))) (az (aB (cI df (ba EZ rfl B.z boot_abs (ai (af 0) am)) (aF jU aj aj)))) aN) (az (aB (dC (bN .str B.z (af 0) B.z boot_str) (dC (cI df (ba bw rfl B.z boot_len (ai (af 0) am)) (jw rfl B.i)) (gi (bH (qE E) hr (af 0) (sV rfl B.s))))))))
theorem yG:∀n,Fn P w K mg base "is_built" ["thing","rows_left"] (2+n) (spM K 2 (eG n)):=dD (dW E 12) fun n ih=>aT (k:=2+n) E 12 ["thing","rows_left"] fun B S hr=>(ax (aK (b6 (bb (bN .tup B.z (af 0) B.z boot_tuple))) (az (aB (aQ (x4 E) hr (af 0)))) aN) (ax (aK (cB (dS (aM aU (af 1) aj) (eK (aM i3 (ba bw rfl B.z boot_len (ai (af 0) am)) (jw rfl B.i))))) (az (aB gu)) aN) (az (aB (ba j7 rfl B.z boot_all (ai (eV (top 12) ["thing","rows_left"] (bF (af 0)) (bH ih hr (af 0) (aF pA (af 2) aj))) am))))))
theorem zv:∀n,Fn P w K mg base "many_of" ["value"] (0+n) (spM K 1 (gO n)):=dD (dW E 14) fun n ih=>aT (k:=0+n) E 14 ["value"] fun B S hr=>(ax (aK (b6 (bb (bN .tup B.z (af 0) B.z boot_tuple))) (az (aB aj)) aN) (az (aB (aF aV aj (ba EX rfl B.z boot_sum (ai (eV (top 14) ["value"] (bF (af 0)) (aQ ih hr (af 0))) am))))))
theorem yE:Fn P w K mg base "is_value" ["thing"] 28 (spM K 1 jn):=aT E 13 ["thing"] fun B S hr=>(az (aB (dC (bH (yG E 25) hr (af 0) (jw rfl B.i)) (gi (cI df (aQ (zv E 25) hr (af 0)) (jw rfl B.i))))))
theorem qb:Fn P w K mg base "exprs_within" ["expr"] 1 (spM K 1 cu):=aT E 16 ["expr"] fun B S hr=>(ax (aK (cB (dS (aM aU (ap au (af 0) aj) aq) (eK (aM aU (ap au (af 0) aj) aq)))) (az (aB (bg am))) aN) (ax (aK (aM aU (ap au (af 0) aj) aq) (az (aB (bZ oY rfl B.z boot_list (ai (ap au (af 0) aj) am)))) aN) (az (aB (bZ oY rfl B.z boot_list (ai (gr (af 0) (fZ aj) f7) am))))))
theorem x5:∀n,Fn P w K mg base "is_honest" ["recipe"] (0+n) (spM K 1 (d4 n)):=dD (dW E 19) fun n ih=>aT (k:=0+n) E 19 ["recipe"] fun B S hr=>(ax (aK (aM aU (ap au (af 0) aj) aq) (az (aB gu)) aN) (az (aB (ba j7 rfl B.z boot_all (ai (eV (top 19) ["recipe"] (bF (gr (af 0) (fZ aj) f7)) (aQ ih hr (af 0))) am)))))
theorem mJ:∀n,Fn P w K mg base "stamp_of" ["value"] (1+n) (spM K 1 (du n)):=dD (dW E 21) fun n ih=>aT (k:=1+n) E 21 ["value"] fun B S hr=>(ax (aK (bb (aQ (fR E) hr (af 0))) (az (aB (bZ ml rfl B.z boot_str (ai (af 0) am)))) aN) (ax (aK (bb (bN .str B.z (af 0) B.z boot_str)) (az (aB (aF aV aq (af 0)))) aN) (az (aB (aF aV (aF aV aq (uh aq (eV (top 21) ["value"] (bF (af 0)) (aQ ih hr (af 0))))) aq)))))
theorem xl:Fn P w K mg base "filling_words" ["expr"] 27 (spM K 1 eW):=aT E 26 ["expr"] fun B S hr=>(ax (aK (aM aU (ap au (af 0) aj) aq) (az (aB (bg (ai (aQ (mJ E 25) hr (ap au (af 0) aj)) am)))) aN) (ax (aK (aM aU (ap au (af 0) aj) aq) (az (aB (bg (ai (bZ ml rfl B.z boot_str (ai (ap au (af 0) aj) am)) am)))) aN) (ax (aK (aM aU (ap au (af 0) aj) aq) (az (aB (bg (ai (bZ ml rfl B.z boot_str (ai (ba bw rfl B.z boot_len (ai (ap au (af 0) aj) am)) am)) am)))) aN) (az (aB (bg am))))))
theorem xH:∀n,Fn P w K mg base "expr_words" ["expr"] (27+n) (spM K 1 (c6 n)):=dD (dW E 25) fun n ih=>aT (k:=27+n) E 25 ["expr","words","part"] fun B S hr=>(ax (ud (i:=1) S.nd (bg (ai (ap au (af 0) aj) am)) (aQ (xl E) hr (af 0))) (ax (cx (i:=2) S.nd (bF (aQ (qb E) hr (af 0))) (az (vi (i:=1) (by exact(aQ ih hr (af 2)))))) (az (aB (af 1)))))
theorem xq:∀n,Fn P w K mg base "recipe_words" ["recipe"] (52+n) (spM K 1 (d3 n)):=dD (dW E 24) fun n ih=>aT (k:=52+n) E 24 ["recipe","words","part"] fun B S hr=>(ax (aK (aM aU (ap au (af 0) aj) aq) (az (aB (bg (ai (ap au (af 0) aj) (ai (ap au (af 0) aj) am))))) aN) (ax (ud (i:=1) S.nd (bg (ai (ap au (af 0) aj) am)) (aQ (xH E 25) hr (ap au (af 0) aj))) (ax (cx (i:=2) S.nd (bF (gr (af 0) (fZ aj) f7)) (az (vi (i:=1) (by exact(aQ ih hr (af 2)))))) (az (aB (af 1))))))
theorem xu:Fn P w K mg base "show_recipe" ["recipe"] 78 (spM K 1 ip):=aT E 23 ["recipe"] fun B S hr=>(az (aB (sU aq (aQ (xq E 25) hr (af 0)))))
theorem xY:Fn P w K mg base "told_less" ["one","other"] 2 (spM K 2 fQ):=aT E 35 ["one","other"] fun B S hr=>(ax (aK (cB (dS (b6 (bb (aQ (fR E) hr (af 0)))) (eK (b6 (bb (aQ (fR E) hr (af 1))))))) (az (aB (aA (ai aq (ai aq am))))) aN) (az (aB (aA (ai aq (ai (de (aM ig (af 0) (af 1)) aj aj) am))))))
theorem kG:Fn P w K mg base "bounded" ["thing"] 29 (spM K 1 fS):=aT E 30 ["thing"] fun B S hr=>(az (aB (de (bb (aQ (yE E) hr (af 0))) (aA (ai aq (ai (af 0) am))) (aA (ai aq (ai aq am))))))
theorem xX:Fn P w K mg base "told_many" ["value"] 2 (spM K 1 jd):=aT E 31 ["value"] fun B S hr=>(ax (aK (bb (aQ (fR E) hr (af 0))) (az (aB (aA (ai aq (ai aq am))))) aN) (az (aB (aA (ai aq (ai (ba bw rfl B.z boot_len (ai (af 0) am)) am))))))
theorem xV:Fn P w K mg base "told_part" ["row","number"] 2 (spM K 2 eY):=aT E 32 ["row","number"] fun B S hr=>(ax (aK (cB (dS (b6 (bb (bN .tup B.z (af 0) B.z boot_tuple))) (eK (b6 (bb (aQ (fR E) hr (af 1))))))) (az (aB (aA (ai aq (ai aq am))))) aN) (ax (aK (b6 (kN df ig aj (af 1) (ba bw rfl B.z boot_len (ai (af 0) am)))) (az (aB (aA (ai aq (ai aq am))))) aN) (az (aB (aA (ai aq (ai (ap au (af 0) (af 1)) am)))))))
theorem yA:Fn P w K mg base "told_sum" ["one","other"] 30 (spM K 2 gJ):=aT E 33 ["one","other"] fun B S hr=>(ax (aK (cB (dS (b6 (bb (aQ (fR E) hr (af 0)))) (eK (b6 (bb (aQ (fR E) hr (af 1))))))) (az (aB (aA (ai aq (ai aq am))))) aN) (az (aB (aQ (kG E) hr (aF aV (af 0) (af 1))))))
theorem xZ:Fn P w K mg base "told_join" ["one","other"] 30 (spM K 2 je):=aT E 34 ["one","other"] fun B S hr=>(ax (aK (cB (fu (bb (bN .str B.z (af 0) B.z boot_str)) (fX (bb (bN .str B.z (af 1) B.z boot_str))))) (az (aB (aQ (kG E) hr (aF aV (af 0) (af 1))))) aN) (ax (aK (cB (fu (bb (bN .tup B.z (af 0) B.z boot_tuple)) (fX (bb (bN .tup B.z (af 1) B.z boot_tuple))))) (az (aB (aQ (kG E) hr (aF aV (af 0) (af 1))))) aN) (az (aB (aA (ai aq (ai aq am)))))))
theorem zt:Fn P w K mg base "told_of" ["word","parts"] 31 (spM K 2 bp):=aT E 29 ["word","parts"] fun B S hr=>(ax (aK (aM aU (af 0) aq) (az (aB (aQ (kG E) hr (bZ fq rfl B.z boot_tuple (ai (af 1) am))))) aN) (ax (aK (aM aU (af 0) aq) (az (aB (aQ (xX E) hr (ap au (af 1) aj)))) aN) (ax (aK (aM aU (af 0) aq) (az (aB (bH (xV E) hr (ap au (af 1) aj) (ap au (af 1) aj)))) aN) (ax (aK (aM aU (af 0) aq) (az (aB (bH (yA E) hr (ap au (af 1) aj) (ap au (af 1) aj)))) aN) (ax (aK (aM aU (af 0) aq) (az (aB (bH (xZ E) hr (ap au (af 1) aj) (ap au (af 1) aj)))) aN) (ax (aK (aM aU (af 0) aq) (az (aB (aA (ai aq (ai (de (aM (Et hr) (ap au (af 1) aj) (ap au (af 1) aj)) aj aj) am))))) aN) (az (aB (bH (xY E) hr (ap au (af 1) aj) (ap au (af 1) aj))))))))))
theorem zu:∀n,Fn P w K mg base "told_by" ["expr","got"] (31+n) (spM K 2 (dv n)):=dD (dW E 28) fun n ih=>aT (k:=31+n) E 28 ["expr","got","parts","inner","told"] fun B S hr=>(ax (aK (aM aU (ap au (af 0) aj) aq) (az (aB (aA (ai aq (ai (ap au (af 0) aj) am))))) aN) (ax (aK (aM aU (ap au (af 0) aj) aq) (az (aB (aA (ai aq (ai (ap au (af 1) (ap au (af 0) aj)) am))))) aN) (ax (k8 (i:=2) S.nd am) (ax (cx (i:=3) S.nd (bF (aQ (qb E) hr (af 0))) (ax (aO (i:=4) S.nd (bH ih hr (af 3) (af 1))) (ax (aK (aM aU (ap au (af 4) aj) aq) (az (aB (af 4))) aN) (az (jN (i:=2) (by exact(ap au (af 4) aj))))))) (az (aB (kR (zt E) (hr.mono (by omega)) rfl (ai (ap au (af 0) aj) (ai (af 2) am)) (bi (bi c8)))))))))
theorem rH:∀n,Fn P w K mg base "step_of" ["recipe","got"] (56+n) (spM K 2 (cF n)):=dD (dW E 37) fun n ih=>aT (k:=56+n) E 37 ["recipe","got","told"] fun B S hr=>(ax (aK (aM aU (ap au (af 0) aj) aq) (az (aB (aA (ai aq (ai (ap au (af 0) aj) am))))) aN) (ax (aO (i:=2) S.nd (bH (zu E 25) hr (ap au (af 0) aj) (af 1))) (ax (aK (aM aU (ap au (af 2) aj) aq) (az (aB (af 2))) aN) (ax (aK (aM aU (ap au (af 0) aj) aq) (az (aB (bH ih hr (de (aM (vQ hr) (ap au (af 2) aj) (aA (ai aj (ai aq (ai (aA am) am))))) (ap au (af 0) aj) (ap au (af 0) aj)) (af 1)))) aN) (ax (aK (aM aU (ap au (af 0) aj) aq) (az (aB (aA (ai aq (ai (ap au (af 2) aj) am))))) aN) (ax (aK (b6 (bb (aQ (zw E) hr (ap au (af 2) aj)))) (az (aB (aA (ai aq (ai aq am))))) aN) (az (aB (aA (ai (ap au (af 0) aj) (ai (ap au (af 2) aj) (ai (ap au (af 0) aj) am))))))))))))
theorem Ax:Fn P w K mg base "end_by" ["step"] 27 (spM K 1 iy):=aT E 47 ["step"] fun B S hr=>(ax (aK (aM aU (ap au (af 0) aj) aq) (az (aB (aA (ai aq (ai (aQ (mJ E 25) hr (ap au (af 0) aj)) am))))) aN) (ax (aK (aM aU (ap au (af 0) aj) aq) (az (aB (af 0))) aN) (az (aB (aA (ai aq (ai (ap au (af 0) aj) am)))))))
theorem x3:Fn P w K mg base "line_from" ["name","come"] 28 (spM K 2 jf):=aT E 46 ["name","come","reads"] fun B S hr=>(ax (aO (i:=2) S.nd (bZ fq rfl B.z boot_tuple (ai (eV (top 46) ["name","come","reads"] (bF (ap au (af 1) aj)) (aA (ai (ap au (af 0) aj) (ai (aQ (mJ E 25) hr (ap au (af 0) aj)) am)))) am))) (az (aB (aA (ai (af 0) (ai (af 2) (ai (aQ (Ax E) hr (ap au (af 1) aj)) am)))))))
theorem xG:Fn P w K mg base "lines_from" ["come"] 29 (spM K 1 kg):=aT E 45 ["come","lines","name"] fun B S hr=>(ax (fY (i:=1) S.nd) (ax (cx (i:=2) S.nd (bF (af 0)) (az (dz (i:=1) hr (af 2) (bH (x3 E) hr (af 2) (ap (bT hr) (af 0) (af 2)))))) (az (aB (af 1)))))
theorem yB:Fn P w K mg base "start_of" ["recipe"] 82 (spM K 1 jl):=aT E 41 ["recipe"] fun B S hr=>(az (aB (aA (ai (aA am) (ai (aA am) (ai (bH (rH E 25) hr (af 0) (aA am)) am))))))
theorem qe:Fn P w K mg base "awaited_at" ["come"] 1 (spM K 1 dI):=aT E 43 ["come"] fun B S hr=>(az (aB (de (aM pS (ap au (ap au (af 0) aj) aj) (AI (ss:=["want","peek"]) rfl B.g_GETTING)) (ap au (ap au (af 0) aj) aj) eg)))
theorem BO:Fn P w K mg base "given" ["come","value"] 82 (spM K 2 iE):=aT E 44 ["come","value","step","got","reads"] fun B S hr=>(ax (aO (i:=2) S.nd (ap au (af 0) aj)) (ax (aO (i:=3) S.nd (aF aV (ap au (af 0) aj) (aA (ai (af 1) am)))) (ax (aO (i:=4) S.nd (de (aM aU (ap au (af 2) aj) aq) (aF aV (ap au (af 0) aj) (aA (ai (aA (ai (ap au (af 2) aj) (ai (af 1) am))) am))) (ap au (af 0) aj))) (az (aB (aA (ai (af 3) (ai (af 4) (ai (bH (rH E 25) hr (ap au (af 2) aj) (af 3)) am)))))))))
theorem zx:Fn P w K mg base "gone_on" ["come","good"] 83 (spM K 2 jo):=aT E 42 ["come","good"] fun B S hr=>(ax (kO 100000 (aM (vR hr) (aQ (qe E) hr (af 0)) (af 1)) (az (aO (i:=0) S.nd (bH (BO E) hr (af 0) (ap (bT hr) (af 1) (aQ (qe E) hr (af 0))))))) (az (aB (af 0))))
theorem xw:Fn P w K mg base "made_afresh" ["book"] 84 (spM K 1 ke):=aT E 40 ["book","good","come","name","recipe","grown","many"] fun B S hr=>(ax (nG (i:=1) B.z S.nd (ap au (af 0) aj)) (ax (fY (i:=2) S.nd) (ax (BY (i:=3) (j:=4) S.nd (ap au (af 0) aj) (az (dz (i:=2) hr (af 3) (aQ (yB E) hr (af 4))))) (ax (aO (i:=5) S.nd gu) (ax (kO 100000 (bb (af 5)) (ax (aO (i:=6) S.nd (ba bw rfl B.z boot_len (ai (af 1) am))) (ax (cx (i:=3) S.nd (bF (ap au (af 0) aj)) (ax (dz (i:=2) hr (af 3) (ou (bH (zx E) hr (ap (bT hr) (af 2) (af 3)) (af 1)))) (az (aK (aM aU (ap au (ap au (ap (bT hr) (af 2) (af 3)) aj) aj) aq) (az (dz (i:=1) hr (af 3) (ap au (ap au (ap (bT hr) (af 2) (af 3)) aj) aj))) aN)))) (az (aO (i:=5) S.nd (cI i3 (ba bw rfl B.z boot_len (ai (af 1) am)) (af 6))))))) (az (aB (aA (ai (af 1) (ai (af 2) am))))))))))
theorem yD:Fn P w K mg base "lines_of" ["book"] 85 (spM K 1 jm):=aT E 39 ["book"] fun B S hr=>(az (aB (aQ (xG E) hr (ap au (aQ (xw E) hr (af 0)) aj))))
theorem yC:Fn P w K mg base "own_line" ["recipes","held","name"] 79 (spM K 3 gK):=aT E 49 ["recipes","held","name"] fun B S hr=>(ax (aK (cB (dS (aM (jt hr) (af 2) (af 1)) (dS (aM (jt hr) (af 2) (af 0)) (eK (aM wU (ap au (ap (bT hr) (af 1) (af 2)) aj) (aQ (xu E) hr (ap (bT hr) (af 0) (af 2)))))))) (az (aB eg)) aN) (az (aB (ap au (ap (bT hr) (af 1) (af 2)) aj))))
theorem yF:Fn P w K mg base "is_stale" ["recipes","held","line"] 80 (spM K 3 gL):=aT E 52 ["recipes","held","line","kept"] fun B S hr=>(ax (aO (i:=3) S.nd (bP (yC E) hr (af 0) (af 1) (ap au (af 2) aj))) (az (aB (dC (cI Bx (af 3) eg) (dC (cI (pB hr) (af 3) (af 2)) (gi (vn (aQ (x5 E 25) hr (ap (bT hr) (af 0) (ap au (af 2) aj))))))))))
theorem oi:Fn P w K mg base "stale" ["book","held"] 86 (spO K 2 fg):=wc E 51 ["book","held","lines"] fun B S hr=>(ax (aO (i:=2) S.nd (aQ (yD E) hr (af 0))) (az (AB (osc:=a9 (top 51)) (N:=["book","held","lines"]) (N':=["book","held","lines"]) (x:="name") ⟨rfl,by decide +kernel,by decide +kernel,rfl,by decide +kernel,by decide +kernel,by decide +kernel,by decide +kernel,rfl,by decide +kernel⟩ (bF (nH B.z (af 2))) (fun C s0 H0 ex=>(af 0)) (fun C s0 H0 ex=>ub rfl (bb (bP (yF E) hr (ap au (af 1) aj) (af 2) (ap (bT hr) (af 3) (af 0))))))))
theorem sM:Fn P w K mg base "let_go" ["held","names"] 1 (spO K 2 gQ):=wc E 53 ["held","names","found","name"] fun B S hr=>(ax (nG (i:=2) B.z S.nd (af 0)) (ax (cx (i:=3) S.nd (bF (af 1)) (az (BX (i:=2) (by exact(af 3))))) (az (AC (i:=2)))))
theorem cw:Fn P w K mg base "_law_draw" ["_law_script","_law_k","_law_many"] 1 (spM K 3 bx):=aT E 55 ["_law_script","_law_k","_law_many","_law_cell","_law_left_here","_law_mixed"] fun B S hr=>(ax (aO (i:=3) S.nd aj) (ax (aK (aM i3 (ba bw rfl B.z boot_len (ai (af 0) am)) aj) (ax (aO (i:=3) S.nd (ap au (af 0) (aF gm (af 1) (ba bw rfl B.z boot_len (ai (af 0) am))))) (ax (aO (i:=4) S.nd (aF Es (af 3) (aF dF aj (ba EY rfl B.z boot_min (ai aj (ai (aF nX (af 1) (ba bw rfl B.z boot_len (ai (af 0) am))) am)))))) (az (aK (cB (fu (aM Fu (af 3) (aF jU aj aj)) (fX (aM i3 (af 4) aj)))) (az (aB (aF gm (af 4) (af 2)))) aN)))) aN) (ax (aO (i:=5) S.nd (aF gm (aF dF (aF aV (aF aV (aF aV (aF gm (af 3) aj) (aF dF (aF dF aj (af 1)) (af 1))) (aF dF aj (af 1))) aj) aj) aj)) (az (aB (aF gm (aF nX (aF gm (aF dF (aF nX (af 5) aj) aj) aj) aj) (af 2)))))))
theorem jk:Fn P w K mg base "_law_same" ["_law_found","_law_due"] 1 (spM K 2 cE):=aT E 56 ["_law_found","_law_due"] fun B S hr=>(ax (aK (bb (bN .dct B.z (af 1) B.z boot_dict)) (az (aB (dC (bN .dct B.z (af 0) B.z boot_dict) (gi (cI aU (lb hr B.z (sT B.z (af 0))) (lb hr B.z (sT B.z (af 1)))))))) aN) (az (aB (cI aU (lb hr B.z (af 0)) (lb hr B.z (af 1))))))
theorem jc:∀n,Fn P w K mg base "_law_stamp" ["_law_value_here"] (0+n) (spM K 1 (cD n)):=dD (dW E 57) fun n ih=>aT (k:=0+n) E 57 ["_law_value_here"] fun B S hr=>(ax (aK (bb (bN .int B.z (af 0) B.z boot_int)) (az (aB (bZ ml rfl B.z boot_str (ai (af 0) am)))) aN) (ax (aK (bb (bN .str B.z (af 0) B.z boot_str)) (az (aB (aF aV aq (af 0)))) aN) (az (aB (aF aV (aF aV aq (uh aq (eV (top 57) ["_law_value_here"] (bF (af 0)) (aQ ih hr (af 0))))) aq)))))
theorem xI:Fn P w K mg base "_law_names" ["_law_script","_law_k"] 2 (spM K 2 ja):=aT E 58 ["_law_script","_law_k","_law_menu","_law_first","_law_step"] fun B S hr=>(ax (aO (i:=2) S.nd (bg (ai aq (ai aq (ai aq (ai aq (ai aq (ai aq (ai aq (ai aq (ai aq (ai aq (ai aq (ai aq am)))))))))))))) (ax (aO (i:=3) S.nd (bP (cw E) hr (af 0) (af 1) aj)) (ax (aO (i:=4) S.nd (ap au (bg (ai aj (ai aj (ai aj (ai aj am))))) (bP (cw E) hr (af 0) (aF aV (af 1) aj) aj))) (az (aB (eV (top 58) ["_law_script","_law_k","_law_menu","_law_first","_law_step"] (k9 rfl B.z (aF aV aj (bP (cw E) hr (af 0) (aF aV (af 1) aj) aj))) (ap au (af 3) (aF gm (aF aV (af 4) (aF dF (af 5) (af 0))) aj))))))))
theorem kh:Fn P w K mg base "_law_value" ["_law_script","_law_k","_law_names_here"] 2 (spM K 3 eX):=aT E 59 ["_law_script","_law_k","_law_names_here","_law_some"] fun B S hr=>(ax (aO (i:=3) S.nd (aF aV (bg (ai aj (ai aj (ai aj (ai (lN aj) (ai aq (ai aq (ai aq (ai (aA am) (ai (aA (ai aj (ai aq am))) (ai (aA (ai aq (ai (aA (ai aj am)) am))) (ai (aF jU aj aj) (ai aj (ai aj am)))))))))))))) (af 2))) (az (aB (ap au (af 3) (bP (cw E) hr (af 0) (af 1) (ba bw rfl B.z boot_len (ai (af 3) am)))))))
theorem x9:Fn P w K mg base "_law_expr" ["_law_script","_law_k","_law_names_here"] 3 (spM K 3 ki):=aT E 60 ["_law_script","_law_k","_law_names_here","_law_got","_law_value_here","_law_some"] fun B S hr=>(ax (aO (i:=3) S.nd (aA (ai aq (ai aj am)))) (ax (aO (i:=4) S.nd (aA (ai aq (ai (bP (kh E) hr (af 0) (aF aV (af 1) aj) (af 2)) am)))) (ax (aO (i:=5) S.nd (bg (ai (af 3) (ai (aA (ai aq (ai (af 3) (ai (aA (ai aq (ai aj am))) am)))) (ai (aA (ai aq (ai (af 3) (ai (aA (ai aq (ai aq am))) am)))) (ai (aA (ai aq (ai (af 3) am))) (ai (aA (ai aq (ai (af 3) (ai (af 4) am)))) am))))))) (ax (aO (i:=5) S.nd (aF aV (af 5) (bg (ai (aA (ai aq (ai (aA (ai (af 3) (ai (af 4) am))) am))) (ai (aA (ai aq (ai (af 3) (ai (aA (ai aq (ai aj am))) am)))) (ai (aA (ai aq (ai (af 3) (ai (aA (ai aq (ai aj am))) am)))) (ai (aA (ai aq (ai (af 3) am))) (ai (af 3) am)))))))) (az (aB (ap au (af 5) (bP (cw E) hr (af 0) (af 1) aj))))))))
theorem xx:Fn P w K mg base "_law_recipe" ["_law_script","_law_k","_law_names_here","_law_ways"] 4 (spM K 4 i9):=aT E 61 ["_law_script","_law_k","_law_names_here","_law_ways","_law_one","_law_other","_law_say","_law_expr_here","_law_two","_law_both","_law_later","_law_some"] fun B S hr=>(ax (aO (i:=4) S.nd (aA (ai aq (ai (ap au (af 2) (bP (cw E) hr (af 0) (af 1) (ba bw rfl B.z boot_len (ai (af 2) am)))) am)))) (ax (aO (i:=5) S.nd (aA (ai aq (ai (ap au (af 2) (bP (cw E) hr (af 0) (aF aV (af 1) aj) (ba bw rfl B.z boot_len (ai (af 2) am)))) am)))) (ax (aO (i:=6) S.nd (aA (ai aq (ai (aA (ai aq (ai (bP (kh E) hr (af 0) (aF aV (af 1) aj) (af 2)) am))) am)))) (ax (aO (i:=7) S.nd (bP (x9 E) hr (af 0) (aF aV (af 1) aj) (af 2))) (ax (aO (i:=8) S.nd (bg (ai (aA (ai aq (ai (aA (ai (aA (ai aq (ai aj am))) (ai (aA (ai aq (ai aj am))) am))) am))) (ai (aA (ai aq (ai (aA (ai aq (ai aj am))) (ai (aA (ai aq (ai aj am))) am)))) (ai (aA (ai aq (ai (aA (ai aq (ai aj am))) (ai (aA (ai aq (ai aj am))) am)))) am))))) (ax (aO (i:=9) S.nd (aA (ai aq (ai (ap au (af 8) (bP (cw E) hr (af 0) (aF aV (af 1) aj) aj)) am)))) (ax (aO (i:=10) S.nd (aA (ai aq (ai (af 5) (ai (aA (ai aq (ai (aA (ai aq (ai aj am))) am))) am))))) (ax (aO (i:=11) S.nd (bg (ai (af 6) (ai (aA (ai aq (ai (af 4) (ai (aA (ai aq (ai (af 7) am))) am)))) (ai (aA (ai aq (ai (af 4) (ai (aA (ai aq (ai (af 5) (ai (af 9) am)))) am)))) (ai (aA (ai aq (ai (af 4) (ai (aA (ai aq (ai (af 7) am))) am)))) am)))))) (ax (aO (i:=11) S.nd (aF aV (af 11) (bg (ai (aA (ai aq (ai (af 4) (ai (aA (ai aq (ai (af 7) (ai (af 10) (ai (af 6) am))))) am)))) (ai (aA (ai aq (ai (af 4) (ai (aA (ai aq (ai (aA (ai aq (ai aj am))) (ai (aA (ai aq (ai (aA (ai aq (ai aj am))) am))) am)))) am)))) am))))) (ax (aO (i:=11) S.nd (aF aV (af 11) (bg (ai (aA (ai aq (ai (ap au (af 2) (bP (cw E) hr (af 0) (aF aV (af 1) aj) (ba bw rfl B.z boot_len (ai (af 2) am)))) am))) (ai (aA (ai aq (ai (af 4) (ai (aA (ai aq (ai (af 4) (ai (af 9) am)))) am)))) am))))) (ax (aO (i:=11) S.nd (aF aV (af 11) (bg (ai (aA (ai aq (ai (af 4) (ai (aA (ai aq (ai (af 7) am))) am)))) (ai (aA (ai aq (ai (af 4) (ai (aA (ai aq (ai (af 7) (ai (af 10) (ai (af 6) am))))) am)))) am))))) (ax (aO (i:=11) S.nd (aF aV (af 11) (bg (ai (aA (ai aq (ai (af 4) (ai (aA (ai aq (ai (af 5) (ai (af 9) am)))) am)))) (ai (aA (ai aq (ai (af 4) (ai (aA (ai aq (ai (af 5) (ai (af 9) am)))) am)))) am))))) (az (aB (ap au (af 11) (bP (cw E) hr (af 0) (aF aV (af 1) aj) (af 3)))))))))))))))))
theorem ya:Fn P w K mg base "_law_book" ["_law_script","_law_k","_law_names_here","_law_ways"] 5 (spM K 4 jj):=aT E 62 ["_law_script","_law_k","_law_names_here","_law_ways","_law_told_here","_law_recipes","_law_j"] fun B S hr=>(ax (fY (i:=4) S.nd) (ax (fY (i:=5) S.nd) (ax (cx (i:=6) S.nd (k9 rfl B.z (aF pA (ba bw rfl B.z boot_len (ai (af 2) am)) aj)) (az (aK (aM aU (bP (cw E) hr (af 0) (aF aV (af 1) (aF dF aj (af 6))) aj) aj) (az (dz (i:=4) hr (ap au (af 2) (af 6)) (bP (kh E) hr (af 0) (aF aV (aF aV (af 1) (aF dF aj (af 6))) aj) (af 2)))) (az (dz (i:=5) hr (ap au (af 2) (af 6)) (pW (xx E) hr (af 0) (aF aV (aF aV (af 1) (aF dF aj (af 6))) aj) (af 2) (af 3))))))) (az (aB (aA (ai (af 4) (ai (af 5) am))))))))
theorem qm:∀n,Fn P w K mg base "_law_fits" ["_law_value_here","_law_deep"] (0+n) (spM K 2 (cv n)):=dD (dW E 63) fun n ih=>aT (k:=0+n) E 63 ["_law_value_here","_law_deep"] fun B S hr=>(ax (aK (bb (bN .tup B.z (af 0) B.z boot_tuple)) (az (aB (dC (cI ig (af 1) aj) (dC (cI df (ba bw rfl B.z boot_len (ai (af 0) am)) aj) (gi (ba j7 rfl B.z boot_all (ai (eV (top 63) ["_law_value_here","_law_deep"] (bF (af 0)) (bH ih hr (af 0) (aF aV (af 2) aj))) am))))))) aN) (ax (aK (bb (bN .str B.z (af 0) B.z boot_str)) (az (aB (cI df (ba bw rfl B.z boot_len (ai (af 0) am)) aj))) aN) (az (aB (sW df df (lN (aF jU aj aj)) (af 0) (aF jU aj aj))))))
theorem xy:Fn P w K mg base "_law_of_two" ["_law_word","_law_one","_law_other"] 26 (spM K 3 bB):=aT E 64 ["_law_word","_law_one","_law_other","_law_kinds"] fun B S hr=>(ax (aO (i:=3) S.nd (bg (ai (bN .int B.z (af 1) B.z boot_int) (ai (bN .int B.z (af 2) B.z boot_int) am)))) (ax (aK (aM aU (af 0) aq) (az (aB (bZ wm rfl B.z boot_int (ai (cI aU (aQ (jc E 25) hr (af 1)) (aQ (jc E 25) hr (af 2))) am)))) aN) (ax (aK (aM aU (af 0) aq) (ax (aK (cB (dS (b6 (bb (bN .tup B.z (af 1) B.z boot_tuple))) (eK (b6 (bb (ap au (af 3) aj)))))) (az (aB eg)) aN) (az (aB (de (kN df ig aj (af 2) (ba bw rfl B.z boot_len (ai (af 1) am))) (ap au (af 1) (af 2)) (aA am))))) aN) (ax (aK (aM aU (af 0) aq) (ax (aK (cB (dS (bb (ap au (af 3) aj)) (dS (bb (ap au (af 3) aj)) (eK (aM wU (bN .str B.z (af 1) B.z boot_str) (bN .str B.z (af 2) B.z boot_str)))))) (az (aB eg)) aN) (az (aB (aF aV (af 1) (af 2))))) aN) (ax (aK (aM (pB hr) (af 3) (bg (ai gu (ai gu am)))) (az (aB eg)) aN) (az (aB (de (aM aU (af 0) aq) (aF aV (af 1) (af 2)) (bZ wm rfl B.z boot_int (ai (cI ig (af 1) (af 2)) am))))))))))
theorem ql:∀n,Fn P w K mg base "_law_told" ["_law_expr_here","_law_got"] (26+n) (spM K 2 (bY n)):=dD (dW E 65) fun n ih=>aT (k:=26+n) E 65 ["_law_expr_here","_law_got","_law_parts","_law_part","_law_values","_law_found"] fun B S hr=>(ax (aK (aM aU (ap au (af 0) aj) aq) (az (aB (aA (ai aq (ai (ap au (af 0) aj) am))))) aN) (ax (aK (aM aU (ap au (af 0) aj) aq) (az (aB (aA (ai aq (ai (ap au (af 1) (ap au (af 0) aj)) am))))) aN) (ax (wb (i:=2) (top 65) ["_law_expr_here","_law_got","_law_parts","_law_part","_law_values","_law_found"] ["_law_expr_here","_law_got","_law_parts",".3.","_law_values","_law_found"] S.nd (bF (de (aM aU (ap au (af 0) aj) aq) (ap au (af 0) aj) (gr (af 0) (fZ aj) f7))) (bH ih hr (af 0) (af 2)) ot) (ax (cx (i:=3) S.nd (bF (af 2)) (az (aK (aM aU (ap au (af 3) aj) aq) (az (aB (af 3))) aN))) (ax (wb (i:=4) (top 65) ["_law_expr_here","_law_got","_law_parts","_law_part","_law_values","_law_found"] ["_law_expr_here","_law_got","_law_parts",".3.","_law_values","_law_found"] S.nd (bF (af 2)) (ap au (af 0) aj) ot) (ax (aK (aM aU (ap au (af 0) aj) aq) (az (aB (de (bb (bH (qm E 25) hr (bZ fq rfl B.z boot_tuple (ai (af 4) am)) aj)) (aA (ai aq (ai (bZ fq rfl B.z boot_tuple (ai (af 4) am)) am))) (aA (ai aq (ai aq am)))))) aN) (ax (aK (aM aU (ap au (af 0) aj) aq) (az (aB (de (bb (bN .int B.z (ap au (af 4) aj) B.z boot_int)) (aA (ai aq (ai aq am))) (aA (ai aq (ai (ba bw rfl B.z boot_len (ai (ap au (af 4) aj) am)) am)))))) aN) (ax (aO (i:=5) S.nd (bP (xy E) hr (ap au (af 0) aj) (ap au (af 4) aj) (ap au (af 4) aj))) (ax (aK (aM Ft (af 5) eg) (az (aB (aA (ai aq (ai aq am))))) aN) (ax (aK (cB (fu (aM aU (ap au (af 0) aj) aq) (fX (b6 (kN df ig aj (ap au (af 4) aj) (ba bw rfl B.z boot_len (ai (ap au (af 4) aj) am))))))) (az (aB (aA (ai aq (ai aq am))))) aN) (az (aB (de (bb (bH (qm E 25) hr (af 5) aj)) (aA (ai aq (ai (af 5) am))) (aA (ai aq (ai aq am))))))))))))))))
theorem xr:Fn P w K mg base "_law_is_name" ["_law_thing"] 1 (spM K 1 gE):=aT E 66 ["_law_thing"] fun B S hr=>(ax (aK (cB (dS (b6 (bb (bN .str B.z (af 0) B.z boot_str))) (eK (b6 (kN df df aj (ba bw rfl B.z boot_len (ai (af 0) am)) aj))))) (az (aB gu)) aN) (az (aB (ba j7 rfl B.z boot_all (ai (eV (top 66) ["_law_thing"] (bF (af 0)) (cI pS (af 0) aq)) am)))))
theorem qF:Fn P w K mg base "_law_run" ["_law_recipe_here","_law_good_here"] 52 (spM K 2 gN):=aT E 67 ["_law_recipe_here","_law_good_here","_law_got","_law_reads","_law_value_here"] fun B S hr=>(ax (k8 (i:=2) S.nd am) (ax (k8 (i:=3) S.nd am) (ax (kO 100000 (aM nW (ap au (af 0) aj) (aA (ai aq (ai aq am)))) (ax (aO (i:=4) S.nd (kR (ql E 25) (hr.mono (by omega)) rfl (ai (ap au (af 0) aj) (ai (af 2) am)) (bi (bi c8)))) (ax (aK (aM aU (ap au (af 4) aj) aq) (az (aB (aA (ai (bZ fq rfl B.z boot_tuple (ai (af 3) am)) (ai (af 4) (ai eg am)))))) aN) (az (aK (aM aU (ap au (af 0) aj) aq) (az (aO (i:=0) S.nd (de (aM (vQ hr) (ap au (af 4) aj) (aA (ai aj (ai aq (ai (aA am) am))))) (ap au (af 0) aj) (ap au (af 0) aj)))) (az (aK (b6 (bb (aQ (xr E) hr (ap au (af 4) aj)))) (az (aB (aA (ai (bZ fq rfl B.z boot_tuple (ai (af 3) am)) (ai (aA (ai aq (ai aq am))) (ai eg am)))))) (az (aK (aM (jt hr) (ap au (af 4) aj) (af 1)) (az (aB (aA (ai (bZ fq rfl B.z boot_tuple (ai (af 3) am)) (ai (aA (ai aq (ai (ap au (af 4) aj) am))) (ai eg am)))))) (ax (jN (i:=2) (by exact(ap (bT hr) (af 1) (ap au (af 4) aj)))) (ax (aK (aM aU (ap au (af 0) aj) aq) (az (jN (i:=3) (by exact(aA (ai (ap au (af 4) aj) (ai (aQ (jc E 25) hr (ap au (af 2) (lN aj))) am)))))) aN) (az (aO (i:=0) S.nd (ap au (af 0) aj)))))))))))))) (ax (aO (i:=4) S.nd (aA (ai aq (ai (ap au (af 0) aj) am)))) (ax (aK (aM aU (ap au (af 0) aj) aq) (az (aO (i:=4) S.nd (kR (ql E 25) (hr.mono (by omega)) rfl (ai (ap au (af 0) aj) (ai (af 2) am)) (bi (bi c8))))) aN) (ax (aK (aM aU (ap au (af 4) aj) aq) (az (aB (aA (ai (bZ fq rfl B.z boot_tuple (ai (af 3) am)) (ai (af 4) (ai eg am)))))) aN) (az (aB (aA (ai (bZ fq rfl B.z boot_tuple (ai (af 3) am)) (ai (aA (ai aq (ai (aQ (jc E 25) hr (ap au (af 4) aj)) am))) (ai (ap au (af 4) aj) am))))))))))))
theorem x8:Fn P w K mg base "_law_good" ["_law_book_here"] 53 (spM K 1 ji):=aT E 68 ["_law_book_here","_law_good_here","_law_many","_law_name","_law_told_here"] fun B S hr=>(ax (nG (i:=1) B.z S.nd (ap au (af 0) aj)) (ax (aO (i:=2) S.nd (lN aj)) (ax (kO 100000 (aM ig (af 2) (ba bw rfl B.z boot_len (ai (af 1) am))) (ax (aO (i:=2) S.nd (ba bw rfl B.z boot_len (ai (af 1) am))) (az (cx (i:=3) S.nd (bF (ap au (af 0) aj)) (ax (aO (i:=4) S.nd (ou (bH (qF E) hr (ap (bT hr) (ap au (af 0) aj) (af 3)) (af 1)))) (az (aK (cB (fu (aM (jt hr) (af 3) (af 1)) (fX (aM aU (ap au (ap au (af 4) aj) aj) aq)))) (az (dz (i:=1) hr (af 3) (ap au (af 4) aj))) aN))))))) (az (aB (af 1))))))
theorem qg:Fn P w K mg base "_law_lines" ["_law_book_here"] 54 (spM K 1 gG):=aT E 69 ["_law_book_here","_law_good_here","_law_lines_here","_law_name"] fun B S hr=>(ax (aO (i:=1) S.nd (aQ (x8 E) hr (af 0))) (ax (fY (i:=2) S.nd) (ax (cx (i:=3) S.nd (bF (ap au (af 0) aj)) (az (dz (i:=2) hr (af 3) (aF aV (aA (ai (af 3) am)) (gr (bH (qF E) hr (ap (bT hr) (ap au (af 0) aj) (af 3)) (af 1)) f7 (fZ aj)))))) (az (aB (af 2))))))
theorem qf:∀n,Fn P w K mg base "_law_words" ["_law_thing"] (25+n) (spM K 1 (bX n)):=dD (dW E 70) fun n ih=>aT (k:=25+n) E 70 ["_law_thing","_law_words_here","_law_part"] fun B S hr=>(ax (aK (aM aU (ap au (af 0) aj) aq) (az (aB (bg (ai aq (ai (aQ (jc E 25) hr (ap au (af 0) aj)) am))))) aN) (ax (aK (aM aU (ap au (af 0) aj) aq) (ax (aO (i:=1) S.nd (bg (ai aq (ai (bZ vx rfl B.z boot_str (ai (ba bw rfl B.z boot_len (ai (ap au (af 0) aj) am)) am)) am)))) (ax (cx (i:=2) S.nd (bF (ap au (af 0) aj)) (az (aO (i:=1) S.nd (aF aV (af 1) (aQ ih hr (af 2)))))) (az (aB (af 1))))) aN) (ax (aO (i:=1) S.nd (bg (ai (ap au (af 0) aj) am))) (ax (cx (i:=2) S.nd (bF (gr (af 0) (fZ aj) f7)) (az (aO (i:=1) S.nd (aF aV (af 1) (de (bb (bN .tup B.z (af 2) B.z boot_tuple)) (aQ ih hr (af 2)) (bg (ai (bZ vx rfl B.z boot_str (ai (af 2) am)) am))))))) (az (aB (af 1)))))))
theorem mD:Fn P w K mg base "_law_shown" ["_law_recipe_here"] 51 (spM K 1 gF):=aT E 71 ["_law_recipe_here"] fun B S hr=>(az (aB (sU aq (aQ (qf E 25) hr (af 0)))))
theorem qc:Fn P w K mg base "_law_honest" ["_law_recipe_here"] 51 (spM K 1 iq):=aT E 72 ["_law_recipe_here"] fun B S hr=>(az (aB (cI nW aq (aQ (qf E 25) hr (af 0)))))
theorem xJ:Fn P w K mg base "_law_elder" ["_law_script","_law_k","_law_names_here","_law_book_here"] 3 (spM K 4 jb):=aT E 73 ["_law_script","_law_k","_law_names_here","_law_book_here","_law_told_here","_law_name"] fun B S hr=>(ax (fY (i:=4) S.nd) (ax (cx (i:=5) S.nd (bF (ap au (af 3) aj)) (ax (dz (i:=4) hr (af 5) (ap (bT hr) (ap au (af 3) aj) (af 5))) (az (aK (aM aU (bP (cw E) hr (af 0) (aF aV (af 1) (aF dF aj (ba bw rfl B.z boot_len (ai (af 4) am)))) aj) aj) (az (dz (i:=4) hr (af 5) (bP (kh E) hr (af 0) (aF aV (aF aV (af 1) aj) (aF dF aj (ba bw rfl B.z boot_len (ai (af 4) am)))) (af 2)))) aN)))) (az (aB (aA (ai (af 4) (ai (ap au (af 3) aj) am)))))))
theorem xo:Fn P w K mg base "_law_held_one" ["_law_script","_law_k","_law_name","_law_book_here","_law_lines_here","_law_olds"] 52 (spM K 6 dr):=aT E 74 ["_law_script","_law_k","_law_name","_law_book_here","_law_lines_here","_law_olds","_law_way","_law_makers","_law_other","_law_line","_law_text","_law_reads"] fun B S hr=>(ax (aO (i:=6) S.nd (bP (cw E) hr (af 0) (af 1) aj)) (ax (aO (i:=7) S.nd (nH B.z (ap au (af 3) aj))) (ax (aK (cB (fu (aM i3 (af 6) aj) (fX (aM i3 (ba bw rfl B.z boot_len (ai (af 7) am)) aj)))) (ax (aO (i:=8) S.nd (ap au (af 7) (bP (cw E) hr (af 0) (aF aV (af 1) aj) (ba bw rfl B.z boot_len (ai (af 7) am))))) (ax (aO (i:=9) S.nd (aF aV (aA (ai (af 2) am)) (gr (ap (bT hr) (ap au (bg (ai (af 4) (ai (af 5) am))) (aF pA (af 6) aj)) (af 8)) (fZ aj) f7))) (az (aB (bg (ai (aA (ai (aQ (mD E) hr (ap (bT hr) (ap au (af 3) aj) (af 8))) (ai (af 9) am))) am)))))) aN) (ax (aK (cB (dS (aM (jt hr) (af 2) (ap au (af 3) aj)) (eK (aM aU (af 6) aj)))) (az (aB (bg am))) aN) (ax (aO (i:=10) S.nd (aQ (mD E) hr (ap (bT hr) (ap au (af 3) aj) (af 2)))) (ax (aK (cB (fu (aM aU (af 6) aj) (fX (b6 (bb (aQ (qc E) hr (ap (bT hr) (ap au (af 3) aj) (af 2)))))))) (ax (aO (i:=11) S.nd (gr (aA (ai (aA (ai aq (ai aq am))) (ai (aA (ai aq (ai aq am))) am))) f7 (fZ (bP (cw E) hr (af 0) (aF aV (af 1) aj) aj)))) (az (aB (bg (ai (aA (ai (af 10) (ai (aA (ai (af 2) (ai (af 11) (ai (ap au (bg (ai (aA (ai aq (ai aq am))) (ai (aA (ai aq (ai aq am))) (ai (aA (ai aq (ai aq am))) am)))) (bP (cw E) hr (af 0) (aF aV (af 1) aj) aj)) am)))) am))) am))))) aN) (az (aB (bg (ai (aA (ai (af 10) (ai (ap (bT hr) (ap au (bg (ai (af 4) (ai (af 5) am))) (aF gm (af 6) aj)) (af 2)) am))) am))))))))))
theorem x6:Fn P w K mg base "_law_left" ["_law_held","_law_names_here"] 1 (spM K 2 jh):=aT E 75 ["_law_held","_law_names_here","_law_rest","_law_name"] fun B S hr=>(ax (fY (i:=2) S.nd) (ax (cx (i:=3) S.nd (bF (af 0)) (az (aK (aM nW (af 3) (af 1)) (az (dz (i:=2) hr (af 3) (ap (bT hr) (af 0) (af 3)))) aN))) (az (aB (af 2)))))
theorem Da{f:Addr}{fd:FuncData}(F:Fun K "law" "law" (top 76) f fd):FnOk P w K mg base CX0 87 f fd ["_law_script"] (spM K 1 lY):=EV E ["_law_script","_law_names_here","_law_book_here","_law_lines_here","_law_olds","_law_held","_law_j","_law_pair","_law_due","_law_name","_law_kept","_law_found","_law_some","_law_away","_law_rest"] F fun B S hr=>(ax (aO (i:=1) S.nd (bH (xI E) hr (af 0) aj)) (ax (aO (i:=2) S.nd (pW (ya E) hr (af 0) aj (af 1) (ap au (bg (ai aj (ai aj (ai aj am)))) (bP (cw E) hr (af 0) aj aj)))) (ax (aO (i:=3) S.nd (aQ (qg E) hr (af 2))) (ax (aO (i:=4) S.nd (aQ (qg E) hr (pW (xJ E) hr (af 0) aj (af 1) (af 2)))) (ax (fY (i:=5) S.nd) (ax (cx (i:=6) S.nd (k9 rfl B.z (ba bw rfl B.z boot_len (ai (af 1) am))) (az (cx (i:=7) S.nd (bF (FU (xo E) hr (af 0) (aF aV aj (aF dF aj (af 6))) (ap au (af 1) (af 6)) (af 2) (af 3) (af 4))) (az (dz (i:=5) hr (ap au (af 1) (af 6)) (af 7)))))) (uc 5 (ax (k8 (i:=8) S.nd am) (ax (cx (i:=9) S.nd (bF (nH B.z (af 5))) (az (aK (cB (fu (aM (vR hr) (af 9) (ap au (af 2) aj)) (fu (b6 (bb (aQ (qc E) hr (ap (bT hr) (ap au (af 2) aj) (af 9))))) (fX (aM aU (ap au (ap (bT hr) (af 5) (af 9)) aj) (aQ (mD E) hr (ap (bT hr) (ap au (af 2) aj) (af 9)))))))) (az (aK (aM (pB hr) (ap au (ap (bT hr) (af 5) (af 9)) aj) (ap (bT hr) (af 3) (af 9))) (az (jN (i:=8) (by exact(af 9)))) aN)) aN))) (uc 8 (ax (aO (i:=10) S.nd (BZ B.z (af 5))) (ax (AA (i:=11) (oi E) (hr.mono (by omega)) rfl S.nd (ai (af 2) (ai (af 5) am)) (bi (bi c8))) (ax (aK (b6 (bb (kR (jk E) (hr.mono (by omega)) rfl (ai (af 11) (ai (af 8) am)) (bi (bi c8))))) (az (aB gu)) aN) (ax (aO (i:=12) S.nd (aF aV (wd (top 76) ["_law_script","_law_names_here","_law_book_here","_law_lines_here","_law_olds","_law_held","_law_j","_law_pair","_law_due","_law_name","_law_kept","_law_found","_law_some","_law_away","_law_rest"] ["_law_script","_law_names_here","_law_book_here","_law_lines_here","_law_olds","_law_held",".6.","_law_pair","_law_due","_law_name","_law_kept","_law_found","_law_some","_law_away","_law_rest"] (k9 rfl B.z (ba bw rfl B.z boot_len (ai (af 1) am))) (ap au (af 2) (af 0)) (ub rfl (aM aU (bP (cw E) hr (af 1) (aF aV aj (af 0)) aj) aj))) (bg (ai aq am)))) (ax (cx (i:=13) S.nd (bF (aA (ai (af 8) (ai (af 12) (ai (bg am) am))))) (ax (BV (i:=14) (sM E) (hr.mono (by omega)) rfl S.nd (ai (af 5) (ai (bZ oY rfl B.z boot_list (ai (af 13) am)) am)) (bi (bi c8))) (ax (aK (b6 (bb (ou (bH (jk E) hr (af 14) (bH (x6 E) hr (af 10) (af 13)))))) (az (aB gu)) aN) (az (dz (i:=14) hr aq (aA (ai aq (ai (aA am) am)))))))) (ax (jN (i:=11) (by exact aq)) (az (aB (dC (bH (jk E) hr (rL (oi E) (hr.mono (by omega)) rfl (ai (af 2) (ai (AJ (sM E) (hr.mono (by omega)) rfl (ai (af 5) (ai (af 8) am)) (bi (bi c8))) am)) (bi (bi c8))) (bg am)) (dC (bH (jk E) hr (af 5) (af 10)) (gi (bH (jk E) hr (rL (oi E) (hr.mono (by omega)) rfl (ai (af 2) (ai (af 5) am)) (bi (bi c8))) (af 8)))))))))))))))))))))))
end
theorem all_mk{l:PySem.W.OpenLaw}{w:World}{K:Frag}{h:Heap}{mg:Str->Option Value}{fa:Addr}(X:K.In h)(G:h.Ns mainGlobals mg)(hfa:mg "law"=some (.ref fa))(d:DfL K top zS)(z:ZL K zZ)(i:IL K zI)(s:SL K zT){a_GETTING:Addr}{o_GETTING:Obj}(u_GETTING:PySem.W.nsIn K mainGlobals "GETTING"=some (some (.ref a_GETTING)))(l_GETTING:K.lookup a_GETTING=some o_GETTING)(v_GETTING:pO o_GETTING ["want","peek"]=true)
  (hm:∀ns:List Int,ns.length<=63->∃T',lY [.d (bI ns)] []=some (.bool true,T')) :
  ∃fd:FuncData,(∀(s:Shared) (v:Value),BindsTo s fd ⟨[v],[]⟩ [("_law_script",v)])/\∀base:Heap,K.In base->base.Ns mainGlobals mg->FnOk l.prog w K mg base CX0 87 fa fd ["_law_script"] (lS K):=by
 obtain⟨f0,oc,od,an,sl,kV,dc,pm,cd,ct,a,lk,c,kp⟩:=(d.at (x:="law") (i:=76) (by decide +kernel)).ex;cases hfa.symm.trans (PySem.W.mg_of X G a);exact⟨PySem.W.fnOf "law" "law" (dA (top 76)) (cb (top 76)) (a9 (top 76)) .none kV dc pm an cd ct,fun s v=>.of_eq rfl,fun base _ _=>Az (Da ⟨⟨_,X,G⟩,⟨E1 X G z i s,⟨_,PySem.W.mg_of X G u_GETTING,yO l_GETTING v_GETTING⟩⟩,d⟩ (vb (st:=top 76) lk c kp)) (y9 hm)⟩
theorem walk{l:PySem.W.OpenLaw}{q:Program}{loose:List Str}{XP:(Str->Option Value)->Heap->Prop}{YP:World->Heap->Prop}{d:DefRec}{K:Params->Frag}(hn:l.most=some 63)(hdf:d.params.defaults=[])
  (hY:∀(w:World) (h:Heap),YP w h->(K w.params).In h)
  (F:∀(w:World) (mg:Str->Option Value) (fa:Addr) (h:Heap),(K w.params).In h->h.Ns mainGlobals mg->mg d.name=some (.ref fa) ->
   ∃fd:FuncData,(∀(s:Shared) (u:Value),BindsTo s fd ⟨[u],[]⟩ [("_law_script",u)])/\∀base:Heap,(K w.params).In base->base.Ns mainGlobals mg->FnOk l.prog w (K w.params) mg base CX0 87 fa fd ["_law_script"] (lS (K w.params))) :
  PySem.W.WalkO q loose XP YP l.row.toRowW d [] (fun f vs=>PySem.call f vs):=L2.AY (n:=63) (k:=87) (x:="_law_script") (CX:=fun _=>CX0) (sp:=fun w=>lS (K w.params)) hn (by decide) hdf ⟨rfl,by decide,by decide,rfl⟩ hY F (fun _ _ a ns hl _ hS=>⟨a,ns,rfl,hS,hl,fun _=>rfl⟩) fun _ _ _ _ _ z=>z
open PySem PySem.Spec PySem.Calls PySem.W PyProof.Rows PySem.W.X PySem.W.ZRun
theorem walkZ{q:Program}{loose:List Str}{XP:(Str->Option Value)->Heap->Prop}{K:Params->Frag}{r:RowW}{d:DefRec}{kwd:List (Str×Expr)}
  {w:World}{s₀ s₁:Shared}{mg mb:Str->Option Value}{a:Addr}{o:Obj}{pm cd doc dV kV:Value}{args:List WData}{vals:List Value}{as:List Addr}
  (KX:(K w.params).In s₁.heap) (GR:Ground q loose r.records XP w s₀ mg mb s₁.heap) (ho:s₁.heap.get? a=some o)
  (hd:o.data=.func { docDef d.name d.params d.body d.scope pm cd doc with defaults:=dV,kwdefaults:=kV }) (hcd:s₁.heap.CodeRec cd d.name) (hD:Dflts mg s₁.heap d.params kwd dV kV) (hmg:mg d.name=some (.ref a)) (hg:s₁.gens = #[])
  (hpre:r.claim.pre args=true) (hlay:WData.layableAll args=true) (hrd:ReadsAllW r.records (classAt s₀.heap) s₁.heap vals args as) (hwl:WellAll w.params s₁.heap vals args) (hlo:∀a∈as,(a == sysModules)=false)
  (W:PySem.W.WalkO q loose XP (fun w h=>(K w.params).In h) r d kwd fun f vs=>PySem.call f vs) :
  wpAny (model r.prog w) callerA (PySem.call (.ref a) vals) (fun v s'=>GoodWG r.claim (classAt s₀.heap) (ExcName.means s₀.heap) args s₁ (.ok (.ret v)) s')
    (fun e s'=>GoodWG r.claim (classAt s₀.heap) (ExcName.means s₀.heap) args s₁ (.error e) s') s₁:=W w s₀ s₁ mg mb GR KX a o pm cd doc dV kV ho hd hcd hD hmg hg args vals as hpre hlay hrd hwl hlo
end G
end Internal
namespace PySem.W.Fast
def tw9944807728237057945:=Nat
def tw2571598297457310406:=Nat
def tw14269577176942932526:=Nat
def tw12259973388307802501:=Nat
def tw3165828248735872819:=Nat
def tw15900858086492912537:=Nat
def tw1306877840268836760:=Nat
def tw15180678906340198373:=Nat
def tw11496516030007631993:=Nat
def tw18165924202659105553:=Nat
def tw3517441220506073539:=Nat
def tw2885061806008264764:=Nat
def tw13792729134523813795:=Nat
def tw17034537750828297759:=Nat
def tw10265001051186378427:=Nat
def tw12367793076388027977:=Nat
def tw11218552461332006443:=Nat
def tw14428981563593141229:=Nat
def tw17212990081514656921:=Nat
def tw2765110837489479653:=Nat
def tw15836740318152577499:=Nat
def tw18236534991497035359:=Nat
def tw5043758912147674050:=Nat
def tw3452712031142123040:=Nat
def tw2673518116116865485:=Nat
def tw10633749539913082084:=Nat
def tw17688482988275941588:=Nat
def tw7637784164625910771:=Nat
def tw431089809996153369:=Nat
def tw15005028806969374459:=Nat
def tw13519805798042154930:=Nat
def tw10185609745102400324:=Nat
def tw13650553274452813168:=Nat
def tw16265614183190949736:=Nat
def tw12355054640119245637:=Nat
def tw347028930975174554:=Nat
def tw16200114688355591369:=Nat
def tw414831099537733927:=Nat
def tw8773283983237083632:=Nat
def tw11077287083278538885:=Nat
def tw2146894928110727246:=Nat
def tw67616050239879072:=Nat
def tw14673857803664481400:=Nat
def tw84827400895354369:=Nat
def tw10532081942330692915:=Nat
def tw16594384493162497623:=Nat
def tw3568270099673358663:=Nat
def tw1808750371149139073:=Nat
def tw2281267592824305674:=Nat
def tw10322304954025533645:=Nat
def tw3560027302726385528:=Nat
def tw17481044588445399628:=Nat
def tw3876659046675016722:=Nat
def tw13437864237206891996:=Nat
def tw5198988181912426002:=Nat
def tw540601427883794287:=Nat
def tw4240019244995837490:=Nat
def tw18124112178657799725:=Nat
def tw958691602477067471:=Nat
def tw499442765819314395:=Nat
def tw14408532328438167721:=Nat
def tw16460493486001633174:=Nat
def tw10699115851679792600:=Nat
def tw17930481813255126642:=Nat
def tw11348524011112108498:=Nat
def tw13817786601190747295:=Nat
def tw3739478276995804764:=Nat
def tw14952802036722305663:=Nat
def tw8851905866611463948:=Nat
def tw7859442644293686547:=Nat
def tw5095395181739603973:=Nat
def tw4777126688701243776:=Nat
def tw13629492661741154484:=Nat
def tw13329484070632095784:=Nat
def tw954013796151378086:=Nat
def tw8378081933437382224:=Nat
def tw14685087188925526371:=Nat
def tw1569697616680775083:=Nat
def tw14445821183103516004:=Nat
def tw8165444320446816468:=Nat
def tw9590737791765382683:=Nat
def tw864638802610250964:=Nat
def tw15189548275752699356:=Nat
def tw3430838636816506292:=Nat
def tw1226471272919766198:=Nat
def tw7670409993989141111:=Nat
def tw11555004812289641814:=Nat
def tw642975423550421134:=Nat
def tw5418011973743386721:=Nat
def tw15670998947216678702:=Nat
def tw14203464140376727765:=Nat
def tw13279355436327582988:=Nat
def tw17166759355918998202:=Nat
def tw868494770705119300:=Nat
def tw6290781450355295795:=Nat
def tw6682428704111238626:=Nat
def tw14008184086774055066:=Nat
def tw11328285360468356663:=Nat
def tw12206098626147639981:=Nat
def tw5953463767221890919:=Nat
def tw13937220756279768819:=Nat
def tw4263271608870401483:=Nat
def tw727940676077910818:=Nat
def tw11969146208089359026:=Nat
def tw13813416141399876714:=Nat
def tw6699554957869939291:=Nat
def tw6396074225621960739:=Nat
def tw11575386605622538796:=Nat
def tw5926348403967154896:=Nat
def tw2071603245086976426:=Nat
def tw2045793394610108948:=Nat
def tw3514156317091816545:=Nat
def tw7514671287010443506:=Nat
def tw3073463612359913682:=Nat
def tw6677642319236709731:=Nat
def tw4075740306815052137:=Nat
def tw2171609791104033187:=Nat
def tw14652792735871980852:=Nat
def tw12872222171186278360:=Nat
def tw2584057988724708136:=Nat
def tw619215913281823505:=Nat
def tw8207525178406493364:=Nat
def tw13111251158947150291:=Nat
def tw15647416618494032348:=Nat
def tw3794346233085104220:=Nat
def tw10855179359836824777:=Nat
def tw11656578543713264420:=Nat
def tw2877405897706800198:=Nat
def tw17270197529820491893:=Nat
def tw8517803469109296665:=Nat
def tw6346925018009247073:=Nat
def tw2685268424895176652:=Nat
def tw973197027952826735:=Nat
def tw14844720868389880586:=Nat
def tw17485321456663616368:=Nat
def tw6349381062882256229:=Nat
def tw18027297383528626245:=Nat
def tw10956033317712696005:=Nat
def tw1657610333730465894:=Nat
def tw18059631402278451640:=Nat
def tw15340144128643513367:=Nat
def tw11498262387279794748:=Nat
def tw11255523638288468464:=Nat
def tw3806046901936676550:=Nat
def tw3870970813566470929:=Nat
def tw1933567956304081619:=Nat
def tw8410042580640956093:=Nat
def tw3682801001425456204:=Nat
def tw17588985804590966236:=Nat
def tw17599451623728151202:=Nat
def tw16864422354134476370:=Nat
def tw10125629996790290159:=Nat
def tw2118022060645783984:=Nat
def tw15069146490992977538:=Nat
def tw4236376148687927775:=Nat
def tw5930340878673943787:=Nat
def tw4149293554367528842:=Nat
def tw16284225548195435459:=Nat
def tw6832321290412870341:=Nat
def tw11824484403367940450:=Nat
def tw17155224004221960066:=Nat
def tw8527333106161030029:=Nat
def tw2504776418576960143:=Nat
def tw17109509213339724935:=Nat
def tw17782605952597036233:=Nat
def tw16821313380022728275:=Nat
def tw15692582383154979513:=Nat
def tw5629271793820411766:=Nat
def tw6098531951111018481:=Nat
def tw5435623914498659124:=Nat
def tw9745888650474951839:=Nat
def tw3651173693231993475:=Nat
def tw5383387011597356645:=Nat
def tw16174210518598929408:=Nat
def tw10598661705750503364:=Nat
def tw6655996944617401328:=Nat
def tw11658975014439781167:=Nat
def tw8019604029395783168:=Nat
def tw18303626026291880956:=Nat
def tw17478164071643739046:=Nat
def tw10006232232319990973:=Nat
def tw8076668160436476100:=Nat
def tw2776090864715486239:=Nat
def tw9386312935728228215:=Nat
def tw7308251948589510631:=Nat
def tw12808528025471084393:=Nat
def tw11697452372142299752:=Nat
def tw15020617594398699169:=Nat
def tw12590361817268153795:=Nat
def tw12958794955862416716:=Nat
def tw10060415154951812007:=Nat
def tw1230303497338635999:=Nat
def tw2332031968201215560:=Nat
def tw9323071101908114715:=Nat
def tw15057501856853536497:=Nat
def tw967726033088749621:=Nat
def tw8844711231291755232:=Nat
def tw5651970819624769211:=Nat
def tw8422433500642853834:=Nat
def tw4194213878606200676:=Nat
def tw4420714027485923097:=Nat
def tw18270488307285672469:=Nat
def tw13118553588935578946:=Nat
def tw13458438417020846013:=Nat
def tw5170666575080424675:=Nat
def tw1239494252813313309:=Nat
def tw16725223573215371419:=Nat
def tw5792894435125711841:=Nat
def tw2183062820597077775:=Nat
def tw6744259536748393569:=Nat
def tw14432758647711670124:=Nat
def tw15850547764569064298:=Nat
def tw6002169458266485130:=Nat
def tw9489634960962242741:=Nat
def tw493249846048637742:=Nat
def tw9513172676002052922:=Nat
def tw14786699957032176266:=Nat
def tw12180477551303911759:=Nat
def tw18369643789963813289:=Nat
def tw9021084445614257695:=Nat
def tw16521599587144930468:=Nat
def tw4726874773854090744:=Nat
def tw9142992108010780109:=Nat
def tw1670701180086025105:=Nat
def tw1118958790207599381:=Nat
def tw17393607178575552238:=Nat
def tw70762814465071505:=Nat
def tw17890656678627295966:=Nat
def tw4775426474030610926:=Nat
end PySem.W.Fast
noncomputable def PySem.W.Fast.tw10636350912754791310 : PySem.Program := PySem.Challenge.pw_redo_k73_stale_lines
theorem PySem.W.Fast.te10636350912754791310 : PySem.Challenge.pw_redo_k73_stale_lines = PySem.W.Fast.tw10636350912754791310 := rfl

open Internal
open PySem PySem.W PyProof.Rows PySem.W.X PySem.W.ZRun
set_option maxRecDepth 100000 in
set_option maxHeartbeats 0 in
theorem PySem.Challenge.cw_redo_k73_stale_lines_holds : PySem.Challenge.rw_redo_k73_stale_lines.Holds := by
 w_on; o_law; z_head; (case hw=>w_witness2)
 k_fill
 intro w s₀ s₁ mg mb GR y fa o pm cd doc dV kV ho hd hcd hD hmg hg args vals as L hpre hlay hrd hwl hlo
 z_open y L KX ZH ZN ZT
 clear ZH ZN ZT
 refine G.walkZ KX GR ho hd hcd hD hmg hg hpre hlay hrd hwl hlo ?W
 clear KX GR ho hd hcd hD hmg hg hpre hlay hrd hwl hlo L y
 refine G.walk (l:=PySem.Challenge.rw_redo_k73_stale_lines) rfl rfl (fun w h Y=>Y) ?F
 case F=>
  intro w mg fa h KX GG hmg
  refine' G.all_mk KX GG hmg ?_ ?_ ?_ ?_ ?_ ?_ ?_ G.Ao
  any_goals repeat' first | exact True.intro | refine' D.AG ?_ ?_ | refine' D.AX ?_ ?_ | refine' D.BK ?_ ?_ | refine' D.A5 ?_ ?_
  any_goals first | (refine' D.ER ?a ?l ?c ?k; (case a=>k_is); (case l=>k_is); (case c=>k_is); (case k=>k_is)) | k_is
  all_goals first | rfl | decide +kernel
