import PyProof.Rows.All
import Wide.All
import OpenK.AllK
import Wide.FinOn
import Lean
import PyProof.EqAt
import PyProof.EqKinds
import PyProof.TupleCall
import PySem.Challenge.RW_boughdraw_k53_whole_nothing_meets
set_option Elab.async false
set_option linter.all false
set_option compiler.extract_closed false
set_option maxRecDepth 100000
namespace L2
open PySem PySem.Spec PyProof.Rows
noncomputable abbrev Key:=Sum Int Str
noncomputable def zU:Key->Value->Bool
 |.inl k,v=>Value.isInt k v
 |.inr x,v=>Value.isStrOf x v
noncomputable def HV (w:World):Key->Int
 |.inl k=>hashInt k
 |.inr x=>hashStr w x
theorem cV:∀{k:Key} {v:Value},zU k v=true->(∃i t,k=Sum.inl i/\v=Value.int i t)\/(∃x t,k=Sum.inr x/\v=Value.str x t)
 |.inl i,v,h=>by
  obtain ⟨t,e⟩:=Value.isInt_shape (k:=i) (v:=v) h;exact .inl ⟨i,t,rfl,e⟩
 |.inr x,v,h=>by
  obtain ⟨t,e⟩:=Value.isStrOf_shape (x:=x) (v:=v) h;exact .inr ⟨x,t,rfl,e⟩
theorem AZ (a b:Int):decide ((Sum.inl a:Key)=Sum.inl b)=(a == b):=by
 by_cases e:a=b
 ·subst e;simp
 ·have h:¬(Sum.inl a:Key)=Sum.inl b:=λq=>e (Sum.inl.inj q)
  rw [decide_eq_false h];exact (beq_eq_false_iff_ne.mpr e).symm
theorem Bk (a b:Str):decide ((Sum.inr a:Key)=Sum.inr b)=decide (a=b):=by
 by_cases e:a=b
 ·subst e;simp
 ·have h:¬(Sum.inr a:Key)=Sum.inr b:=λq=>e (Sum.inr.inj q)
  rw [decide_eq_false h,decide_eq_false e]
theorem DX (a:Int) (b:Str):decide ((Sum.inl a:Key)=Sum.inr b)=false:=decide_eq_false (λq=>nomatch q)
theorem CJ (a:Str) (b:Int):decide ((Sum.inr a:Key)=Sum.inl b)=false:=decide_eq_false (λq=>nomatch q)
noncomputable def sI (prog:Program) (w:World):PySem.KeyKind prog w Key where
 is:=zU
 hash:=HV w
 inj:=λv a b ha hb=>by
  rcases cV ha with ⟨i,t,rfl,rfl⟩ | ⟨x,t,rfl,rfl⟩
  ·rcases cV hb with ⟨j,u,rfl,e⟩ | ⟨y,u,rfl,e⟩
   ·injection e with e1 _;rw [e1]
   ·exact nomatch e
  ·rcases cV hb with ⟨j,u,rfl,e⟩ | ⟨y,u,rfl,e⟩
   ·exact nomatch e
   ·injection e with e1 _;rw [e1]
 byValue:=λk v h=>by
  rcases cV h with ⟨i,t,rfl,rfl⟩ | ⟨x,t,rfl,rfl⟩ <;> rfl
 pyHash:=λhv h=>by
  rcases cV hv with ⟨i,t,rfl,rfl⟩ | ⟨x,t,rfl,rfl⟩
  ·exact wpAny_pyHash_int h
  ·exact wpAny_pyHash_str h
 eqBool:=λhu hv h=>by
  rcases cV hu with ⟨i,t,rfl,rfl⟩ | ⟨x,t,rfl,rfl⟩
  ·rcases cV hv with ⟨j,u,rfl,rfl⟩ | ⟨y,u,rfl,rfl⟩
   ·rw [AZ]at h;exact wpAny_eqBool_int h
   ·rw [DX]at h;exact SeqAt.EqAt.int_str i t y u _ _ _ _ h
  ·rcases cV hv with ⟨j,u,rfl,rfl⟩ | ⟨y,u,rfl,rfl⟩
   ·rw [CJ]at h;exact SeqAt.EqAt.str_int x t j u _ _ _ _ h
   ·rw [Bk]at h;exact wpAny_eqBool_str h
 «strs»:=λk x t v h=>by
  rcases cV h with ⟨i,u,rfl,e⟩ | ⟨y,u,rfl,e⟩
  ·exact nomatch e
  ·injection e with e1 _
   subst e1;cases v <;> rfl
end L2
namespace L2
open PySem PySem.Spec PyProof.Rows
inductive V where
 |non | bl (b:Bool) | int (i:Int) | str (x:Str) | byt (b:Array UInt8) | flt (b:UInt64) | ref (a:Addr) | ty (n:String)
 deriving DecidableEq
noncomputable def RelV:V->Value->Prop
 |.non,u=>u=Value.none
 |.bl b,u=>u=Value.bool b
 |.int i,u=>∃t,u=Value.int i t
 |.str x,u=>∃t,u=Value.str x t
 |.byt b,u=>∃t,u=Value.bytes b t
 |.flt b,u=>∃t,u=Value.float b t
 |.ref a,u=>u=Value.ref a
 |.ty n,u=>u=Value.type n
noncomputable abbrev Vals:List V->List Value->Prop:=Paired RelV
theorem Vals.length {xs:List V} {us:List Value} (r:Vals xs us):xs.length=us.length:=Paired.length r
theorem Vals.get:∀{xs:List V} {us:List Value} {i:Nat} {x:V},Vals xs us->xs[i]?=some x->∃u,us[i]?=some u/\RelV x u
 |_,_,_,_,.nil,e=>by simp at e
 |_,_,0,_,.cons r _,e=>by simp at e;subst e;exact ⟨_,rfl,r⟩
 |_,_,i+1,x,.cons _ t,e=>by
  obtain ⟨u,h1,h2⟩:=Vals.get (i:=i) (x:=x) t (by simpa using e)
  exact ⟨u,by simpa using h1,h2⟩
theorem Vals.set {x:V} {u:Value} (r:RelV x u):∀{xs:List V} {us:List Value} (i:Nat),Vals xs us->Vals (xs.set i x) (us.set i u)
 |_,_,_,.nil=>.nil
 |_,_,0,.cons _ t=>.cons r t
 |_,_,i+1,.cons q t=>.cons q (Vals.set r i t)
theorem Vals.append:∀{xs ys:List V} {us ws:List Value},Vals xs us->Vals ys ws->Vals (xs++ys) (us++ws)
 |_,_,_,_,.nil,s=>s
 |_,_,_,_,.cons r t,s=>.cons r (Vals.append t s)
theorem Vals.take:∀{xs:List V} {us:List Value} (n:Nat),Vals xs us->Vals (xs.take n) (us.take n)
 |_,_,0,_=>.nil
 |_,_,_+1,.nil=>.nil
 |_,_,n+1,.cons r t=>.cons r (Vals.take n t)
theorem Vals.drop:∀{xs:List V} {us:List Value} (n:Nat),Vals xs us->Vals (xs.drop n) (us.drop n)
 |_,_,0,r=>r
 |_,_,_+1,.nil=>.nil
 |_,_,n+1,.cons _ t=>Vals.drop n t
noncomputable def nB:Option V->Option Value->Prop
 |some v,some u=>RelV v u
 |none,none=>True
 |_,_=>False
noncomputable def KV {κ:Type}:List (κ×V)->List (κ×Value)->Prop:=Paired λ(p:κ×V) (q:κ×Value)=>p.1=q.1/\RelV p.2 q.2
noncomputable def kV:Key->V
 |.inl i=>.int i
 |.inr x=>.str x
inductive HO where
 |lst (xs:List V)
 |tup (xs:List V)
 |dK (kvs:List (Key×V)) | dT (kvs:List (List Key×V))
 |set (S:Int->Bool) (n:Nat)
 |ins (C dx:Addr) (fs:List (Str×V))
 |own (x:Addr)
 |xd (fs:List (Str×V))
 |met (f x:Addr)
 |rng (lo hi:Int)
 |frz (o:Obj) (u:HO)
 |tbl (ps:Array Value)
 |ext (φ:Heap->Prop)
noncomputable abbrev Hp:=Addr->Option HO
noncomputable def upd (H:Hp) (a:Addr) (o:HO):Hp:=λb=>if b=a then some o else H b
theorem bB {H:Hp} {a:Addr} {o:HO}:upd H a o a=some o:=by unfold upd;rw [if_pos rfl]
theorem aL {H:Hp} {a b:Addr} {o:HO} (h:b≠a):upd H a o b=H b:=by unfold upd;rw [if_neg h]
theorem zc {H:Hp} {a:Addr} {o u:HO}:upd (upd H a o) a u=upd H a u:=by
 funext b;unfold upd;split <;> rfl
theorem aY {H:Hp} {a b:Addr} {o:HO} (h:H a=some o) (h':H b=none):a≠b:=by
 intro e;subst e;rw [h]at h';cases h'
section
variable (P:Program) (w:World)
noncomputable def gU (H:Hp) (h:Heap) (a:Addr):HO->Prop
 |.lst xs=>xs.length<=sizeLine/\∃(its:List Value) (n:Nat),Vals xs its/\h.get? a=some { cls:=.type "list",data:=.seq its.toArray n }
 |.tup xs=>xs.length<=sizeLine/\∃its:List Value,Vals xs its/\IsTup h a its.toArray
 |.dK kvs=>kvs.length<=sizeLine/\(a == sysModules)=false/\∃vs,KV kvs vs/\h.DictOf (sI P w) a vs
 |.dT kvs=>kvs.length<=sizeLine/\(a == sysModules)=false/\∃xs:List (List Key×Addr×Value),
   Paired (λ(p:List Key×V) (q:List Key×Addr×Value)=>p.1=q.1/\H q.2.1=some (.tup (p.1.map kV))/\RelV p.2 q.2.2) kvs xs /\
   ∃o es ep,h.get? a=some o/\o.ExactDict/\o.data=.dict es ep/\es.toList=xs.map (entryOfKey (tupleKind (sI P w)))/\(xs.map (·.1)).Nodup
 |.set S n=>h.SetOf (intKind P w) a S n
 |.ins C dx fs=>H dx=some (.own a)/\fs.length<=1000/\dx≠a/\h.get? a=some (PySem.W.instObj C dx) /\
   ∃mA,h.Ns1 dx mA/\(∀f,nB (fs.lookup f) (mA f))/\PySem.Within mA (fs.map (·.1))
 |.own _=>∃o,h.get? a=some o
 |.xd fs=>∃mA,h.Ns1 a mA/\∀f,nB (fs.lookup f) (mA f)
 |.rng lo hi=>∃t u v,h.get? a=some { cls:=.type "range",data:=.fields #[.int lo t,.int hi u,.int 1 v] }
 |.frz o u=>h.get? a=some o/\gU H h a u
 |.tbl ps=>h.get? a=some { cls:=.none,data:=.fields ps }
 |.met f x=>h.get? a=some (PySem.W.methodObj (.ref f) (.ref x))
 |.ext φ=>φ h/\(∃o,h.get? a=some o)/\∀h1 h2:Heap,φ h1->(∀o,h1.get? a=some o->h2.get? a=some o)->φ h2
noncomputable def HOk (H:Hp) (h:Heap):Prop:=∀a o,H a=some o->gU P w H h a o
end
section
variable {P:Program} {w:World} {H H':Hp} {h h':Heap} {a:Addr} {o:HO}
theorem gU.lt (x:gU P w H h a o):a<h.objs.size:=by
 cases o with
 |lst xs=>obtain ⟨_,_,_,_,e⟩:=x;exact Heap.lt_size e
 |tup xs=>obtain ⟨_,_,_,p⟩:=x;exact p.lt
 |dK kvs=>obtain ⟨_,_,_,_,o,_,_,e,_⟩:=x;exact Heap.lt_size e
 |dT kvs=>obtain ⟨_,_,_,_,o,_,_,e,_⟩:=x;exact Heap.lt_size e
 |set S n=>obtain ⟨o,_,_,_,e,_⟩:=x;exact Heap.lt_size e
 |ins C dx fs=>obtain ⟨_,_,_,e,_⟩:=x;exact Heap.lt_size e
 |own y=>obtain ⟨_,e⟩:=x;exact Heap.lt_size e
 |xd fs=>obtain ⟨_,⟨_,_,_,e,_⟩,_⟩:=x;exact Heap.lt_size e
 |rng lo hi=>obtain ⟨_,_,_,e⟩:=x;exact Heap.lt_size e
 |frz ob u=>obtain ⟨e,_⟩:=x;exact Heap.lt_size e
 |tbl ps=>exact Heap.lt_size (show h.get? a=some _ from x)
 |met f y=>exact Heap.lt_size (show h.get? a=some _ from x)
 |ext φ=>obtain ⟨_,⟨_,e⟩,_⟩:=x;exact Heap.lt_size e
theorem Paired.mapP {α β:Type} {F G:α->β->Prop}:∀{l₁:List α} {l₂:List β},Paired F l₁ l₂->(∀a b,F a b->G a b)->Paired G l₁ l₂
 |_,_,.nil,_=>.nil
 |_,_,.cons r t,f=>.cons (f _ _ r) (Paired.mapP t f)
theorem gU.stay (x:gU P w H h a o) (k:∀b u,(b=a\/H b=some (.own a))->h.get? b=some u->h'.get? b=some u)
  (ho:∀b,H b=some (.own a)->H' b=some (.own a)) (ht:∀b xs,H b=some (.tup xs)->H' b=some (.tup xs)):gU P w H' h' a o:=by
 induction o with
 |lst xs=>obtain ⟨z,its,n,r,e⟩:=x;exact ⟨z,its,n,r,k _ _ (.inl rfl) e⟩
 |tup xs=>obtain ⟨z,its,r,ob,e,c⟩:=x;exact ⟨z,its,r,ob,k _ _ (.inl rfl) e,c⟩
 |dK kvs=>obtain ⟨z,y,vs,r,ob,es,ep,e,c⟩:=x;exact ⟨z,y,vs,r,ob,es,ep,k _ _ (.inl rfl) e,c⟩
 |dT kvs =>
  obtain ⟨z,y,xs,r,ob,es,ep,e,c⟩:=x;exact ⟨z,y,xs,Paired.mapP r λp q z=>⟨z.1,ht _ _ z.2.1,z.2.2⟩,ob,es,ep,k _ _ (.inl rfl) e,c⟩
 |set S n=>obtain ⟨ob,es,ep,t,e,c⟩:=x;exact ⟨ob,es,ep,t,k _ _ (.inl rfl) e,c⟩
 |ins C dx fs =>
  obtain ⟨d,z,ne,e,mA,⟨od,es,ep,e2,c⟩,r⟩:=x;exact ⟨ho _ d,z,ne,k _ _ (.inl rfl) e,mA,⟨od,es,ep,k _ _ (.inr d) e2,c⟩,r⟩
 |own y=>obtain ⟨ob,e⟩:=x;exact ⟨ob,k _ _ (.inl rfl) e⟩
 |xd fs=>obtain ⟨mA,⟨od,es,ep,e,c⟩,r⟩:=x;exact ⟨mA,⟨od,es,ep,k _ _ (.inl rfl) e,c⟩,r⟩
 |rng lo hi=>obtain ⟨t,u,v,e⟩:=x;exact ⟨t,u,v,k _ _ (.inl rfl) e⟩
 |frz ob u ih=>obtain ⟨e,q⟩:=x;exact ⟨k _ _ (.inl rfl) e,ih q⟩
 |tbl ps =>
  have e:h.get? a=some { cls:=.none,data:=.fields ps }:=x;show h'.get? a=some { cls:=.none,data:=.fields ps }
  exact k a _ (.inl rfl) e
 |met f y =>
  have e:h.get? a=some (PySem.W.methodObj (.ref f) (.ref y)):=x;show h'.get? a=some (PySem.W.methodObj (.ref f) (.ref y))
  exact k a _ (.inl rfl) e
 |ext φ=>obtain ⟨p,⟨o,e⟩,st⟩:=x;exact ⟨st _ _ p λo q=>k _ _ (.inl rfl) q,⟨o,k _ _ (.inl rfl) e⟩,st⟩
theorem HOk.lt (x:HOk P w H h) (e:H a=some o):a<h.objs.size:=(x a o e).lt
theorem HOk.fresh (x:HOk P w H h) (e:h.objs.size<=a):H a=none:=by
 cases q:H a with
 |none=>rfl
 |some u=>exact absurd (Nat.lt_of_lt_of_le (x.lt q) e) (Nat.lt_irrefl _)
theorem HOk.kept (x:HOk P w H h) (k:∀b u,h.get? b=some u->h'.get? b=some u):HOk P w H h':=λa o e =>
 (x a o e).stay (λb u _ q=>k b u q) (λ_ q=>q) λ_ _ q=>q
theorem HOk.laid (x:HOk P w H h) (k:∀b u,h.get? b=some u->h'.get? b=some u) (hp:h.objs.size<=a) (new:gU P w (upd H a o) h' a o):HOk P w (upd H a o) h':=λb u e=>by
 have hn:=x.fresh hp;by_cases hb:b=a
 ·subst hb;rw [bB]at e;cases e;exact new
 ·rw [aL hb]at e
  exact (x b u e).stay (λc v _ q=>k c v q) (λc q=>by rw [aL (aY q hn)];exact q) λc xs q=>by rw [aL (aY q hn)];exact q
end
noncomputable def Rd (H:Hp) (a:Addr) (u:HO):Prop:=H a=some u\/∃o,H a=some (.frz o u)
theorem Rd.ok {P:Program} {w:World} {H:Hp} {h:Heap} {a:Addr} {u:HO} (r:Rd H a u) (x:HOk P w H h):gU P w H h a u:=by
 rcases r with r | ⟨o,r⟩
 ·exact x a u r
 ·obtain ⟨_,q⟩:=x a _ r
  exact q
noncomputable def Mut:Option HO->Prop
 |some (.lst _)=>True
 |some (.dK _)=>True
 |some (.dT _)=>True
 |some (.set _ _)=>True
 |some (.ins _ _ _)=>True
 |some (.ext _)=>True
 |_=>False
section
variable {P:Program} {w:World} {H:Hp} {h h':Heap} {x e:Addr} {o':HO}
theorem HOk.write (ok:HOk P w H h) (mu:Mut (H x)) (he:e=x\/H e=some (.own x)) (k:∀b u,b≠e->h.get? b=some u->h'.get? b=some u) (heo:∃u,h'.get? e=some u)
  (new:gU P w (upd H x o') h' x o'):HOk P w (upd H x o') h':=λb u q=>by
 have nown:∀c y,H c=some (.own y)->c≠x:=λc y r z=>by subst z;rw [r]at mu;exact mu
 have ntup:∀c xs,H c=some (.tup xs)->c≠x:=λc xs r z=>by subst z;rw [r]at mu;exact mu
 by_cases hb:b=x
 ·subst hb;rw [bB]at q;cases q;exact new
 ·rw [aL hb]at q
  by_cases hbe:b=e
  ·have q':H b=some (.own x):=by
    rcases he with z | z
    ·exact absurd (hbe.trans z) hb
    ·rw [hbe];exact z
   rw [q]at q';cases q';obtain ⟨v,hv⟩:=heo;exact ⟨v,by rw [hbe];exact hv⟩
  ·refine (ok b u q).stay (λc v hc r=>k c v ?_ r) (λc r=>by rw [aL (nown c b r)];exact r) λc xs r=>by rw [aL (ntup c xs r)];exact r
   rcases hc with rfl | hc
   ·exact hbe
   ·rintro rfl
    rcases he with z | z
    ·exact nown c b hc z
    ·rw [hc]at z;cases z;exact hb rfl
end
structure Un (fs ex:List Addr) (H H':Hp) (h h':Heap):Prop where
 keep:∀b o,h.get? b=some o->H b=none->b∉fs->b∉ex->h'.get? b=some o
 slot:∀b o,h.get? b=some o->H b=none->b∈fs->b∉ex->∃sl,h'.get? b=some { o with slots:=sl }
 free:∀b o,h.get? b=some o->H b=none->b∉ex->H' b=none
 there:∀b o,h.get? b=some o->b∉ex->∃o',h'.get? b=some o'
 tups:∀b xs,H b=some (.tup xs)->H' b=some (.tup xs)
 frzs:∀b o u,H b=some (.frz o u)->H' b=some (.frz o u)
 tbls:∀b ps,H b=some (.tbl ps)->∃more,H' b=some (.tbl (ps++more))
section
variable {fs fs' ex ex':List Addr} {H H1 H2:Hp} {h h1 h2 h':Heap} {a x e:Addr} {o:HO}
theorem Un.any (u:Un fs ex H H1 h h1) {b:Addr} {ob:Obj} (q:h.get? b=some ob) (n:H b=none) (hx:b∉ex):∃sl,h1.get? b=some { ob with slots:=sl }:=by
 by_cases hb:b∈fs
 ·exact u.slot b ob q n hb hx
 ·exact ⟨ob.slots,u.keep b ob q n hb hx⟩
theorem Un.kept (k:∀b u,h.get? b=some u->h'.get? b=some u):Un fs ex H H h h' :=
 ⟨λb ob q _ _ _=>k b ob q,λb ob q _ _ _=>⟨ob.slots,k b ob q⟩,λ_ _ _ n _=>n,λb ob q _=>⟨ob,k b ob q⟩,λ_ _ q=>q,λ_ _ _ q=>q,λ_ ps q=>⟨#[],by rw [q];simp⟩⟩
theorem Un.refl:Un fs ex H H h h:=Un.kept λ_ _ q=>q
theorem Un.laid (k:∀b u,h.get? b=some u->h'.get? b=some u) (hp:h.objs.size<=a) (hn:H a=none):Un fs ex H (upd H a o) h h' where
 keep:=λb u q _ _ _=>k b u q
 slot:=λb u q _ _ _=>⟨u.slots,k b u q⟩
 free:=λb u q n _=>by rw [aL (Nat.ne_of_lt (Nat.lt_of_lt_of_le (Heap.lt_size q) hp))];exact n
 there:=λb u q _=>⟨u,k b u q⟩
 tups:=λb xs q=>by rw [aL (aY q hn)];exact q
 frzs:=λb u xs q=>by rw [aL (aY q hn)];exact q
 tbls:=λb ps q=>⟨#[],by rw [aL (aY q hn),q];simp⟩
theorem Un.write (mu:Mut (H x)) (he:e=x\/H e=some (.own x)) (k:∀b u,b≠e->h.get? b=some u->h'.get? b=some u) (heo:∃u,h'.get? e=some u):Un fs ex H (upd H x o) h h':=by
 have hx:∀b,H b=none->b≠x:=λb n z=>by subst z;rw [n]at mu;exact mu
 have hb:∀b,H b=none->b≠e:=λb n z=>by
  subst z;rcases he with r | r
  ·exact hx b n r
  ·rw [n]at r;cases r
 have hm:∀b u,H b=some u->¬Mut (some u)->b≠x:=λb u q nm z=>by subst z;rw [q]at mu;exact nm mu
 refine ⟨λb u q n _ _=>k b u (hb b n) q,λb u q n _ _=>⟨u.slots,k b u (hb b n) q⟩,λb u q n _=>by rw [aL (hx b n)];exact n,λb u q _=>?_,
  λb xs q=>by rw [aL (hm b _ q λz=>z)];exact q,λb u xs q=>by rw [aL (hm b _ q λz=>z)];exact q,λb ps q=>⟨#[],by rw [aL (hm b _ q λz=>z),q];simp⟩⟩
 by_cases hbe:b=e
 ·subst hbe;exact heo
 ·exact ⟨u,k b u hbe q⟩
end
noncomputable def trk (h:Heap) (H:Hp):List Addr:=(List.range h.objs.size).filter λa=>(H a).isSome
noncomputable def j6 (h:Heap) (H:Hp):Heap:=PySem.W.hideAll h (trk h H)
theorem og (h:Heap) (H:Hp):(j6 h H).objs.size=h.objs.size:=PySem.W.hideAll_size _ _
theorem qG {h:Heap} {H:Hp} {b:Addr} {o:Obj} (e:h.get? b=some o) (n:H b=none):(j6 h H).get? b=some o :=
 PySem.W.hideAll_get _ e λhm=>by
  have q:(H b).isSome=true:=(List.mem_filter.mp hm).2;rw [n]at q;simp at q
theorem tW {h:Heap} {H:Hp} {b:Addr} {o:Obj} (e:(j6 h H).get? b=some o):h.get? b=some o/\H b=none:=by
 have e':h.get? b=some o:=PySem.W.of_hideAll (trk h H) e;refine ⟨e',?_⟩;cases q:H b with
 |none=>rfl
 |some x =>
  have hm:b∈trk h H:=List.mem_filter.mpr ⟨List.mem_range.mpr (Heap.lt_size e'),by simp [q]⟩
  have z:(j6 h H).get? b=none:=PySem.W.hideAll_none (trk h H) hm;rw [z]at e;cases e
noncomputable def yG (g h:Heap) (L:Addr):List (Addr×Obj):=(List.range h.objs.size).filterMap λa=>if a=L\/(g.get? a).isSome=true then none else (h.get? a).map λo=>(a,o)
noncomputable def rest (g h:Heap) (L d:Addr):List (Addr×Obj):=(yG g h L).filter λp=>decide (p.1≠d)
end L2
namespace L2
open PySem PySem.Spec PyProof.Rows
structure Mod (K:PySem.W.Frag) (mg:Str->Option Value) (base:Heap):Prop where
 kin:K.In base
 glob:base.Ns mainGlobals mg
 blt:∃mb,base.Ns builtinsNs mb/\∀x:Str,x ≠ "__name__" -> mb x=bootBuiltins x
 nolimit:base.NoLimit
structure Cx where
 prog:Program
 w:World
 K:PySem.W.Frag
 mg:Str->Option Value
 base:Heap
 A:Around
 N:List Str
 s₀:Shared
 H₀:Hp
 env:Env
 outer:List Env
 stack:List Env
 ex:List Addr
 fn:Str->Bool
 calm:Bool
 pn:List (Addr×Obj)
 xe:Value->Shared->Prop
noncomputable def frs (l:List Env):List Addr:=l.filterMap (·.frame)
noncomputable abbrev Cx.fs (X:Cx):List Addr:=frs X.outer
noncomputable def Vis (sc:Scope) (x:Str):Prop:=sc.names.lookup x=some .local\/sc.names.lookup x=some .cell\/sc.names.lookup x=some .free
noncomputable def Loc (sc:Scope) (x:Str):Prop:=sc.names.lookup x=some .local\/sc.names.lookup x=some .cell
noncomputable def Look (env:Env) (h:Heap) (m:Str->Option Value) (x:Str) (u:Value):Prop :=
 (env.kindOf x=some .local/\m x=some u)\/((env.kindOf x=some .cell\/env.kindOf x=some .free)/\∃c,env.cells.lookup x=some c/\h.IsCell c (some u))
structure Cx.Ok (X:Cx):Prop where
 mod:Mod X.K X.mg X.base
 kind:X.env.scope.kind=.function
 glob:X.env.globals=mainGlobals
 blt:X.env.builtins=builtinsNs
 above:X.s₀.heap.objs.size<=X.env.locals
 inj:∀x y c,X.env.cells.lookup x=some c->X.env.cells.lookup y=some c->x=y
 has:∀x,(X.env.kindOf x=some .cell\/X.env.kindOf x=some .free)->∃c,X.env.cells.lookup x=some c
 cab:∀x c,X.fn x=true->X.env.cells.lookup x=some c->X.s₀.heap.objs.size<=c
 hd:X.calm=true->X.A.handled=none
 frames:X.A.frames=some X.stack
 stk:X.stack=X.outer\/(X.stack=X.env :: X.outer/\X.env.frame=some X.env.locals)
 exf:∀b∈X.ex,b≠X.env.locals/\∀x c,X.env.cells.lookup x=some c->c≠b
 bs:∀b o,X.base.get? b=some o->X.s₀.heap.get? b=some o/\X.H₀ b=none
 bsz:X.base.objs.size<=X.s₀.heap.objs.size
 noex:∀b o,X.base.get? b=some o->b∉X.ex
 exfs:∀b∈X.ex,b∉X.fs
 funs:X.s₀.heap.FunFrames X.base X.outer
 frf:∀b∈X.fs,X.H₀ b=none
structure Inv (X:Cx) (pins:List (Addr×Obj)) (σ:List (Option V)) (H:Hp) (s:Shared):Prop where
 ok:X.Ok
 os:s.os=X.s₀.os
 bare:AllBare s.gens
 base:Un X.fs X.ex X.H₀ H X.s₀.heap s.heap
 loc:∃m,s.heap.Ns X.env.locals m/\∀(i:Nat) (x:Str) (v:V),X.N[i]?=some x->σ[i]?=some (some v)->Vis X.env.scope x->∃u,RelV v u/\Look X.env s.heap m x u
 cell:∀x c,X.env.cells.lookup x=some c->∃v,s.heap.IsCell c v
 free:H X.env.locals=none
 freeC:∀x c,X.env.cells.lookup x=some c->H c=none
 pin:∀p∈X.pn++pins,s.heap.get? p.1=some p.2/\H p.1=none/\p.1≠X.env.locals/\p.1∉X.fs/\∀v,p.2.data≠.cell v
 hok:HOk X.prog X.w H s.heap
 len:σ.length=X.N.length
section
variable {X:Cx} {pins:List (Addr×Obj)} {σ:List (Option V)} {H H':Hp} {s:Shared} {h':Heap}
theorem Cx.Ok.nofr (ok:X.Ok) {b:Addr} {o:Obj} (e:X.base.get? b=some o):b∉X.fs:=λhb=>by
 have:=(ok.funs.mem hb).1;rw [e]at this;cases this
theorem Inv.bs (I:Inv X pins σ H s):∀b o,X.base.get? b=some o->s.heap.get? b=some o/\H b=none:=λb o e =>
 ⟨I.base.keep b o (I.ok.bs b o e).1 (I.ok.bs b o e).2 (I.ok.nofr e) (I.ok.noex b o e),I.base.free b o (I.ok.bs b o e).1 (I.ok.bs b o e).2 (I.ok.noex b o e)⟩
theorem Inv.bk (I:Inv X pins σ H s):∀b o,X.base.get? b=some o->s.heap.get? b=some o:=λb o e=>(I.bs b o e).1
theorem Inv.mod (I:Inv X pins σ H s):Mod X.K X.mg X.base:=I.ok.mod
theorem Inv.kIn (I:Inv X pins σ H s):X.K.In s.heap:=I.ok.mod.kin.keeps I.bk
theorem Inv.nolimit (I:Inv X pins σ H s):s.heap.NoLimit:=I.ok.mod.nolimit.keeps I.bk
theorem Inv.fr (I:Inv X pins σ H s):∃m,Fr X.base X.env.locals s.heap m :=
 let ⟨m,hn,_⟩:=I.loc
 ⟨m,hn,I.bk,Nat.le_trans I.ok.bsz I.ok.above⟩
theorem Inv.lt (I:Inv X pins σ H s):X.env.locals<s.heap.objs.size:=let ⟨_,hn,_⟩:=I.loc;hn.lt
theorem Inv.sz (I:Inv X pins σ H s):X.s₀.heap.objs.size<=s.heap.objs.size:=Nat.le_trans I.ok.above (Nat.le_of_lt I.lt)
theorem Inv.nofs (I:Inv X pins σ H s) {a:Addr} (h:s.heap.objs.size<=a):a∉X.fs:=λhb=>by
 obtain ⟨_,o,ho,_⟩:=I.ok.funs.mem hb;exact absurd (Nat.lt_of_lt_of_le (Heap.lt_size ho) (Nat.le_trans I.sz h)) (Nat.lt_irrefl _)
theorem Inv.cne (I:Inv X pins σ H s):∀x c,X.env.cells.lookup x=some c->c≠X.env.locals:=λx c e z=>by
 obtain ⟨v,o,ho,hd⟩:=I.cell x c e;obtain ⟨m,⟨o',es,ep,ho',hd',_⟩,_⟩:=I.loc;rw [z,ho']at ho;cases ho;rw [hd']at hd;cases hd
theorem Inv.funs (I:Inv X pins σ H s):s.heap.FunFrames X.base X.outer:=by
 have all:∀(l:List Env),(∀b∈frs l,b∈X.fs)->X.s₀.heap.FunFrames X.base l->s.heap.FunFrames X.base l:=by
  intro l
  induction l with
  |nil=>intro _ _;trivial
  |cons env r ih =>
   intro hs hl;obtain ⟨hk,⟨L,o,hf,hn,ho,hd⟩,hr⟩:=hl;have hL:L∈X.fs:=hs L (by unfold frs;rw [List.filterMap_cons,hf];exact List.mem_cons_self)
   obtain ⟨sl,e⟩:=I.base.slot L o ho (I.ok.frf L hL) hL λz=>I.ok.exfs L z hL
   exact ⟨hk,⟨L,_,hf,hn,e,hd⟩,ih (λb hb=>hs b (by unfold frs;rw [List.filterMap_cons,hf];exact List.mem_cons_of_mem _ hb)) hr⟩
 exact all X.outer (λ_ hb=>hb) I.ok.funs
theorem Inv.stack (I:Inv X pins σ H s):s.heap.FunFrames X.base X.stack:=by
 rcases I.ok.stk with e | ⟨e,hf⟩
 ·rw [e];exact I.funs
 ·rw [e]
  obtain ⟨m,hn,_⟩:=I.loc;refine .cons (by rw [I.ok.kind];decide) hf hn ?_ I.funs
  exact Heap.get?_none_of_le (Nat.le_trans I.ok.bsz I.ok.above)
theorem Inv.stkSub (I:Inv X pins σ H s):∀b∈frs X.stack,b∈X.env.locals :: X.fs:=λb hb=>by
 rcases I.ok.stk with e | ⟨e,hf⟩
 ·rw [e]at hb;exact List.mem_cons_of_mem _ hb
 ·rw [e]at hb
  unfold frs at hb;rw [List.filterMap_cons,hf]at hb;exact hb
theorem Inv.stkFree (I:Inv X pins σ H s):∀b∈frs X.stack,H b=none:=λb hb=>by
 rcases List.mem_cons.mp (I.stkSub b hb) with e | hb
 ·rw [e];exact I.free
 ·obtain ⟨_,o,ho,_⟩:=I.ok.funs.mem hb
  exact I.base.free b o ho (I.ok.frf b hb) λz=>I.ok.exfs b z hb
theorem Inv.step {g':Array GenState} {t':Nat} {d':Drawn} {ch:List Addr} (I:Inv X pins σ H s)
  (hch:∀b∈ch,(b∈X.ex\/X.s₀.heap.objs.size<=b)/\b≠X.env.locals/\(∀x c,X.env.cells.lookup x=some c->c≠b)/\∀p∈X.pn++pins,p.1≠b)
  (keep:∀b o,b≠X.env.locals->b∉X.fs->b∉ch->s.heap.get? b=some o->H b=none->h'.get? b=some o)
  (slot:∀b o,b≠X.env.locals->b∈X.fs->b∉ch->s.heap.get? b=some o->H b=none->∃sl,h'.get? b=some { o with slots:=sl }) (free:∀b o,b∉ch->s.heap.get? b=some o->H b=none->H' b=none)
  (there:∀b o,b∉ch->s.heap.get? b=some o->∃o',h'.get? b=some o')
  (tups:∀b xs,H b=some (.tup xs)->H' b=some (.tup xs)) (frzs:∀b o u,H b=some (.frz o u)->H' b=some (.frz o u)) (tbls:∀b ps,H b=some (.tbl ps)->∃more,H' b=some (.tbl (ps++more)))
  (ns:∀m,s.heap.Ns X.env.locals m->h'.Ns X.env.locals m) (hok:HOk X.prog X.w H' h') (hg:AllBare g') :
  Inv X pins σ H' { s with heap:=h',gens:=g',drawn:=d',toks:=t' }:=by
 have neL:∀b o,X.s₀.heap.get? b=some o->b≠X.env.locals:=λb o e=>Nat.ne_of_lt (Nat.lt_of_lt_of_le (Heap.lt_size e) I.ok.above)
 have neC:∀b o,X.s₀.heap.get? b=some o->b∉X.ex->b∉ch:=λb o e hx hb=>by
  rcases (hch b hb).1 with z | z
  ·exact hx z
  ·exact absurd (Nat.lt_of_lt_of_le (Heap.lt_size e) z) (Nat.lt_irrefl _)
 have cellK:∀x c,X.env.cells.lookup x=some c->∀v,s.heap.IsCell c v->h'.IsCell c v:=λx c e v ⟨o,ho,hd⟩=>by
  have nch:c∉ch:=λz=>(hch c z).2.2.1 x c e rfl
  by_cases hc:c∈X.fs
  ·obtain ⟨sl,q⟩:=slot c o (I.cne x c e) hc nch ho (I.freeC x c e)
   exact ⟨_,q,hd⟩
  ·exact ⟨o,keep c o (I.cne x c e) hc nch ho (I.freeC x c e),hd⟩
 refine ⟨I.ok,I.os,hg,⟨λb o e n hb hx=>?_,λb o e n hb hx=>?_,λb o e n hx=>?_,λb o e hx=>?_,λb xs e=>tups b xs (I.base.tups b xs e),λb o xs e=>frzs b o xs (I.base.frzs b o xs e),λb ps e=>?_⟩,?_,λx c e=>?_,?_,λx c e=>?_,λp hp=>?_,hok,I.len⟩
 ·exact keep b o (neL b o e) hb (neC b o e hx) (I.base.keep b o e n hb hx) (I.base.free b o e n hx)
 ·obtain ⟨sl,e1⟩:=I.base.slot b o e n hb hx
  obtain ⟨sl',e2⟩:=slot b _ (neL b o e) hb (neC b o e hx) e1 (I.base.free b o e n hx);exact ⟨sl',e2⟩
 ·obtain ⟨o',e1⟩:=I.base.there b o e hx
  exact free b o' (neC b o e hx) e1 (I.base.free b o e n hx)
 ·obtain ⟨o',e1⟩:=I.base.there b o e hx
  exact there b o' (neC b o e hx) e1
 ·obtain ⟨m1,e1⟩:=I.base.tbls b ps e
  obtain ⟨m2,e2⟩:=tbls b _ e1;exact ⟨m1++m2,by rw [e2,Array.append_assoc]⟩
 ·obtain ⟨m,hn,hl⟩:=I.loc
  refine ⟨m,ns m hn,λi x v e1 e2 e3=>?_⟩
  obtain ⟨u,r,l⟩:=hl i x v e1 e2 e3;refine ⟨u,r,?_⟩;rcases l with l | ⟨k,c,e,z⟩
  ·exact .inl l
  ·exact .inr ⟨k,c,e,cellK x c e _ z⟩
 ·obtain ⟨v,z⟩:=I.cell x c e
  exact ⟨v,cellK x c e v z⟩
 ·obtain ⟨m,⟨o,_,_,ho,_⟩,_⟩:=I.loc
  exact free _ o (λz=>(hch _ z).2.1 rfl) ho I.free
 ·obtain ⟨v,o,ho,hd⟩:=I.cell x c e
  exact free c o (λz=>(hch c z).2.2.1 x c e rfl) ho (I.freeC x c e)
 ·obtain ⟨e,n,ne,nf,d⟩:=I.pin p hp
  have nch:p.1∉ch:=λz=>(hch p.1 z).2.2.2 p hp rfl
  exact ⟨keep p.1 p.2 ne nf nch e n,free p.1 p.2 nch e n,ne,nf,d⟩
theorem Inv.un {t':Nat} (I:Inv X pins σ H s) (u:Un X.fs [] H H' s.heap h') (hok:HOk X.prog X.w H' h'):Inv X pins σ H' { s with heap:=h',toks:=t' }:=by
 obtain ⟨m,⟨o,es,ep,ho,r⟩,_⟩:=id I.loc;obtain ⟨sl,hL⟩:=u.any ho I.free (by simp)
 exact I.step (g':=s.gens) (d':=s.drawn) (ch:=[]) (λ_ z=>nomatch z) (λb o _ hb _ e n=>u.keep b o e n hb (by simp)) (λb o _ hb _ e n=>u.slot b o e n hb (by simp)) (λb o _ e n=>u.free b o e n (by simp)) (λb o _ e=>u.there b o e (by simp)) u.tups u.frzs u.tbls (λm' hm=>by
  obtain ⟨o',es',ep',ho',r'⟩:=hm;rw [ho]at ho';cases ho';exact ⟨_,es',ep',hL,r'⟩) hok I.bare
theorem Inv.call {g':Array GenState} {t':Nat} {d':Drawn} {ch:List Addr} (I:Inv X pins σ H s) (u:Un (frs X.stack) ch H H' s.heap h') (hok:HOk X.prog X.w H' h') (hg:AllBare g')
  (hch:∀b∈ch,(b∈X.ex\/X.s₀.heap.objs.size<=b)/\b≠X.env.locals/\(∀x c,X.env.cells.lookup x=some c->c≠b)/\∀p∈X.pn++pins,p.1≠b) :
  Inv X pins σ H' { s with heap:=h',gens:=g',drawn:=d',toks:=t' }:=by
 obtain ⟨m,⟨o,es,ep,ho,r⟩,_⟩:=id I.loc;obtain ⟨sl,hL⟩:=u.any ho I.free λz=>(hch _ z).2.1 rfl
 exact I.step (ch:=ch) hch (λb o hL hb hc e n=>u.keep b o e n (λz=>(List.mem_cons.mp (I.stkSub b z)).elim hL hb) hc) (λb o _ _ hc e n=>u.any e n hc) (λb o hc e n=>u.free b o e n hc) (λb o hc e=>u.there b o e hc) u.tups u.frzs u.tbls (λm' hm=>by
  obtain ⟨o',es',ep',ho',r'⟩:=hm;rw [ho]at ho';cases ho';exact ⟨_,es',ep',hL,r'⟩) hok hg
theorem Inv.turned {t':Nat} {it:Addr} (I:Inv X pins σ H s) (k:∀b o,b≠it->s.heap.get? b=some o->h'.get? b=some o) (hn:H it=none) (hL:it≠X.env.locals)
  (h1:it∈X.ex\/X.s₀.heap.objs.size<=it) (h2:∀x c,X.env.cells.lookup x=some c->c≠it) (h3:∀p∈X.pn++pins,p.1≠it):Inv X pins σ H { s with heap:=h',toks:=t' }:=by
 have nit:∀b u,H b=some u->b≠it:=λb u e z=>by rw [z,hn]at e;cases e
 refine I.step (g':=s.gens) (d':=s.drawn) (ch:=[it]) (λb hb=>?_) (λb o _ _ hc e _=>k b o (λz=>hc (by simp [z])) e) (λb o _ _ hc e _=>⟨o.slots,k b o (λz=>hc (by simp [z])) e⟩) (λ_ _ _ _ n=>n)
  (λb o hc e=>⟨o,k b o (λz=>hc (by simp [z])) e⟩) (λ_ _ e=>e) (λ_ _ _ e=>e) (λb ps e=>⟨#[],by rw [e];simp⟩) (λm hm=>?_) (λb u e=>?_) I.bare
 ·have e:b=it:=by simpa using hb
  subst e;exact ⟨h1,hL,h2,h3⟩
 ·obtain ⟨o,es,ep,ho,r⟩:=hm
  exact ⟨o,es,ep,k _ o (Ne.symm hL) ho,r⟩
 ·refine (I.hok b u e).stay (λc v hc q=>k c v ?_ q) (λ_ q=>q) λ_ _ q=>q
  rcases hc with z | z
  ·rw [z];exact nit b u e
  ·exact nit c _ z
theorem Inv.tok (I:Inv X pins σ H s) (t:Nat):Inv X pins σ H { s with toks:=t }:=I.un (h':=s.heap) (t':=t) Un.refl I.hok
theorem Inv.kept {t':Nat} (I:Inv X pins σ H s) (k:∀b u,s.heap.get? b=some u->h'.get? b=some u):Inv X pins σ H { s with heap:=h',toks:=t' }:=I.un (Un.kept k) (I.hok.kept k)
theorem Inv.laid {a:Addr} {o:HO} {t':Nat} (I:Inv X pins σ H s) (k:∀b u,s.heap.get? b=some u->h'.get? b=some u) (hp:s.heap.objs.size<=a) (new:gU X.prog X.w (upd H a o) h' a o) :
  Inv X pins σ (upd H a o) { s with heap:=h',toks:=t' }:=I.un (Un.laid k hp (I.hok.fresh hp)) (I.hok.laid k hp new)
theorem Inv.write {x e:Addr} {o:HO} {t':Nat} (I:Inv X pins σ H s) (mu:Mut (H x)) (he:e=x\/H e=some (.own x)) (k:∀b u,b≠e->s.heap.get? b=some u->h'.get? b=some u) (heo:∃u,h'.get? e=some u)
  (new:gU X.prog X.w (upd H x o) h' x o):Inv X pins σ (upd H x o) { s with heap:=h',toks:=t' }:=I.un (Un.write mu he k heo) (I.hok.write mu he k heo new)
theorem Inv.weak {σ':List (Option V)} (I:Inv X pins σ H s) (hl:σ'.length=σ.length) (w:∀(i:Nat) v,σ'[i]?=some (some v)->σ[i]?=some (some v)):Inv X pins σ' H s :=
 ⟨I.ok,I.os,I.bare,I.base,let ⟨m,hn,hl'⟩:=I.loc;⟨m,hn,λi x v e1 e2 e3=>hl' i x v e1 (w i v e2) e3⟩,I.cell,I.free,I.freeC,I.pin,I.hok,hl.trans I.len⟩
theorem Inv.pins_of {pins':List (Addr×Obj)} (I:Inv X pins σ H s) (h:∀p∈pins',s.heap.get? p.1=some p.2/\H p.1=none/\p.1≠X.env.locals/\p.1∉X.fs/\∀v,p.2.data≠.cell v):Inv X pins' σ H s :=
 ⟨I.ok,I.os,I.bare,I.base,I.loc,I.cell,I.free,I.freeC,λp hp=>(List.mem_append.mp hp).elim (λz=>I.pin p (List.mem_append_left _ z)) (h p),I.hok,I.len⟩
theorem qD {N:List Str} (hN:N.Nodup) {i j:Nat} {x:Str} (a:N[i]?=some x) (b:N[j]?=some x):i=j:=by
 obtain ⟨h1,e1⟩:=List.getElem?_eq_some_iff.mp a;obtain ⟨h2,e2⟩:=List.getElem?_eq_some_iff.mp b;exact (List.getElem_inj hN).mp (e1.trans e2.symm)
theorem um {M:Model} {A:Around} {E:Value->Shared->Prop} {i:Nat} {x:Str} {v:V} {u:Value} {Q:Unit->Shared->Prop} (I:Inv X pins σ H s) (hN:X.N.Nodup) (hi:X.N[i]?=some x) (hx:Loc X.env.scope x) (r:RelV v u)
  (h:∀s',Inv X pins (σ.set i (some v)) H s'->(∃a,Heap.SameBut a s.heap s'.heap/\(a=X.env.locals\/X.env.cells.lookup x=some a))->Q () s') (hf:X.fn x=true\/X.env.scope.names.lookup x=some .local:=by first | exact .inl rfl | exact .inr rfl | assumption):wpAny M A (storeName X.env x u) Q E s:=by
 obtain ⟨m,hn,hl⟩:=id I.loc;have hcls:(X.env.scope.kind == .class || (X.env.scope.kind == .module && X.env.locals != X.env.globals))=false:=by rw [I.ok.kind];rfl
 have hiσ:i<σ.length:=by rw [I.len];exact (List.getElem?_eq_some_iff.mp hi).1
 have cne:=I.cne;have tracked:∀{a:Addr} {h':Heap},(∃o,s.heap.get? a=some o/\H a=none)->Heap.SameBut a s.heap h'->HOk X.prog X.w H h':=fun {a h'} ha hs b ob e=>by
  obtain ⟨_,_,hfree⟩:=ha;refine (I.hok b ob e).stay (λc w' hc q=>(hs.2 c ?_).trans q) (λ_ q=>q) λ_ _ q=>q
  rintro rfl;rcases hc with rfl | hc
  ·rw [hfree]at e;cases e
  ·rw [hfree]at hc;cases hc
 rcases hx with hk | hk
 ·refine wpAny_storeName_local hk hn (λh' hn' hs=>?_) hcls
  obtain ⟨oL,_,_,hoL,_⟩:=id hn;refine h _ ⟨I.ok,I.os,I.bare,⟨λb o e n hb hx=>?_,λb o e n hb hx=>?_,I.base.free,λb o e hx=>?_,I.base.tups,I.base.frzs,I.base.tbls⟩,⟨_,hn',λj y v' e1 e2 e3=>?_⟩,λy c e=>?_,I.free,I.freeC,λp hp=>?_,tracked ⟨oL,hoL,I.free⟩ hs,by simpa using I.len⟩ ⟨_,hs,.inl rfl⟩
  ·exact (hs.2 b (Nat.ne_of_lt (Nat.lt_of_lt_of_le (Heap.lt_size e) I.ok.above))).trans (I.base.keep b o e n hb hx)
  ·obtain ⟨sl,e1⟩:=I.base.slot b o e n hb hx
   exact ⟨sl,(hs.2 b (Nat.ne_of_lt (Nat.lt_of_lt_of_le (Heap.lt_size e) I.ok.above))).trans e1⟩
  ·obtain ⟨o',e1⟩:=I.base.there b o e hx
   exact ⟨o',(hs.2 b (Nat.ne_of_lt (Nat.lt_of_lt_of_le (Heap.lt_size e) I.ok.above))).trans e1⟩
  ·by_cases hj:j=i
   ·subst hj
    rw [hi]at e1;cases e1;rw [List.getElem?_set_self hiσ]at e2;cases e2;exact ⟨u,r,.inl ⟨hk,by simp⟩⟩
   ·rw [List.getElem?_set_ne (Ne.symm hj)]at e2
    obtain ⟨u',r',q⟩:=hl j y v' e1 e2 e3;refine ⟨u',r',?_⟩;rcases q with ⟨k,e⟩ | ⟨k,c,e,z⟩
    ·refine .inl ⟨k,?_⟩
     have:y≠x:=λe=>hj (qD hN e1 (e▸hi))
     simp [this,e]
    ·exact .inr ⟨k,c,e,z.sameBut hs (cne y c e)⟩
  ·obtain ⟨w',z⟩:=I.cell y c e
   exact ⟨w',z.sameBut hs (cne y c e)⟩
  ·obtain ⟨e,n,ne,nf,d⟩:=I.pin p hp
   exact ⟨(hs.2 p.1 ne).trans e,n,ne,nf,d⟩
 ·have hfn:X.fn x=true:=by
   rcases hf with z | z
   ·exact z
   ·rw [z]at hk;cases hk
  obtain ⟨c,hc⟩:=I.ok.has x (.inl hk);obtain ⟨w',z⟩:=I.cell x c hc;refine wpAny_storeName_cell I.ok.kind hk hc z (λh' hc' hs=>?_)
  obtain ⟨oc,hoc,hocd⟩:=id z;refine h { s with heap:=h' } ⟨I.ok,I.os,I.bare,⟨λb o e n hb hx=>?_,λb o e n hb hx=>?_,I.base.free,λb o e hx=>?_,I.base.tups,I.base.frzs,I.base.tbls⟩,⟨m,hn.sameBut hs (Ne.symm (cne x c hc)),λj y v' e1 e2 e3=>?_⟩,λy c' e=>?_,I.free,I.freeC,λp hp=>?_,tracked ⟨oc,hoc,I.freeC x c hc⟩ hs,by simpa using I.len⟩ ⟨c,hs,.inr hc⟩
  ·exact (hs.2 b (Nat.ne_of_lt (Nat.lt_of_lt_of_le (Heap.lt_size e) (I.ok.cab x c hfn hc)))).trans (I.base.keep b o e n hb hx)
  ·obtain ⟨sl,e1⟩:=I.base.slot b o e n hb hx
   exact ⟨sl,(hs.2 b (Nat.ne_of_lt (Nat.lt_of_lt_of_le (Heap.lt_size e) (I.ok.cab x c hfn hc)))).trans e1⟩
  ·obtain ⟨o',e1⟩:=I.base.there b o e hx
   exact ⟨o',(hs.2 b (Nat.ne_of_lt (Nat.lt_of_lt_of_le (Heap.lt_size e) (I.ok.cab x c hfn hc)))).trans e1⟩
  ·by_cases hj:j=i
   ·subst hj
    rw [hi]at e1;cases e1;rw [List.getElem?_set_self hiσ]at e2;cases e2;exact ⟨u,r,.inr ⟨.inl hk,c,hc,hc'⟩⟩
   ·rw [List.getElem?_set_ne (Ne.symm hj)]at e2
    obtain ⟨u',r',q⟩:=hl j y v' e1 e2 e3;refine ⟨u',r',?_⟩;rcases q with q | ⟨k,c',e,z'⟩
    ·exact .inl q
    ·refine .inr ⟨k,c',e,z'.sameBut hs ?_⟩
     rintro rfl;exact hj (qD hN e1 (I.ok.inj _ _ _ e hc▸hi))
  ·by_cases hcc:c'=c
   ·subst hcc;exact ⟨_,hc'⟩
   ·obtain ⟨w2,z2⟩:=I.cell y c' e
    exact ⟨w2,z2.sameBut hs hcc⟩
  ·obtain ⟨e,n,ne,nf,d⟩:=I.pin p hp
   refine ⟨(hs.2 p.1 ?_).trans e,n,ne,nf,d⟩;intro q;rw [q,hoc]at e;have q':oc=p.2:=Option.some.inj e;exact d w' (by rw [<-q'];exact hocd)
theorem mO {M:Model} {A:Around} {E:Value->Shared->Prop} {i:Nat} {x:Str} {v:V} {u:Value} {Q:Unit->Shared->Prop} (I:Inv X pins σ H s) (hN:X.N.Nodup) (hi:X.N[i]?=some x) (hx:Loc X.env.scope x) (r:RelV v u)
  (h:∀s',Inv X pins (σ.set i (some v)) H s'->Q () s') (hf:X.fn x=true\/X.env.scope.names.lookup x=some .local:=by first | exact .inl rfl | exact .inr rfl | assumption):wpAny M A (storeName X.env x u) Q E s :=
 um I hN hi hx r (λs' I' _=>h s' I') hf
theorem Inv.call' {s':Shared} {ch:List Addr} (I:Inv X pins σ H s) (ho:s'.os=s.os) (u:Un (frs X.stack) ch H H' s.heap s'.heap) (hok:HOk X.prog X.w H' s'.heap) (hg:AllBare s'.gens)
  (hch:∀b∈ch,(b∈X.ex\/X.s₀.heap.objs.size<=b)/\b≠X.env.locals/\(∀x c,X.env.cells.lookup x=some c->c≠b)/\∀p∈X.pn++pins,p.1≠b):Inv X pins σ H' s':=by
 obtain ⟨h',g',d',t',o'⟩:=s';have e:o'=s.os:=ho;subst e;exact I.call (g':=g') (t':=t') (d':=d') u hok hg hch
end
noncomputable abbrev XK:=Value->Option Addr->Hp->Prop
noncomputable abbrev St:=List (Option V)
noncomputable abbrev VK:=V->Hp->Prop
noncomputable abbrev TE:=St->Hp->VK->Prop
noncomputable abbrev TT:=St->Hp->(Bool->Hp->Prop)->Prop
noncomputable abbrev TA:=St->Hp->(List V->Hp->Prop)->Prop
structure Ends where
 nx:St->Hp->Prop
 rt:VK
 bk:St->Hp->Prop:=λ_ _=>False
 ct:St->Hp->Prop:=λ_ _=>False
noncomputable abbrev TS:=Ends->St->Hp->Prop
noncomputable def EP (X:Cx) (pins:List (Addr×Obj)) (σ:St) (Q:VK) (u:Value) (s':Shared):Prop:=∃v H',Inv X pins σ H' s'/\RelV v u/\Q v H'
noncomputable def TP (X:Cx) (pins:List (Addr×Obj)) (σ:St) (Q:Bool->Hp->Prop) (b:Bool) (s':Shared):Prop:=∃H',Inv X pins σ H' s'/\Q b H'
noncomputable def AP (X:Cx) (pins:List (Addr×Obj)) (σ:St) (Q:List V->Hp->Prop) (us:List Value) (s':Shared):Prop:=∃vs H',Inv X pins σ H' s'/\Vals vs us/\Q vs H'
noncomputable def SP (X:Cx) (pins:List (Addr×Obj)) (D:Ends) (f:Flow) (s':Shared):Prop :=
 match f with
 |.next=>∃σ' H',Inv X pins σ' H' s'/\D.nx σ' H'
 |.brk=>∃σ' H',Inv X pins σ' H' s'/\D.bk σ' H'
 |.cont=>∃σ' H',Inv X pins σ' H' s'/\D.ct σ' H'
 |.ret u=>∃v σ' H',Inv X pins σ' H' s'/\RelV v u/\D.rt v H'
noncomputable def PE (X:Cx) (e:Expr) (t:TE):Prop :=
 ∀(pins:List (Addr×Obj)) (s:Shared) (σ:St) (H:Hp) (Q:VK),Inv X pins σ H s->t σ H Q->wpAny (model X.prog X.w) X.A (eval e X.env) (EP X pins σ Q) X.xe s
noncomputable def PT (X:Cx) (e:Expr) (t:TT):Prop :=
 ∀(pins:List (Addr×Obj)) (s:Shared) (σ:St) (H:Hp) (Q:Bool->Hp->Prop),Inv X pins σ H s->t σ H Q->wpAny (model X.prog X.w) X.A (isTrue e X.env (eval e X.env)) (TP X pins σ Q) X.xe s
noncomputable def PW (X:Cx) (e:Expr) (t:TT):Prop :=
 ∀(whole:Sem Value) (pins:List (Addr×Obj)) (s:Shared) (σ:St) (H:Hp) (Q:Bool->Hp->Prop),Inv X pins σ H s->t σ H Q->wpAny (model X.prog X.w) X.A (isTrue e X.env whole) (TP X pins σ Q) X.xe s
theorem PW.pt {X:Cx} {e:Expr} {t:TT} (h:PW X e t):PT X e t:=h _
noncomputable def PA (X:Cx) (es:List Expr) (t:TA):Prop :=
 ∀(pos:Pos) (pins:List (Addr×Obj)) (s:Shared) (σ:St) (H:Hp) (Q:List V->Hp->Prop),Inv X pins σ H s->t σ H Q->wpAny (model X.prog X.w) X.A (spliced (backTo pos (starEach es X.env))) (AP X pins σ Q) X.xe s
noncomputable def PS (X:Cx) (st:Stmt) (t:TS):Prop :=
 ∀(pins:List (Addr×Obj)) (s:Shared) (σ:St) (H:Hp) (D:Ends),Inv X pins σ H s->t D σ H->wpAny (model X.prog X.w) X.A (exec st X.env) (SP X pins D) X.xe s
noncomputable def PSs (X:Cx) (st:List Stmt) (t:TS):Prop :=
 ∀(pins:List (Addr×Obj)) (s:Shared) (σ:St) (H:Hp) (D:Ends),Inv X pins σ H s->t D σ H->wpAny (model X.prog X.w) X.A (execs st X.env) (SP X pins D) X.xe s
theorem thn {α:Type} {t:Sem α} {Q Q':α->Shared->Prop} {M:Model} {A:Around} {E:Value->Shared->Prop} {s:Shared} (h:wpAny M A t Q E s) (hQ:∀a s,Q a s->Q' a s):wpAny M A t Q' E s:=wpAny_mono h hQ λ_ _ x=>x
end L2
namespace L2
open PySem PySem.Spec PyProof.Rows
section
variable {X:Cx}
theorem bin {a b:Expr} {ta tb:TE} (ha:PE X a ta) (hb:PE X b tb) {pins:List (Addr×Obj)} {s:Shared} {σ:St} {H:Hp} {R:V->V->Hp->Prop} (I:Inv X pins σ H s) (h:ta σ H λx H1=>tb σ H1 λy H2=>R x y H2)
  {α:Type} {Q:α->Shared->Prop} {f:Value->Value->Sem α}
  (hf:∀v u s2 x y H2,Inv X pins σ H2 s2->RelV x v->RelV y u->R x y H2->wpAny (model X.prog X.w) X.A (f v u) Q X.xe s2) :
  wpAny (model X.prog X.w) X.A (eval a X.env) (λv s₁=>wpAny (model X.prog X.w) X.A (eval b X.env) (λu s₂=>wpAny (model X.prog X.w) X.A (f v u) Q X.xe s₂) X.xe s₁) X.xe s:=by
 refine thn (ha pins s σ H _ I h) λv s1 ⟨x,H1,I1,r1,q1⟩=>?_
 refine thn (hb pins s1 σ H1 _ I1 q1) λu s2 ⟨y,H2,I2,r2,q2⟩=>?_
 exact hf v u s2 x y H2 I2 r1 r2 q2
noncomputable def jJ (i:Nat):TE:=fun σ H Q=>∃v,σ[i]?=some (some v)/\Q v H
noncomputable def tC (v:V):TE:=λ_ H Q=>Q v H
theorem gm {i:Nat} {x:Str} {pos:Pos} (hN:X.N[i]?=some x) (hv:Vis X.env.scope x) (hd:(x == ("__debug__" : Str))=false:=by decide) (hcd:(x == ("__classdict__" : Str))=false:=by decide):PE X (.Name x pos) (jJ i):=by
 intro pins s σ H Q I h;obtain ⟨v,e,h⟩:=h;obtain ⟨m,hn,hl⟩:=I.loc;obtain ⟨u,r,l⟩:=hl i x v hN e hv;have fin:EP X pins σ Q u s:=⟨v,H,I,r,h⟩;rcases l with ⟨hk,hm⟩ | ⟨hk,c,hc,hcell⟩
 ·exact wpAny_Name (wpAny_loadName_local I.ok.kind hk hn hm fin) hd
 ·rcases hk with hk | hk
  ·exact wpAny_Name (wpAny_loadName_cell I.ok.kind hk hc hcell fin) hd
  ·exact wpAny_Name (wpAny_loadName_free I.ok.kind hk hc hcell fin hcd) hd
theorem BR {i j pos}:PE X (.Constant (.int i) j pos) (tC (.int i)):=λ_ _ _ H _ I h=>wpAny_Constant_int ⟨.int i,H,I.tok _,⟨_,rfl⟩,h⟩
theorem GS {b j pos}:PE X (.Constant (.bool b) j pos) (tC (.bl b)):=λ_ _ _ H _ I h=>Constant_bool ⟨.bl b,H,I,rfl,h⟩
theorem Dd {x j pos}:PE X (.Constant (.str x) j pos) (tC (.str x)):=λ_ _ _ H _ I h=>Calls.Constant_str ⟨.str x,H,I.tok _,⟨_,rfl⟩,h⟩
noncomputable def Gl (X:Cx) (x:Str):Prop:=X.env.kindOf x=some .globalImplicit
theorem mh {E:Value->Shared->Prop} {pins:List (Addr×Obj)} {s:Shared} {σ:St} {H:Hp} {x:Str} {u:Value} {pos:Pos} {Q:Value->Shared->Prop} (I:Inv X pins σ H s) (hg:Gl X x) (hm:X.mg x=some u) (h:Q u s)
  (hd:(x == ("__debug__" : Str))=false:=by decide):wpAny (model X.prog X.w) X.A (eval (.Name x pos) X.env) Q E s :=
 Calls.Name_function_global I.ok.kind hg (Calls.loadGlobal_global (by rw [I.ok.glob];exact I.mod.glob.keeps I.bk) hm h) hd
theorem ik {E:Value->Shared->Prop} {pins:List (Addr×Obj)} {s:Shared} {σ:St} {H:Hp} {x:Str} {u:Value} {pos:Pos} {Q:Value->Shared->Prop} (I:Inv X pins σ H s) (hg:Gl X x) (hm:X.mg x=none) (hv:bootBuiltins x=some u) (h:Q u s)
  (hn:x ≠ "__name__" := by decide) (hd:(x == ("__debug__" : Str))=false:=by decide):wpAny (model X.prog X.w) X.A (eval (.Name x pos) X.env) Q E s:=by
 obtain ⟨mb,h1,h2⟩:=I.mod.blt;exact Calls.Name_function_global I.ok.kind hg (Calls.loadGlobal_builtin (by rw [I.ok.glob];exact I.mod.glob.keeps I.bk) hm (by rw [I.ok.blt];exact h1.keeps I.bk) ((h2 x hn).trans hv) h) hd
theorem yC {x:Str} {v:V} {u:Value} {pos:Pos} (hg:Gl X x) (hm:X.mg x=some u) (r:RelV v u) (hd:(x == ("__debug__" : Str))=false:=by decide):PE X (.Name x pos) (tC v) :=
 λ_ _ _ H _ I h=>mh I hg hm ⟨v,H,I,r,h⟩ hd
theorem zr {x:Str} {v:V} {u:Value} {pos:Pos} (hg:Gl X x) (hm:X.mg x=none) (hv:bootBuiltins x=some u) (r:RelV v u) (hn:x ≠ "__name__" := by decide) (hd:(x == ("__debug__" : Str))=false:=by decide):PE X (.Name x pos) (tC v) :=
 λ_ _ _ H _ I h=>ik I hg hm hv ⟨v,H,I,r,h⟩ hn hd
variable {a b:Expr} {ta tb:TE} {pos:Pos}
noncomputable def PC (X:Cx) (op:CmpOp) (a b:Expr) (t:TE):Prop :=
 ∀(pins:List (Addr×Obj)) (s:Shared) (σ:St) (H:Hp) (Q:VK),Inv X pins σ H s->t σ H Q ->
  wpAny (model X.prog X.w) X.A (eval a X.env) (λv s₁=>wpAny (model X.prog X.w) X.A (eval b X.env) (λu s₂=>wpAny (model X.prog X.w) X.A (compareOp op v u) (EP X pins σ Q) X.xe s₂) X.xe s₁) X.xe s
theorem xD (b:Expr) {op:CmpOp} (h:op≠.In) (h2:op≠.NotIn):behindInMarks op b=false:=by
 have e1:(op == CmpOp.In)=false:=by cases op <;> first | rfl | exact absurd rfl h
 have e2:(op == CmpOp.NotIn)=false:=by cases op <;> first | rfl | exact absurd rfl h2
 cases b <;> simp [behindInMarks,e1,e2]
noncomputable def tB (t:TE):TT:=fun σ H Q=>t σ H λx H1=>∃c,x=.bl c/\Q c H1
theorem HW {op:CmpOp} {t:TE} (h:PC X op a b t) (h1:behindInMarks op b=false:=by first | exact xD _ (by decide) (by decide) | rfl):PT X (.Compare a [op] [b] pos) (tB t):=by
 intro pins s σ H Q I hw;refine wpAny_isTrue_Compare1 (thn (h pins s σ H _ I hw) λv s1 h1=>thn h1 λu s2 h2=>thn h2 λc s3 ⟨x,H1,I1,r1,q1⟩=>?_) h1
 obtain ⟨d,rfl,q⟩:=q1;cases r1;exact wpAny_truthy_bool ⟨H1,I1,q⟩
theorem BZ {e:Expr} {t:TE} (h:PE X e t) (he:∀whole,isTrue e X.env whole=(do let v <-whole;standAt e.pos;holding [v] (truthy v)):=by intro _;rfl):PT X e (tB t):=by
 intro pins s σ H Q I hw;refine isTrue_plain (thn (h pins s σ H _ I hw) λv s1 ⟨x,H1,I1,r1,q1⟩=>?_) (he _)
 obtain ⟨d,rfl,q⟩:=q1;cases r1;exact wpAny_truthy_bool ⟨H1,I1,q⟩
variable {tA tB':TT} {rest:List Expr}
noncomputable def FQ (t u:TT):TT:=fun σ H Q=>t σ H λc H1=>if c=true then u σ H1 Q else Q false H1
noncomputable def tOr (t u:TT):TT:=fun σ H Q=>t σ H λc H1=>if c=true then Q true H1 else u σ H1 Q
noncomputable def FT (t:TT):TT:=fun σ H Q=>t σ H λc H1=>Q (!c) H1
theorem zF (ha:PT X a tA):PW X (.BoolOp .And [a] pos) tA:=by
 intro wh pins s σ H Q I h;refine isTrue_and (thn (ha pins s σ H Q I h) λc s1 e=>?_)
 cases c with
 |true=>exact isTrue_and_nil e
 |false=>exact e
theorem BG (ha:PT X a tA):PW X (.BoolOp .Or [a] pos) tA:=by
 intro wh pins s σ H Q I h;refine isTrue_or (thn (ha pins s σ H Q I h) λc s1 e=>?_)
 cases c with
 |false=>exact isTrue_or_nil e
 |true=>exact e
theorem BD (ha:PT X a tA) (hb:PW X (.BoolOp .And (b :: rest) pos) tB'):PW X (.BoolOp .And (a :: b :: rest) pos) (FQ tA tB'):=by
 intro wh pins s σ H Q I h;refine isTrue_and (thn (ha pins s σ H _ I h) λc s1 ⟨H1,I1,q1⟩=>?_)
 cases c with
 |true=>exact hb wh pins s1 σ H1 Q I1 q1
 |false=>exact ⟨H1,I1,q1⟩
theorem Eg (ha:PT X a tA) (hb:PW X (.BoolOp .Or (b :: rest) pos) tB'):PW X (.BoolOp .Or (a :: b :: rest) pos) (tOr tA tB'):=by
 intro wh pins s σ H Q I h;refine isTrue_or (thn (ha pins s σ H _ I h) λc s1 ⟨H1,I1,q1⟩=>?_)
 cases c with
 |true=>exact ⟨H1,I1,q1⟩
 |false=>exact hb wh pins s1 σ H1 Q I1 q1
theorem Bp (ha:PT X a tA):PT X (.UnaryOp .Not a pos) (FT tA):=by
 intro pins s σ H Q I h;exact isTrue_not (ha pins s σ H (λc H1=>Q (!c) H1) I h)
noncomputable def Aw (ta tb:TE):TE:=fun σ H Q=>ta σ H λx H1=>∃c,x=.bl c/\if c=true then tb σ H1 Q else Q (.bl false) H1
noncomputable def FU (ta tb:TE):TE:=fun σ H Q=>ta σ H λx H1=>∃c,x=.bl c/\if c=true then Q (.bl true) H1 else tb σ H1 Q
noncomputable def Ad (ta:TE):TE:=fun σ H Q=>ta σ H λx H1=>∃c,x=.bl c/\Q (.bl (!c)) H1
theorem Bc {op} {t:TE} (h:PE X a t):PE X (.BoolOp op [a] pos) t:=λpins s σ H Q I hw=>BoolOp_one (h pins s σ H Q I hw)
theorem BJ (ha:PE X a ta) (hb:PE X (.BoolOp .And (b :: rest) pos) tb):PE X (.BoolOp .And (a :: b :: rest) pos) (Aw ta tb):=by
 intro pins s σ H Q I h;refine BoolOp_and (thn (ha pins s σ H _ I h) λv s1 ⟨x,H1,I1,r1,q1⟩=>?_)
 obtain ⟨c,rfl,q1⟩:=q1;cases r1;refine wpAny_truthy_bool ?_;cases c with
 |true=>exact hb pins s1 σ H1 Q I1 q1
 |false=>exact ⟨.bl false,H1,I1,rfl,q1⟩
theorem GG (ha:PE X a ta) (hb:PE X (.BoolOp .Or (b :: rest) pos) tb):PE X (.BoolOp .Or (a :: b :: rest) pos) (FU ta tb):=by
 intro pins s σ H Q I h;refine BoolOp_or (thn (ha pins s σ H _ I h) λv s1 ⟨x,H1,I1,r1,q1⟩=>?_)
 obtain ⟨c,rfl,q1⟩:=q1;cases r1;refine wpAny_truthy_bool ?_;cases c with
 |false=>exact hb pins s1 σ H1 Q I1 q1
 |true=>exact ⟨.bl true,H1,I1,rfl,q1⟩
theorem BI (ha:PE X a ta):PE X (.UnaryOp .Not a pos) (Ad ta):=by
 intro pins s σ H Q I h;refine UnaryOp_ (thn (ha pins s σ H _ I h) λv s1 ⟨x,H1,I1,r1,q1⟩=>?_)
 obtain ⟨c,rfl,q1⟩:=q1;cases r1;exact not_of (wpAny_truthy_bool ⟨.bl (!c),H1,I1,rfl,q1⟩)
noncomputable def tIf (t:TT) (ta tb:TE):TE:=fun σ H Q=>t σ H λc H1=>if c=true then ta σ H1 Q else tb σ H1 Q
theorem vP {c:Expr} (hc:PT X c tA) (ha:PE X a ta) (hb:PE X b tb):PE X (.IfExp c a b pos) (tIf tA ta tb):=by
 intro pins s σ H Q I h;refine wpAny_IfExp (thn (hc pins s σ H _ I h) λd s1 ⟨H1,I1,q1⟩=>?_)
 cases d with
 |true=>exact ha pins s1 σ H1 Q I1 q1
 |false=>exact hb pins s1 σ H1 Q I1 q1
end
end L2
namespace L2
open PySem PySem.Spec PyProof.Rows
noncomputable def SqL (K:PySem.W.Frag) (H:Hp) (a:Addr) (xs:List V):Prop :=
 Rd H a (.lst xs) \/
  ∃(o:Obj) (its:Array Value) (n:Nat),K.lookup a=some o/\o.cls=.type "list" /\ o.dict=none/\o.data=.seq its n/\its.size<=sizeLine/\Vals xs its.toList
noncomputable def SqT (K:PySem.W.Frag) (H:Hp) (a:Addr) (xs:List V):Prop :=
 Rd H a (.tup xs) \/
  ∃(o:Obj) (its:Array Value) (n:Nat),K.lookup a=some o/\o.cls=.type "tuple" /\ o.data=.seq its n/\its.size<=sizeLine/\Vals xs its.toList
noncomputable def Ia:Value->Option V
 |.none=>some .non
 |.bool b=>some (.bl b)
 |.int i _=>some (.int i)
 |.str x _=>some (.str x)
 |.bytes b _=>some (.byt b)
 |.float b _=>some (.flt b)
 |.ref a=>some (.ref a)
 |.type n=>some (.ty n)
 |_=>none
theorem RelV.abs {x:V} {u:Value} (r:RelV x u):Ia u=some x:=by
 cases x with
 |non=>cases r;rfl
 |bl _=>cases r;rfl
 |int _=>obtain ⟨t,rfl⟩:=r;rfl
 |str _=>obtain ⟨t,rfl⟩:=r;rfl
 |byt _=>obtain ⟨t,rfl⟩:=r;rfl
 |flt _=>obtain ⟨t,rfl⟩:=r;rfl
 |ref _=>cases r;rfl
 |ty _=>cases r;rfl
theorem RelV.inj {x y:V} {u:Value} (r:RelV x u) (q:RelV y u):x=y:=Option.some.inj (r.abs.symm.trans q.abs)
theorem Vals.inj:∀{xs ys:List V} {us:List Value},Vals xs us->Vals ys us->xs=ys
 |_,_,_,.nil,.nil=>rfl
 |_,_,_,.cons r t,.cons r' t'=>by rw [r.inj r',Vals.inj t t']
section
variable {X:Cx} {pins:List (Addr×Obj)} {σ:St} {H:Hp} {s:Shared} {a:Addr} {xs ys:List V}
theorem SqL.of {K:PySem.W.Frag} (h:H a=some (.lst xs)):SqL K H a xs:=.inl (.inl h)
theorem SqT.of {K:PySem.W.Frag} (h:H a=some (.tup xs)):SqT K H a xs:=.inl (.inl h)
theorem Inv.list (I:Inv X pins σ H s) (h:SqL X.K H a xs):∃its:List Value,Vals xs its/\PlainL s.heap a its.toArray/\xs.length<=sizeLine:=by
 rcases h with h | ⟨o,its,n,hk,hc,hd,hs,hz,r⟩
 ·obtain ⟨z,its,n,r,e⟩:=h.ok I.hok
  exact ⟨its,r,⟨_,n,e,rfl,rfl,rfl⟩,z⟩
 ·refine ⟨its.toList,r,⟨o,n,I.kIn a o hk,hc,hd,by simpa using hs⟩,?_⟩
  have e:=r.length;simp only [Array.length_toList]at e
  lia
theorem Inv.tuple (I:Inv X pins σ H s) (h:SqT X.K H a xs):∃its:List Value,Vals xs its/\IsTup s.heap a its.toArray/\xs.length<=sizeLine:=by
 rcases h with h | ⟨o,its,n,hk,hc,hs,hz,r⟩
 ·obtain ⟨z,its,r,p⟩:=h.ok I.hok
  exact ⟨its,r,p,z⟩
 ·refine ⟨its.toList,r,⟨o,I.kIn a o hk,hc,n,by simpa using hs⟩,?_⟩
  have e:=r.length;simp only [Array.length_toList]at e
  lia
theorem Inv.list_inj (I:Inv X pins σ H s) (h:SqL X.K H a xs) (h':SqL X.K H a ys):xs=ys:=by
 obtain ⟨its,r,⟨o,n,e,_,_,d⟩,_⟩:=I.list h;obtain ⟨its',r',⟨o',n',e',_,_,d'⟩,_⟩:=I.list h';rw [e]at e';cases e';rw [d]at d';injection d' with d1 _
 have:its=its':=by simpa using congrArg Array.toList d1
 subst this;exact r.inj r'
theorem Inv.tuple_inj (I:Inv X pins σ H s) (h:SqT X.K H a xs) (h':SqT X.K H a ys):xs=ys:=by
 obtain ⟨its,r,⟨o,e,_,n,d⟩,_⟩:=I.tuple h;obtain ⟨its',r',⟨o',e',_,n',d'⟩,_⟩:=I.tuple h';rw [e]at e';cases e';rw [d]at d';injection d' with d1 _
 have:its=its':=by simpa using congrArg Array.toList d1
 subst this;exact r.inj r'
end
noncomputable abbrev Cx.wish (X:Cx) (E:Value->Shared->Prop):Cx:={ X with xe:=E }
noncomputable abbrev Cx.nox (X:Cx):Cx:=X.wish λ_ _=>False
theorem Cx.Ok.wish {X:Cx} (ok:X.Ok) (E:Value->Shared->Prop):(X.wish E).Ok :=
 ⟨ok.mod,ok.kind,ok.glob,ok.blt,ok.above,ok.inj,ok.has,ok.cab,ok.hd,ok.frames,ok.stk,ok.exf,ok.bs,ok.bsz,ok.noex,ok.exfs,ok.funs,ok.frf⟩
theorem Cx.Ok.unwish {X:Cx} {E:Value->Shared->Prop} (ok:(X.wish E).Ok):X.Ok :=
 ⟨ok.mod,ok.kind,ok.glob,ok.blt,ok.above,ok.inj,ok.has,ok.cab,ok.hd,ok.frames,ok.stk,ok.exf,ok.bs,ok.bsz,ok.noex,ok.exfs,ok.funs,ok.frf⟩
section
variable {X:Cx} {pins:List (Addr×Obj)} {σ:St} {H:Hp} {s:Shared} {E:Value->Shared->Prop}
theorem Inv.wish (I:Inv X pins σ H s) (E:Value->Shared->Prop):Inv (X.wish E) pins σ H s:=⟨I.ok.wish E,I.os,I.bare,I.base,I.loc,I.cell,I.free,I.freeC,I.pin,I.hok,I.len⟩
theorem Inv.unwish (I:Inv (X.wish E) pins σ H s):Inv X pins σ H s:=⟨I.ok.unwish,I.os,I.bare,I.base,I.loc,I.cell,I.free,I.freeC,I.pin,I.hok,I.len⟩
theorem SP.unwish {D:Ends} {f:Flow} {s':Shared} (h:SP (X.wish E) pins D f s'):SP X pins D f s':=by
 cases f with
 |next=>obtain ⟨σ',H',I,q⟩:=h;exact ⟨σ',H',I.unwish,q⟩
 |brk=>obtain ⟨σ',H',I,q⟩:=h;exact ⟨σ',H',I.unwish,q⟩
 |cont=>obtain ⟨σ',H',I,q⟩:=h;exact ⟨σ',H',I.unwish,q⟩
 |ret u=>obtain ⟨v,σ',H',I,r,q⟩:=h;exact ⟨v,σ',H',I.unwish,r,q⟩
theorem PSs.nox {st:List Stmt} {t:TS} (h:PSs X.nox st t):PSs X st t:=λpins s σ H D I hw =>
 wpAny_mono (h pins s σ H D (I.wish _) hw) (λ_ _ q=>q.unwish) λ_ _ z=>False.elim z
end
section
variable {X:Cx} {st:Stmt} {rest:List Stmt} {t u:TS} {e:Expr} {te:TE} {pos:Pos}
noncomputable def Ar:TS:=λD σ H=>D.nx σ H
noncomputable def EZ (t u:TS):TS:=λD σ H=>t { D with nx:=u D } σ H
theorem yN:PSs X [] Ar:=λ_ _ σ H _ I h=>wpAny_execs_nil ⟨σ,H,I,h⟩
theorem vY (h1:PS X st t) (h2:PSs X rest u):PSs X (st :: rest) (EZ t u):=by
 intro pins s σ H D I h;refine wpAny_execs_cons (thn (h1 pins s σ H { D with nx:=u D } I h) λf s1 q=>?_)
 cases f with
 |next =>
  obtain ⟨σ',H',I',q⟩:=q;exact h2 pins s1 σ' H' D I' q
 |ret v=>exact q
 |brk=>exact q
 |cont=>exact q
theorem tV (h1:PS X st t):PSs X [st] t:=by
 intro pins s σ H D I h;refine wpAny_execs_cons (thn (h1 pins s σ H D I h) λf s1 q=>?_)
 cases f with
 |next=>exact wpAny_execs_nil q
 |ret v=>exact q
 |brk=>exact q
 |cont=>exact q
theorem Inv.quiet {pins:List (Addr×Obj)} {σ:St} {H:Hp} {s:Shared} (I:Inv X pins σ H s):interactive X.env=false:=by simp [interactive,I.ok.kind]
noncomputable def oH (te:TE):TS:=λD σ H=>te σ H λ_ H1=>D.nx σ H1
theorem tu (he:PE X e te) (hs:swapsWith e none pos.line X.env=pure false:=by rfl):PS X (.Expr e pos) (oH te):=by
 intro pins s σ H D I h;exact wpAny_Expr_any (thn (he pins s σ H _ I h) λv s1 ⟨x,H1,I1,r1,q1⟩=>⟨σ,H1,I1,q1⟩) I.quiet hs
noncomputable def BM (te:TE):TS:=λD σ H=>te σ H D.rt
theorem xg (he:PE X e te):PS X (.Return (some e) pos) (BM te):=by
 intro pins s σ H D I h;exact wpAny_Return_some (thn (he pins s σ H _ I h) λv s1 ⟨x,H1,I1,r1,q1⟩=>⟨x,σ,H1,I1,r1,q1⟩)
noncomputable def Ff (c:TT) (t u:TS):TS:=λD σ H=>c σ H λb H1=>if b=true then t D σ H1 else u D σ H1
theorem GJ {c:Expr} {a b:List Stmt} {tc:TT} (hc:PT X c tc) (ha:PSs X a t) (hb:PSs X b u):PS X (.If c a b pos) (Ff tc t u):=by
 intro pins s σ H D I h;refine wpAny_If (thn (hc pins s σ H _ I h) λd s1 ⟨H1,I1,q1⟩=>?_)
 cases d with
 |true=>exact ha pins s1 σ H1 D I1 q1
 |false=>exact hb pins s1 σ H1 D I1 q1
noncomputable def xM:TS:=λ_ _ _=>False
theorem wW:PS X st xM:=λ_ _ _ _ _ _ h=>h.elim
end
noncomputable abbrev TG:=V->St->Hp->(St->Hp->Prop)->Prop
noncomputable abbrev TGs:=List V->St->Hp->(St->Hp->Prop)->Prop
noncomputable def PG (X:Cx) (target:Expr) (t:TG):Prop :=
 ∀(pins:List (Addr×Obj)) (s:Shared) (σ:St) (H:Hp) (v:V) (u:Value) (Q:St->Hp->Prop),Inv X pins σ H s->RelV v u->t v σ H Q ->
  wpAny (model X.prog X.w) X.A (assign target X.env u) (λ_ s'=>∃σ' H',Inv X pins σ' H' s'/\Q σ' H') X.xe s
noncomputable def PGs (X:Cx) (ts:List Expr) (t:TGs):Prop :=
 ∀(pins:List (Addr×Obj)) (s:Shared) (σ:St) (H:Hp) (vs:List V) (us:List Value) (Q:St->Hp->Prop),Inv X pins σ H s->Vals vs us->t vs σ H Q ->
  wpAny (model X.prog X.w) X.A (assignInOrder ((assignEach ts X.env).map (·.2)) us) (λ_ s'=>∃σ' H',Inv X pins σ' H' s'/\Q σ' H') X.xe s
noncomputable abbrev By:=V->V->V->Hp->(Hp->Prop)->Prop
noncomputable def Ez (X:Cx) (t:By):Prop :=
 ∀(pins:List (Addr×Obj)) (s:Shared) (σ:St) (H:Hp) (o i v:V) (ov iv u:Value) (Q:Hp->Prop),Inv X pins σ H s->RelV o ov->RelV i iv->RelV v u->t o i v H Q ->
  wpAny (model X.prog X.w) X.A (setItem ov iv u) (λ_ s'=>∃H',Inv X pins σ H' s'/\Q H') X.xe s
section
variable {X:Cx} {pos:Pos}
noncomputable def lD (i:Nat):TG:=λv σ H Q=>Q (σ.set i (some v)) H
theorem ud {i:Nat} {x:Str} (hN:X.N.Nodup) (hi:X.N[i]?=some x) (hx:Loc X.env.scope x) (hf:X.fn x=true\/X.env.scope.names.lookup x=some .local:=by first | exact .inl rfl | exact .inr rfl | assumption):PG X (.Name x pos) (lD i):=by
 intro pins s σ H v u Q I r h;exact wpAny_assign_Name (mO I hN hi hx r (λs' I'=>⟨_,H,I',h⟩) hf)
noncomputable def GF:TGs:=λvs σ H Q=>vs=[]/\Q σ H
noncomputable def Am (t:TG) (u:TGs):TGs:=λvs σ H Q=>∃v r,vs=v :: r/\t v σ H fun σ' H'=>u r σ' H' Q
theorem yy:PGs X [] GF:=by
 intro pins s σ H vs us Q I r h;obtain ⟨e,h⟩:=h;subst e;cases r;exact assignInOrder_nil ⟨σ,H,I,h⟩
theorem wY {e:Expr} {es:List Expr} {t:TG} {u:TGs} (h1:PG X e t) (h2:PGs X es u)
  (hs:(assignEach (e :: es) X.env).map (·.2)=assign e X.env :: (assignEach es X.env).map (·.2):=by rfl):PGs X (e :: es) (Am t u):=by
 intro pins s σ H vs us Q I r h;obtain ⟨v,vr,e1,h⟩:=h;subst e1;cases r with
 |cons r rr =>
  rw [hs];refine assignInOrder_cons (thn (h1 pins s σ H _ _ _ I r h) λ_ s1 ⟨σ1,H1,I1,q1⟩=>?_)
  exact h2 pins s1 σ1 H1 _ _ Q I1 rr q1
noncomputable def EU (K:PySem.W.Frag) (n:Nat) (t:TGs):TG:=λv σ H Q=>∃a xs,v=.ref a/\SqT K H a xs/\xs.length=n/\t xs σ H Q
theorem Cv {es:List Expr} {k:Nat} {t:TGs} {n:Nat} (hc:X.calm=true) (h:PGs X es t)
  (hn:(assignEach es X.env).length=n:=by rfl) (hst:(assignEach es X.env).findIdx? (·.1)=none:=by rfl):PG X (.Tuple es k pos) (EU X.K n t):=by
 intro pins s σ H v u Q I r hw;obtain ⟨a,xs,e1,hq,hl,hw⟩:=hw;subst e1;cases r;obtain ⟨its,rv,ht,hz⟩:=I.tuple hq;refine assign_Tuple_tuple (I.ok.hd hc) ht (by simp [hn,<-hl,rv.length]) hst λh' hx=>?_
 have I1:Inv X pins σ H { s with heap:=h' }:=I.kept (t':=s.toks) λb o e=>hx b o (Nat.ne_of_lt (Heap.lt_size e)) e
 exact h pins _ σ H xs _ Q I1 (by simpa using rv) hw
noncomputable def Fd (to ti:TE) (t:By):TG:=λv σ H Q=>to σ H λo H1=>ti σ H1 λi H2=>t o i v H2 λH3=>Q σ H3
theorem Dr {o i:Expr} {to ti:TE} {t:By} (ho:PE X o to) (hi:PE X i ti) (hs:Ez X t)
  (ha:∀v,assign (.Subscript o i pos) X.env v=(do
   let ov <-holding [v] (eval o X.env)
   let iv <-holding [v,ov] (eval i X.env)
   standAt pos
   holding [v,ov,iv] (setItem ov iv v)
   release [v,ov,iv] []):=by intro _;rfl):PG X (.Subscript o i pos) (Fd to ti t):=by
 intro pins s σ H v u Q I r h;rw [ha];refine wpAny_bind (wpAny_holding (thn (ho pins s σ H _ I h) λov s1 ⟨x,H1,I1,r1,q1⟩=>?_))
 refine wpAny_bind (wpAny_holding (thn (hi pins s1 σ H1 _ I1 q1) λiv s2 ⟨y,H2,I2,r2,q2⟩=>?_))
 refine wpAny_bind (wpAny_standAt (wpAny_bind (wpAny_holding (thn (hs pins s2 σ H2 x y v ov iv u _ I2 r1 r2 r q2) λ_ s3 ⟨H3,I3,q3⟩=>?_))))
 exact wpAny_release ⟨σ,H3,I3,q3⟩
noncomputable def uI (te:TE) (g:TG):TS:=λD σ H=>te σ H λx H1=>g x σ H1 D.nx
theorem Cr {tg e:Expr} {te:TE} {g:TG} (he:PE X e te) (hg:PG X tg g) (hs:swapsWithSole [tg] e pos.line X.env=pure false:=by rfl) (hw:swappedStores [tg] e X.env=pure none:=by rfl)
  (h1:(assignEach [tg] X.env).map (·.2)=[assign tg X.env]:=by rfl):PS X (.Assign [tg] e pos) (uI te g):=by
 intro pins s σ H D I h;refine wpAny_Assign_stores (thn (he pins s σ H _ I h) λv s1 ⟨x,H1,I1,r1,q1⟩=>?_) hs hw
 rw [h1];exact thn (hg pins s1 σ H1 x v _ I1 r1 q1) λ_ s2 q=>q
theorem Ck {i:Nat} {x:Str} {e:Expr} {te:TE} {pos':Pos} (hN:X.N.Nodup) (hi:X.N[i]?=some x) (hx:Loc X.env.scope x) (he:PE X e te) (hs:swapsWith e (some (.Name x pos')) pos.line X.env=pure false:=by rfl) (hf:X.fn x=true\/X.env.scope.names.lookup x=some .local:=by first | exact .inl rfl | exact .inr rfl | assumption) :
  PS X (.Assign [.Name x pos'] e pos) (uI te (lD i)):=by
 intro pins s σ H D I h;refine wpAny_Assign_Name (thn (he pins s σ H _ I h) λv s1 ⟨y,H1,I1,r1,q1⟩=>?_) hs
 exact mO I1 hN hi hx r1 (λs2 I2=>⟨_,H1,I2,q1⟩) hf
end
section
variable {X:Cx} {pos:Pos}
end
structure It where
 go:Nat->Hp->Prop
 yld:Nat->Hp->V->Hp->Prop
 stop:Nat->Hp->Prop
noncomputable def l5 (X:Cx) (pins:List (Addr×Obj)) (H:Hp) (b:Addr):Prop :=
 H b=none/\b≠X.env.locals/\b∉X.fs/\(b∈X.ex\/X.s₀.heap.objs.size<=b)/\(∀x c,X.env.cells.lookup x=some c->c≠b)/\∀p∈X.pn++pins,p.1≠b
theorem Inv.fpOk {X:Cx} {pins:List (Addr×Obj)} {σ:St} {H H':Hp} {s:Shared} {b:Addr} (I:Inv X pins σ H s) (hb:s.heap.objs.size<=b) (hn:H' b=none):l5 X pins H' b:=by
 refine ⟨hn,Nat.ne_of_gt (Nat.lt_of_lt_of_le I.lt hb),I.nofs hb,.inr (Nat.le_trans I.sz hb),λx c e z=>?_,λp hp z=>?_⟩
 ·obtain ⟨v,q⟩:=I.cell x c e
  exact absurd (Nat.lt_of_lt_of_le q.lt (by rw [z];exact hb)) (Nat.lt_irrefl _)
 ·exact absurd (Nat.lt_of_lt_of_le (Heap.lt_size (I.pin p hp).1) (by rw [z];exact hb)) (Nat.lt_irrefl _)
structure Turn (P:Program) (w:World) (K:PySem.W.Frag) (tg:Expr) (J:It) (fp:List Addr) (it:Addr) (tn:Nat->Heap->Prop):Prop where
 mem:it∈fp
 obj:∀i h,tn i h->∀b∈fp,∃o,h.get? b=some o/\∀v,o.data≠.cell v
 keep:∀i h h',tn i h->(∀b∈fp,∀o,h.get? b=some o->h'.get? b=some o)->tn i h'
 item:∀(X:Cx),X.prog=P->X.w=w->X.K=K->X.calm=true->∀(i:Nat) (pins:List (Addr×Obj)) (s:Shared) (σ:St) (H:Hp) (E:Value->Shared->Prop),Inv X pins σ H s->(∀b∈fp,l5 X pins H b)->tn i s.heap->J.go i H ->
  wpAny (model P w) X.A (pyNext (.ref it)) (λr s1=>∃u,r=some u /\
   wpAny (model P w) X.A (letOwnedTupleGo tg (.ref it) u) (λ_ s2=>∃x H',Inv X pins σ H' s2/\RelV x u/\J.yld i H x H'/\tn (i+1) s2.heap/\∀b∈fp,H' b=none) E s1) E s
 done:∀(X:Cx),X.prog=P->X.w=w->X.K=K->X.calm=true->∀(i:Nat) (pins:List (Addr×Obj)) (s:Shared) (σ:St) (H:Hp) (E:Value->Shared->Prop),Inv X pins σ H s->(∀b∈fp,l5 X pins H b)->tn i s.heap->J.stop i H ->
  wpAny (model P w) X.A (pyNext (.ref it)) (λr s1=>r=none/\Inv X pins σ H s1) E s
 self:∀(A:Around) (i:Nat) (s:Shared) (Q:Value->Shared->Prop) (E:Value->Shared->Prop),tn i s.heap->Q (.ref it) s->wpAny (model P w) A (pyIter (.ref it)) Q E s
noncomputable abbrev TI:=St->Hp->(It->Hp->Prop)->Prop
noncomputable def PIE (X:Cx) (pins:List (Addr×Obj)) (σ:St) (tg:Expr) (R:It->Hp->Prop) (itv:Value) (s2:Shared):Prop :=
 ∃(it:Addr) (fp:List Addr) (tn:Nat->Heap->Prop) (J:It) (H':Hp),itv=.ref it/\Inv X pins σ H' s2/\Turn X.prog X.w X.K tg J fp it tn/\tn 0 s2.heap/\(∀b∈fp,l5 X pins H' b)/\R J H'
noncomputable def PI (X:Cx) (tg iter:Expr) (wi:TI):Prop :=
 ∀(pins:List (Addr×Obj)) (s:Shared) (σ:St) (H:Hp) (R:It->Hp->Prop),Inv X pins σ H s->wi σ H R ->
  wpAny (model X.prog X.w) X.A (eval iter X.env) (λv s1=>wpAny (model X.prog X.w) X.A (pyIter v) (PIE X pins σ tg R) X.xe s1) X.xe s
theorem tP {M:Model} {A:Around} {E:Value->Shared->Prop} {s:Shared} {tg:Expr} {it:Addr} {u:Value} {o:Obj} {n:String} {vs:Array Value} {Q:Unit->Shared->Prop} (ho:s.heap.get? it=some o) (hc:o.cls=.type n) (hd:o.data=.fields vs)
    (hn:["enumerate", "zip", "dict_itemiterator", "dict_reverseitemiterator", "odict_iterator", "itertools.zip_longest", "itertools.pairwise"].contains n=false) (hQ:Q () s):wpAny M A (letOwnedTupleGo tg (.ref it) u) Q E s:=by
  unfold letOwnedTupleGo;cases tg <;> first
    |exact wpAny_pure hQ
    | (cases u <;> first
        |exact wpAny_pure hQ
        | (refine wpAny_bind (wpAny_load ho ?_)
           rw [hc,hd];show wpAny M A (if (["enumerate", "zip", "dict_itemiterator", "dict_reverseitemiterator", "odict_iterator", "itertools.zip_longest", "itertools.pairwise"].contains n && vs[0]? == some (rawInt _))=true then _ else _) Q E s
           rw [if_neg (by intro h;rw [hn,Bool.false_and]at h;cases h)]
           exact wpAny_pure hQ))
noncomputable def Itl (K:PySem.W.Frag) (a:Addr):It :=
 ⟨λi H=>∃xs x,SqL K H a xs/\xs[i]?=some x,λi H x H'=>H'=H/\∀xs,SqL K H a xs->xs[i]?=some x,λi H=>∃xs,SqL K H a xs/\xs.length<=i⟩
noncomputable def Itt (K:PySem.W.Frag) (a:Addr):It :=
 ⟨λi H=>∃xs x,SqT K H a xs/\xs[i]?=some x,λi H x H'=>H'=H/\∀xs,SqT K H a xs->xs[i]?=some x,λi H=>∃xs,SqT K H a xs/\xs.length<=i⟩
noncomputable def Itr (lo:Int) (n:Nat):It:=⟨λi _=>i<n,λi H x H'=>H'=H/\x=.int (lo+i),λi _=>n<=i⟩
theorem uF {P:Program} {w:World} {K:PySem.W.Frag} {tg:Expr} (a it:Addr):Turn P w K tg (Itl K a) [it] it (λi h=>h.IsListIter it a i) where
 mem:=by simp
 obj:=λi h st b hb=>by
  have e:b=it:=by simpa using hb
  subst e;obtain ⟨o,e,c,d⟩:=st;exact ⟨o,e,λv z=>by rw [d]at z;cases z⟩
 keep:=λi h h' st k=>st.at λo e=>k it (by simp) o e
 item:=by
  intro X hP hw hK hc i pins s σ H E I hf st hg;subst hP hw hK;obtain ⟨xs,x,hq,hx⟩:=hg;obtain ⟨its,rv,p,hz⟩:=I.list hq;obtain ⟨u,hu,ru⟩:=rv.get hx;obtain ⟨f0,f1,f2,f3,f4,f5⟩:=hf it (by simp)
  refine wpAny_pyNext_list_item st p.isList (x:=u) (by simpa using hu) λh' st' sb=>?_
  have I1:Inv X pins σ H { s with heap:=h' }:=I.turned (t':=s.toks) (λb o hb e=>(sb.2 b hb).trans e) f0 f1 f3 f4 f5
  obtain ⟨o,e,c,d⟩:=id st';exact ⟨u,rfl,tP (s:={ s with heap:=h' }) e c d (by decide) ⟨x,H,I1,ru,⟨rfl,λys hy=>by rw [I.list_inj hy hq];exact hx⟩,st',λb hb=>(hf b hb).1⟩⟩
 done:=by
  intro X hP hw hK hc i pins s σ H E I hf st hg;subst hP hw hK;obtain ⟨xs,hq,hx⟩:=hg;obtain ⟨its,rv,p,hz⟩:=I.list hq;obtain ⟨f0,f1,f2,f3,f4,f5⟩:=hf it (by simp)
  have hl:=rv.length;exact wpAny_pyNext_list_end (I.ok.hd hc) st p.isList (by simp;lia) λh' eb=>⟨rfl,I.turned (t':=s.toks) (λb o hb e=>eb b o hb e) f0 f1 f3 f4 f5⟩
 self:=λ_ _ _ _ _ st h=>wpAny_pyIter_listiter st h
theorem r_ {P:Program} {w:World} {K:PySem.W.Frag} {tg:Expr} (a it:Addr):Turn P w K tg (Itt K a) [it] it (λi h=>h.IsTupleIter it a i) where
 mem:=by simp
 obj:=λi h st b hb=>by
  have e:b=it:=by simpa using hb
  subst e;obtain ⟨o,e,c,d⟩:=st;exact ⟨o,e,λv z=>by rw [d]at z;cases z⟩
 keep:=λi h h' st k=>st.at λo e=>k it (by simp) o e
 item:=by
  intro X hP hw hK hc i pins s σ H E I hf st hg;subst hP hw hK;obtain ⟨xs,x,hq,hx⟩:=hg;obtain ⟨its,rv,p,hz⟩:=I.tuple hq;obtain ⟨u,hu,ru⟩:=rv.get hx;obtain ⟨f0,f1,f2,f3,f4,f5⟩:=hf it (by simp)
  refine wpAny_pyNext_tuple_item st (show s.heap.IsTuple a its.toArray from p) (x:=u) (by simpa using hu) λh' st' sb=>?_
  have I1:Inv X pins σ H { s with heap:=h' }:=I.turned (t':=s.toks) (λb o hb e=>(sb.2 b hb).trans e) f0 f1 f3 f4 f5
  obtain ⟨o,e,c,d⟩:=id st';exact ⟨u,rfl,tP (s:={ s with heap:=h' }) e c d (by decide) ⟨x,H,I1,ru,⟨rfl,λys hy=>by rw [I.tuple_inj hy hq];exact hx⟩,st',λb hb=>(hf b hb).1⟩⟩
 done:=by
  intro X hP hw hK hc i pins s σ H E I hf st hg;subst hP hw hK;obtain ⟨xs,hq,hx⟩:=hg;obtain ⟨its,rv,p,hz⟩:=I.tuple hq;obtain ⟨f0,f1,f2,f3,f4,f5⟩:=hf it (by simp)
  have hl:=rv.length;exact wpAny_pyNext_tuple_end (I.ok.hd hc) st (show s.heap.IsTuple a its.toArray from p) (by simp;lia) λh' eb=>⟨rfl,I.turned (t':=s.toks) (λb o hb e=>eb b o hb e) f0 f1 f3 f4 f5⟩
 self:=λ_ _ _ _ _ st h=>wpAny_pyIter_tupleiter st h
theorem rj {P:Program} {w:World} {K:PySem.W.Frag} {tg:Expr} (it:Addr) (lo:Int) (n:Nat):Turn P w K tg (Itr lo n) [it] it (λi h=>IsRangeIter h it (lo+(i:Nat) * 1) ((n:Int)-(i:Nat)) 1) where
 mem:=by simp
 obj:=λi h st b hb=>by
  have e:b=it:=by simpa using hb
  subst e;exact ⟨_,st,λv z=>by
   have z':Data.fields _=Data.cell v:=z;cases z'⟩
 keep:=λi h h' st k=>k it (by simp) _ st
 item:=by
  intro X hP hw hK hc i pins s σ H E I hf st hg;subst hP hw hK;obtain ⟨f0,f1,f2,f3,f4,f5⟩:=hf it (by simp)
  have W:=Walks.range (prog:=X.prog) (w:=X.w) (I.ok.hd hc) it lo 1 n;refine W.item i s _ _ hg st λv h' tk hv st' kk=>?_
  obtain ⟨t,rfl⟩:=hv;have I1:Inv X pins σ H { s with heap:=h',toks:=tk }:=I.turned (λb o hb e=>kk b o (by simpa using hb) e) f0 f1 f3 f4 f5
  refine ⟨_,rfl,tP (s:={ s with heap:=h',toks:=tk }) (n := "range_iterator") st' rfl rfl (by decide) ⟨.int (lo+i),H,I1,⟨t,?_⟩,⟨rfl,rfl⟩,st',λb hb=>(hf b hb).1⟩⟩
  rw [Int.mul_one]
 done:=by
  intro X hP hw hK hc i pins s σ H E I hf st hg;subst hP hw hK;obtain ⟨f0,f1,f2,f3,f4,f5⟩:=hf it (by simp)
  exact wpAny_pyNext_range_end (I.ok.hd hc) st (by have:n<=i:=hg;lia) λh' eb=>⟨rfl,I.turned (t':=s.toks) (λb o hb e=>eb b o hb e) f0 f1 f3 f4 f5⟩
 self:=λ_ _ _ _ _ st h=>wpAny_pyIter_rangeiter st h
end L2
namespace L2
open PySem PySem.Spec PyProof.Rows
section
variable {X:Cx} {tg:Expr}
noncomputable def qR (K:PySem.W.Frag) (tl:TE):TI:=fun σ H R=>tl σ H λx H1=>∃a,x=.ref a/\(∃xs,SqL K H1 a xs)/\R (Itl K a) H1
noncomputable def Er (K:PySem.W.Frag) (tl:TE):TI:=fun σ H R=>tl σ H λx H1=>∃a,x=.ref a/\(∃xs,SqT K H1 a xs)/\R (Itt K a) H1
theorem sG {l:Expr} {tl:TE} (hl:PE X l tl):PI X tg l (qR X.K tl):=by
 intro pins s σ H R I h;refine thn (hl pins s σ H _ I h) λv s1 ⟨x,H1,I1,r1,q1⟩=>?_
 obtain ⟨a,e,⟨xs,hq⟩,q⟩:=q1;subst e;cases r1;obtain ⟨its,rv,p,hz⟩:=I1.list hq;refine wpAny_pyIter_list p.isList ?_;refine ⟨s1.heap.objs.size,[s1.heap.objs.size],_,_,H1,rfl,I1.kept (t':=s1.toks) λb o e=>Heap.get?_push_of_some _ e,uF a _,⟨_,Heap.get?_push_size _ rfl,rfl,rfl⟩,λb hb=>?_,q⟩
 have e:b=s1.heap.objs.size:=by simpa using hb
 subst e;exact I1.fpOk (Nat.le_refl _) (I1.hok.fresh (Nat.le_refl _))
theorem DD {l:Expr} {tl:TE} (hl:PE X l tl):PI X tg l (Er X.K tl):=by
 intro pins s σ H R I h;refine thn (hl pins s σ H _ I h) λv s1 ⟨x,H1,I1,r1,q1⟩=>?_
 obtain ⟨a,e,⟨xs,hq⟩,q⟩:=q1;subst e;cases r1;obtain ⟨its,rv,p,hz⟩:=I1.tuple hq;refine wpAny_pyIter_tuple (show s1.heap.IsTuple a its.toArray from p) ?_
 refine ⟨s1.heap.objs.size,[s1.heap.objs.size],_,_,H1,rfl,I1.kept (t':=s1.toks) λb o e=>Heap.get?_push_of_some _ e,r_ a _,⟨_,Heap.get?_push_size _ rfl,rfl,rfl⟩,λb hb=>?_,q⟩
 have e:b=s1.heap.objs.size:=by simpa using hb
 subst e;exact I1.fpOk (Nat.le_refl _) (I1.hok.fresh (Nat.le_refl _))
theorem qa {pins:List (Addr×Obj)} {σ:St} {H:Hp} {s:Shared} {R:It->Hp->Prop} {E:Value->Shared->Prop} {lo hi:Int} {t u v:Tok} {tk:Nat} (I:Inv X pins σ H s) (h1:-(2 ^ 62)<=lo) (h2:lo<2 ^ 62) (h3:-(2 ^ 62)<=hi) (h4:hi<2 ^ 62)
  (q:R (Itr lo (hi-lo).toNat) H):wpAny (model X.prog X.w) X.A (pyIter (.ref s.heap.objs.size)) (PIE X pins σ tg R) E { s with heap:=s.heap.push { cls:=.type "range",data:=.fields #[.int lo t,.int hi u,.int 1 v] },toks:=tk }:=by
 refine wpAny_pyIter_range (IsRange.new ..) (small_one h1 h2 h3 h4) ?_;have I1:Inv X pins σ H { s with heap:=s.heap.push { cls:=.type "range",data:=.fields #[.int lo t,.int hi u,.int 1 v] },toks:=tk }:=I.kept λb o e=>Heap.get?_push_of_some _ e
 refine ⟨(s.heap.push { cls:=.type "range",data:=.fields #[.int lo t,.int hi u,.int 1 v] }).objs.size,[(s.heap.push { cls:=.type "range",data:=.fields #[.int lo t,.int hi u,.int 1 v] }).objs.size],_,_,H,rfl,
  I1.kept (t':=tk) λb o e=>Heap.get?_push_of_some _ e,rj _ lo (hi-lo).toNat,?_,λb hb=>?_,q⟩
 ·have e1:lo+((0:Nat):Int) * 1=lo:=by simp
  have e2:(((hi-lo).toNat:Nat):Int)-((0:Nat):Int)=Builtin.Range.rangeSize lo hi 1:=by rw [rangeSize_one];split <;> lia
  show IsRangeIter _ _ (lo+((0:Nat):Int) * 1) ((((hi-lo).toNat:Nat):Int)-((0:Nat):Int)) 1
  rw [e1,e2];exact Heap.get?_push_size _ rfl
 ·have e:b=(s.heap.push { cls:=.type "range",data:=.fields #[.int lo t,.int hi u,.int 1 v] }).objs.size:=by simpa using hb
  subst e;exact I1.fpOk (Nat.le_refl _) (I1.hok.fresh (Nat.le_refl _))
noncomputable def Au (ta:TA):TI:=fun σ H R=>ta σ H λvs H1=>∃j:Int,vs=[.int j]/\-(2 ^ 62)<=j/\j<2 ^ 62/\R (Itr 0 j.toNat) H1
noncomputable def zT (ta:TA):TI:=fun σ H R=>ta σ H λvs H1=>∃i j:Int,vs=[.int i,.int j]/\(-(2 ^ 62)<=i/\i<2 ^ 62/\-(2 ^ 62)<=j/\j<2 ^ 62)/\R (Itr i (j-i).toNat) H1
theorem uz {a:Expr} {ta:TA} {p pos:Pos} (hg:Gl X "range") (hm:X.mg "range" = none) (ha:PA X [a] ta) (hs:starEach [a] X.env=[(false,eval a X.env)]:=by rfl):PI X tg (.Call (.Name "range" p) [a] [] pos) (Au ta):=by
 intro pins s σ H R I h;refine Call_ (ik I hg hm boot_range (PyProof.Rows.callWith_type1 (thn (ha pos pins s σ H _ I h) λus s1 ⟨vs,H1,I1,r1,q1⟩=>?_) hs rfl))
 obtain ⟨j,e,q1,q2,q⟩:=q1;subst e;cases r1 with
 |cons r rr =>
  cases rr;obtain ⟨t,rfl⟩:=r;exact call_range_1 (qa I1 (by lia) (by lia) q1 q2 (by simpa using q))
theorem u_ {a b:Expr} {ta:TA} {p pos:Pos} (hg:Gl X "range") (hm:X.mg "range" = none) (ha:PA X [a,b] ta) (hs:starEach [a,b] X.env=[(false,eval a X.env),(false,eval b X.env)]:=by rfl) (hs2:starEach [b] X.env=[(false,eval b X.env)]:=by rfl) :
  PI X tg (.Call (.Name "range" p) [a,b] [] pos) (zT ta):=by
 intro pins s σ H R I h;refine Call_ (ik I hg hm boot_range (PyProof.Rows.callWith_type1 (thn (ha pos pins s σ H _ I h) λus s1 ⟨vs,H1,I1,r1,q1⟩=>?_) (by rw [hs,hs2]) (by rw [hs2];rfl)))
 obtain ⟨i,j,e,⟨q1,q2,q3,q4⟩,q⟩:=q1;subst e;cases r1 with
 |cons r rr =>
  cases rr with
  |cons r' rr =>
   cases rr;obtain ⟨t,rfl⟩:=r;obtain ⟨t',rfl⟩:=r';exact call_range_2 (qa I1 q1 q2 q3 q4 q)
noncomputable def F8 (wi:TI) (g:TG) (tb:TS):TS:=λD σ H=>wi σ H λJ H1=>∃W:Nat->Nat->St->Hp->Prop,(∃m,W 0 m σ H1)/\∀i m σ H,W i m σ H ->
 (J.stop i H/\D.nx σ H)\/(J.go i H/\∃N:St->Hp->Prop,(∀σ' H',N σ' H'->∃m',m'<m/\W (i+1) m' σ' H')/\∀x H',J.yld i H x H'->g x σ H' fun σ2 H2=>tb { D with nx:=N,ct:=N,bk:=D.nx } σ2 H2)
noncomputable def mN (fp:List Addr) (h:Heap):List (Addr×Obj):=fp.filterMap λb=>(h.get? b).map λo=>(b,o)
theorem iV {fp:List Addr} {h:Heap} {b:Addr} {o:Obj} (hb:b∈fp) (e:h.get? b=some o):(b,o)∈mN fp h:=List.mem_filterMap.mpr ⟨b,hb,by rw [e];rfl⟩
theorem uT {fp:List Addr} {h:Heap} {p:Addr×Obj} (hp:p∈mN fp h):p.1∈fp/\h.get? p.1=some p.2:=by
 obtain ⟨b,hb,e⟩:=List.mem_filterMap.mp hp;cases q:h.get? b with
 |none=>rw [q]at e;cases e
 |some o =>
  rw [q]at e;have e':(b,o)=p:=Option.some.inj e;subst e';exact ⟨hb,q⟩
theorem Inv.pinned {pins:List (Addr×Obj)} {σ:St} {H:Hp} {s:Shared} {fp:List Addr} (I:Inv X pins σ H s) (hf:∀b∈fp,l5 X pins H b) (ho:∀b∈fp,∃o,s.heap.get? b=some o/\∀v,o.data≠.cell v):Inv X (pins++mN fp s.heap) σ H s :=
 I.pins_of λp hp=>(List.mem_append.mp hp).elim (λz=>I.pin p (List.mem_append_right _ z)) λz=>by
  obtain ⟨hb,e⟩:=uT z;obtain ⟨f0,f1,f2,_⟩:=hf p.1 hb;obtain ⟨o,e',d⟩:=ho p.1 hb;rw [e]at e';cases e';exact ⟨e,f0,f1,f2,d⟩
theorem Inv.unpinned {pins pl:List (Addr×Obj)} {σ:St} {H:Hp} {s:Shared} (I:Inv X (pins++pl) σ H s):Inv X pins σ H s:=I.pins_of λp hp=>I.pin p (List.mem_append_right _ (List.mem_append_left _ hp))
theorem B_ {iter:Expr} {body:List Stmt} {wi:TI} {g:TG} {tb:TS} {pos:Pos} (hp:PassesOwn (model X.prog X.w) X.A X.env X.xe) (hc:X.calm=true) (hi:PI X tg iter wi) (hg:PG X tg g) (hb:PSs X body tb)
  (hs:∀x,foldedSetIterable iter X.env x=pure x:=by intro _;rfl):PS X (.For tg iter body [] pos) (F8 wi g tb):=by
 intro pins s σ H D I h;refine wpAny_For (thn (hi pins s σ H _ I h) λv s1 h1=>thn h1 λitv s2 h2=>?_) hs
 obtain ⟨it,fp,tn,J,H2,e,I2,T,st2,f2,W,⟨m0,w0⟩,turn⟩:=h2;subst e;have stat:∀{H':Hp},(∀b∈fp,H' b=none)->∀b∈fp,l5 X pins H' b:=λhn b hb=>⟨hn b hb,(f2 b hb).2⟩
 refine codeAny_forLoop_any (λn s'=>∃i σ' H',Inv X pins σ' H' s'/\tn i s'.heap/\(∀b∈fp,H' b=none)/\W i n σ' H') ?_ m0 ⟨0,σ,H2,I2,st2,λb hb=>(f2 b hb).1,w0⟩
 rintro n s3 ⟨i,σ3,H3,I3,st3,fr3,w3⟩;rcases turn i n σ3 H3 w3 with ⟨stop,qn⟩ | ⟨go,N,hN,step⟩
 ·refine wpAny_passesOwn hp (thn (T.done X rfl rfl rfl hc i pins s3 σ3 H3 X.xe I3 (stat fr3) st3 stop) λr s4 ⟨hr,I4⟩=>?_)
  subst hr;exact wpAny_execs_nil ⟨σ3,H3,I4,qn⟩
 ·refine wpAny_passesOwn hp (thn (T.item X rfl rfl rfl hc i pins s3 σ3 H3 X.xe I3 (stat fr3) st3 go) λr s4 ⟨u,hr,h4⟩=>?_)
  subst hr;refine wpAny_passesOwn hp (thn h4 λ_ s5 ⟨x,H5,I5,r5,y5,st5,fr5⟩=>?_)
  have I5':=I5.pinned (stat fr5) (T.obj _ _ st5);refine wpAny_passesOwn hp (thn (hg _ s5 σ3 H5 x u _ I5' r5 (step x H5 y5)) λ_ s6 ⟨σ6,H6,I6,q6⟩=>?_)
  refine wpAny_passesOwn hp (thn (hb _ s6 σ6 H6 _ I6 q6) λf s7 q7=>?_)
  have again:∀{σ7:St} {H7:Hp},Inv X (pins++mN fp s5.heap) σ7 H7 s7->N σ7 H7->∃m,m<n/\∃i σ' H',Inv X pins σ' H' s7/\tn i s7.heap/\(∀b∈fp,H' b=none)/\W i m σ' H':=fun {σ7 H7} I7 n7=>by
   obtain ⟨m',hm,w7⟩:=hN σ7 H7 n7;refine ⟨m',hm,i+1,σ7,H7,I7.unpinned,T.keep _ _ _ st5 λb hb o e=>(I7.pin (b,o) (List.mem_append_right _ (List.mem_append_right _ (iV hb e)))).1,λb hb=>?_,w7⟩
   obtain ⟨o,e,d⟩:=T.obj _ _ st5 b hb;exact (I7.pin (b,o) (List.mem_append_right _ (List.mem_append_right _ (iV hb e)))).2.1
  cases f with
  |next=>obtain ⟨σ7,H7,I7,n7⟩:=q7;exact again I7 n7
  |cont=>obtain ⟨σ7,H7,I7,n7⟩:=q7;exact again I7 n7
  |brk=>obtain ⟨σ7,H7,I7,q7⟩:=q7;exact ⟨σ7,H7,I7.unpinned,q7⟩
  |ret v=>obtain ⟨x7,σ7,H7,I7,r7,q7⟩:=q7;exact ⟨x7,σ7,H7,I7.unpinned,r7,q7⟩
end
end L2
namespace L2
open PySem PySem.Spec PyProof.Rows
noncomputable abbrev R2:=V->V->Hp->VK->Prop
noncomputable def OpR (X:Cx) (f:Value->Value->Sem Value) (r:R2):Prop :=
 ∀(pins:List (Addr×Obj)) (s:Shared) (σ:St) (H:Hp) (x y:V) (v u:Value) (Q:VK),Inv X pins σ H s->RelV x v->RelV y u->r x y H Q ->
  wpAny (model X.prog X.w) X.A (f v u) (EP X pins σ Q) X.xe s
noncomputable def UnR (X:Cx) (f:Value->Sem Value) (r:V->Hp->VK->Prop):Prop :=
 ∀(pins:List (Addr×Obj)) (s:Shared) (σ:St) (H:Hp) (x:V) (v:Value) (Q:VK),Inv X pins σ H s->RelV x v->r x H Q ->
  wpAny (model X.prog X.w) X.A (f v) (EP X pins σ Q) X.xe s
noncomputable def fu (X:Cx) (f:Value) (r:List V->Hp->VK->Prop):Prop :=
 ∀(pins:List (Addr×Obj)) (s:Shared) (σ:St) (H:Hp) (xs:List V) (us:List Value) (Q:VK),Inv X pins σ H s->Vals xs us->r xs H Q ->
  wpAny (model X.prog X.w) X.A (call f us) (EP X pins σ Q) X.xe s
noncomputable def tOp (r:R2) (ta tb:TE):TE:=fun σ H Q=>ta σ H λx H1=>tb σ H1 λy H2=>r x y H2 Q
noncomputable def tUn (r:V->Hp->VK->Prop) (ta:TE):TE:=fun σ H Q=>ta σ H λx H1=>r x H1 Q
noncomputable def rI (C:Int->Int->Prop) (g:Int->Int->V):R2:=λx y H Q=>∃i j,x=.int i/\y=.int j/\C i j/\Q (g i j) H
noncomputable def rI0 (g:Int->Int->V):R2:=λx y H Q=>∃i j,x=.int i/\y=.int j/\Q (g i j) H
noncomputable def rU (g:Int->V):V->Hp->VK->Prop:=λx H Q=>∃i,x=.int i/\Q (g i) H
section
variable {X:Cx} {a b c:Expr} {ta tb tc:TE} {pos:Pos}
theorem BC (ha:PE X a ta) (hb:PE X b tb) {pins:List (Addr×Obj)} {s:Shared} {σ:St} {H:Hp} {R:V->V->Hp->Prop} (I:Inv X pins σ H s)
  (h:ta σ H λx H1=>tb σ H1 λy H2=>R x y H2) {Q:Value->Shared->Prop} {f:Value->Value->Sem Value}
  (hf:∀v u s2 x y H2,Inv X pins σ H2 s2->RelV x v->RelV y u->R x y H2->wpAny (model X.prog X.w) X.A (f v u) Q X.xe s2) :
  wpAny (model X.prog X.w) X.A (eval a X.env) (λv s₁=>wpAny (model X.prog X.w) X.A (eval b X.env) (λu s₂=>wpAny (model X.prog X.w) X.A (f v u) Q X.xe s₂) X.xe s₁) X.xe s:=by
 refine thn (ha pins s σ H _ I h) λv s1 ⟨x,H1,I1,r1,q1⟩=>?_
 refine thn (hb pins s1 σ H1 _ I1 q1) λu s2 ⟨y,H2,I2,r2,q2⟩=>?_
 exact hf v u s2 x y H2 I2 r1 r2 q2
theorem Hc {op:Operator} {r:R2} (ho:OpR X (binaryOp op) r) (ha:PE X a ta) (hb:PE X b tb):PE X (.BinOp a op b pos) (tOp r ta tb):=by
 intro pins s σ H Q I h;exact wpAny_BinOp (BC ha hb I h λv u s2 x y H2 I2 rx ry q=>ho pins s2 σ H2 x y v u Q I2 rx ry q)
theorem Gu {op:UnaryOp} {r:V->Hp->VK->Prop} (ho:UnR X (unaryOp op) r) (ha:PE X a ta):PE X (.UnaryOp op a pos) (tUn r ta):=by
 intro pins s σ H Q I h;exact UnaryOp_ (thn (ha pins s σ H _ I h) λv s1 ⟨x,H1,I1,r1,q1⟩=>ho pins s1 σ H1 x v Q I1 r1 q1)
theorem opI {f:Value->Value->Sem Value} {C:Int->Int->Prop} {g:Int->Int->Int}
  (rule:∀(i j:Int) (t u:Tok) (s:Shared) (Q:Value->Shared->Prop) (E:Value->Shared->Prop),C i j->Q (.int (g i j) s.toks) { s with toks:=s.toks+1 }->wpAny (model X.prog X.w) X.A (f (.int i t) (.int j u)) Q E s) :
  OpR X f (rI C λi j=>.int (g i j)):=by
 intro pins s σ H x y v u Q I rx ry h;obtain ⟨i,j,rfl,rfl,hc,q⟩:=h;obtain ⟨t,rfl⟩:=rx;obtain ⟨t',rfl⟩:=ry;exact rule i j t t' s _ _ hc ⟨.int (g i j),H,I.tok _,⟨_,rfl⟩,q⟩
theorem FZ {f:Value->Value->Sem Value} {g:Int->Int->Int}
  (rule:∀(i j:Int) (t u:Tok) (s:Shared) (Q:Value->Shared->Prop) (E:Value->Shared->Prop),Q (.int (g i j) s.toks) { s with toks:=s.toks+1 }->wpAny (model X.prog X.w) X.A (f (.int i t) (.int j u)) Q E s) :
  OpR X f (rI0 λi j=>.int (g i j)):=by
 intro pins s σ H x y v u Q I rx ry h;obtain ⟨i,j,rfl,rfl,q⟩:=h;obtain ⟨t,rfl⟩:=rx;obtain ⟨t',rfl⟩:=ry;exact rule i j t t' s _ _ ⟨.int (g i j),H,I.tok _,⟨_,rfl⟩,q⟩
theorem zH {f:Value->Value->Sem Value} {g:Int->Int->Bool}
  (rule:∀(i j:Int) (t u:Tok) (s:Shared) (Q:Value->Shared->Prop) (E:Value->Shared->Prop),Q (.bool (g i j)) s->wpAny (model X.prog X.w) X.A (f (.int i t) (.int j u)) Q E s) :
  OpR X f (rI0 λi j=>.bl (g i j)):=by
 intro pins s σ H x y v u Q I rx ry h;obtain ⟨i,j,rfl,rfl,q⟩:=h;obtain ⟨t,rfl⟩:=rx;obtain ⟨t',rfl⟩:=ry;exact rule i j t t' s _ _ ⟨.bl (g i j),H,I,rfl,q⟩
noncomputable def He (i j:Int):Prop:=0<j/\j<1073741824
noncomputable def Gh (i j:Int):Prop:=0<=j/\j<=1000000/\i.natAbs<2 ^ 64
noncomputable def xI (i j:Int):Prop:=(-(2 ^ 64)<i/\i<2 ^ 64)\/(-(2 ^ 64)<j/\j<2 ^ 64)
theorem xI.ok {i j:Int} (h:xI i j):IntMulOk i j:=by
 rcases h with ⟨h1,h2⟩ | ⟨h1,h2⟩
 ·exact .of_left (intBits_le_64 h1 h2)
 ·exact .of_right (intBits_le_64 h1 h2)
theorem AU:OpR X (binaryOp .Add) (rI0 λi j=>.int (i+j)):=FZ λ_ _ _ _ _ _ _ q=>add_int q
theorem d7:OpR X (binaryOp .Sub) (rI0 λi j=>.int (i-j)):=FZ λ_ _ _ _ _ _ _ q=>sub_int q
theorem CA:OpR X (binaryOp .Mult) (rI xI λi j=>.int (i * j)):=opI λ_ _ _ _ _ _ _ hc q=>mul_int q hc.ok
theorem gO:OpR X (binaryOp .FloorDiv) (rI He λi j=>.int (i / j)):=opI λi j _ _ _ _ _ hc q=>by
 have h1:(0:Int)<j:=hc.1;have h2:j<1073741824:=hc.2;exact floordiv_int (by lia) (by rw [Int.fdiv_eq_ediv_of_nonneg i (by lia)];exact q) (.inl (PyProof.noPylong_small (by lia)))
theorem dS:OpR X (binaryOp .Mod) (rI (λ_ j=>0<j) λi j=>.int (i % j)):=opI λi j _ _ _ _ _ hc q=>by
 have h1:(0:Int)<j:=hc;exact mod_int' (by lia) (by rw [Int.fmod_eq_emod_of_nonneg i (by lia)];exact q)
theorem wg:OpR X (binaryOp .Pow) (rI Gh λi j=>.int (i ^ j.toNat)):=opI λ_ _ _ _ _ _ _ hc q=>pow_int_small hc.1 hc.2.1 hc.2.2 q
theorem unI {f:Value->Sem Value} {g:Int->Int}
  (rule:∀(i:Int) (t:Tok) (s:Shared) (Q:Value->Shared->Prop) (E:Value->Shared->Prop),Q (.int (g i) s.toks) { s with toks:=s.toks+1 }->wpAny (model X.prog X.w) X.A (f (.int i t)) Q E s) :
  UnR X f (rU λi=>.int (g i)):=by
 intro pins s σ H x v Q I rx h;obtain ⟨i,rfl,q⟩:=h;obtain ⟨t,rfl⟩:=rx;exact rule i t s _ _ ⟨.int (g i),H,I.tok _,⟨_,rfl⟩,q⟩
theorem fF:UnR X (unaryOp .USub) (rU λi=>.int (-i)):=unI λ_ _ _ _ _ q=>neg_int q
end
noncomputable def Bn:V->V->Bool
 |.non,.non=>true | .non,.int _=>true | .int _,.non=>true | .non,.bl _=>true | .bl _,.non=>true | .non,.str _=>true | .str _,.non=>true
 |.int _,.int _=>true | .bl _,.bl _=>true | .str _,.str _=>true | .byt _,.byt _=>true
 |.int _,.str _=>true | .str _,.int _=>true | .bl _,.str _=>true | .str _,.bl _=>true
 |_,_=>false
noncomputable def rEq:R2:=λx y H Q=>Bn x y=true/\Q (.bl (decide (x=y))) H
noncomputable def rNe:R2:=λx y H Q=>Bn x y=true/\Q (.bl (!decide (x=y))) H
theorem sP {i j:Int}:decide (V.int i=V.int j)=(i == j):=by
 rw [Bool.eq_iff_iff];simp
theorem vV {i j:Bool}:decide (V.bl i=V.bl j)=(i == j):=by
 rw [Bool.eq_iff_iff];simp
theorem sJ {i j:Str}:decide (V.str i=V.str j)=(i == j):=by
 rw [Bool.eq_iff_iff];simp
theorem tq {i j:Array UInt8}:decide (V.byt i=V.byt j)=(i.toList == j.toList):=by
 rw [Bool.eq_iff_iff];cases i;cases j;simp
section
variable {X:Cx} {a b c:Expr} {ta tb tc:TE} {pos:Pos}
theorem bD {pins:List (Addr×Obj)} {σ:St} {H:Hp} {s:Shared} {Q:VK} {k k':Bool} (I:Inv X pins σ H s) (q:Q (.bl k) H) (e:k=k'):EP X pins σ Q (.bool k') s:=by
 subst e;exact ⟨.bl k,H,I,rfl,q⟩
theorem FF:OpR X (compareOp .Eq) rEq:=by
 intro pins s σ H x y v u Q I rx ry h;obtain ⟨hs,q⟩:=h;cases x with
 |non =>
  cases rx;cases y with
  |non=>cases ry;exact PySem.EqNone.eq_none_none (bD I q (by simp))
  |bl j=>cases ry;exact PySem.EqNone.eq_none_bool (bD I q (by simp))
  |int j=>obtain ⟨t',rfl⟩:=ry;exact PySem.EqNone.eq_none_int (bD I q (by simp))
  |str j=>obtain ⟨t',rfl⟩:=ry;exact PySem.EqNone.eq_none_str (bD I q (by simp))
  |_=>exact absurd (show false=true from hs) Bool.false_ne_true
 |bl i =>
  cases rx;cases y with
  |non=>cases ry;exact PySem.EqNone.eq_bool_none (bD I q (by simp))
  |bl j=>cases ry;exact eq_bool (bD I q vV)
  |str j=>obtain ⟨t',rfl⟩:=ry;exact PySem.EqMixed.eq_bool_str (bD I q (by simp))
  |_=>exact absurd (show false=true from hs) Bool.false_ne_true
 |int i =>
  obtain ⟨t,rfl⟩:=rx;cases y with
  |non=>cases ry;exact PySem.EqNone.eq_int_none (bD I q (by simp))
  |int j=>obtain ⟨t',rfl⟩:=ry;exact eq_int (bD I q sP)
  |str j=>obtain ⟨t',rfl⟩:=ry;exact PySem.EqMixed.eq_int_str (bD I q (by simp))
  |_=>exact absurd (show false=true from hs) Bool.false_ne_true
 |str i =>
  obtain ⟨t,rfl⟩:=rx;cases y with
  |non=>cases ry;exact PySem.EqNone.eq_str_none (bD I q (by simp))
  |bl j=>cases ry;exact PySem.EqMixed.eq_str_bool (bD I q (by simp))
  |int j=>obtain ⟨t',rfl⟩:=ry;exact PySem.EqMixed.eq_str_int (bD I q (by simp))
  |str j=>obtain ⟨t',rfl⟩:=ry;exact eq_str (bD I q sJ)
  |_=>exact absurd (show false=true from hs) Bool.false_ne_true
 |byt i =>
  obtain ⟨t,rfl⟩:=rx;cases y with
  |byt j=>obtain ⟨t',rfl⟩:=ry;exact PySem.W.eq_bytes (bD I q tq)
  |_=>exact absurd (show false=true from hs) Bool.false_ne_true
 |_=>cases y <;> exact absurd (show false=true from hs) Bool.false_ne_true
theorem Hf:OpR X (compareOp .NotEq) rNe:=by
 intro pins s σ H x y v u Q I rx ry h;obtain ⟨hs,q⟩:=h;cases x with
 |non =>
  cases rx;cases y with
  |non=>cases ry;exact PySem.EqNone.ne_none_none (bD I q (by simp))
  |bl j=>cases ry;exact PySem.EqNone.ne_none_bool (bD I q (by simp))
  |int j=>obtain ⟨t',rfl⟩:=ry;exact PySem.EqNone.ne_none_int (bD I q (by simp))
  |str j=>obtain ⟨t',rfl⟩:=ry;exact PySem.EqNone.ne_none_str (bD I q (by simp))
  |_=>exact absurd (show false=true from hs) Bool.false_ne_true
 |bl i =>
  cases rx;cases y with
  |non=>cases ry;exact PySem.EqNone.ne_bool_none (bD I q (by simp))
  |bl j=>cases ry;exact ne_bool (bD I q (congrArg not vV))
  |str j=>obtain ⟨t',rfl⟩:=ry;exact PySem.EqMixed.ne_bool_str (bD I q (by simp))
  |_=>exact absurd (show false=true from hs) Bool.false_ne_true
 |int i =>
  obtain ⟨t,rfl⟩:=rx;cases y with
  |non=>cases ry;exact PySem.EqNone.ne_int_none (bD I q (by simp))
  |int j=>obtain ⟨t',rfl⟩:=ry;exact ne_int (bD I q (congrArg not sP))
  |str j=>obtain ⟨t',rfl⟩:=ry;exact PySem.EqMixed.ne_int_str (bD I q (by simp))
  |_=>exact absurd (show false=true from hs) Bool.false_ne_true
 |str i =>
  obtain ⟨t,rfl⟩:=rx;cases y with
  |non=>cases ry;exact PySem.EqNone.ne_str_none (bD I q (by simp))
  |bl j=>cases ry;exact PySem.EqMixed.ne_str_bool (bD I q (by simp))
  |int j=>obtain ⟨t',rfl⟩:=ry;exact PySem.EqMixed.ne_str_int (bD I q (by simp))
  |str j=>obtain ⟨t',rfl⟩:=ry;exact ne_str (bD I q (congrArg not sJ))
  |_=>exact absurd (show false=true from hs) Bool.false_ne_true
 |byt i =>
  obtain ⟨t,rfl⟩:=rx;cases y with
  |byt j=>obtain ⟨t',rfl⟩:=ry;exact PySem.W.ne_bytes (bD I q (congrArg not tq))
  |_=>exact absurd (show false=true from hs) Bool.false_ne_true
 |_=>cases y <;> exact absurd (show false=true from hs) Bool.false_ne_true
theorem jQ:OpR X (compareOp .Lt) (rI0 λi j=>.bl (decide (i<j))):=zH λ_ _ _ _ _ _ _ q=>lt_int q
theorem z_:OpR X (compareOp .LtE) (rI0 λi j=>.bl (decide (i<=j))):=zH λ_ _ _ _ _ _ _ q=>le_int q
theorem wN:OpR X (compareOp .Gt) (rI0 λi j=>.bl (decide (j<i))):=zH λ_ _ _ _ _ _ _ q=>gt_int q
theorem w9:OpR X (compareOp .GtE) (rI0 λi j=>.bl (decide (j<=i))):=zH λ_ _ _ _ _ _ _ q=>ge_int q
theorem OpR.or {f:Value->Value->Sem Value} {r r':R2} (h:OpR X f r) (h':OpR X f r'):OpR X f (λx y H Q=>r x y H Q\/r' x y H Q):=by
 intro pins s σ H x y v u Q I rx ry q;rcases q with q | q
 ·exact h pins s σ H x y v u Q I rx ry q
 ·exact h' pins s σ H x y v u Q I rx ry q
theorem aT (b:Expr) {op:CmpOp} (h:op≠.In:=by decide) (h2:op≠.NotIn:=by decide):behindInMarks op b=false:=by
 have e1:(op == CmpOp.In)=false:=by cases op <;> first | rfl | exact absurd rfl h
 have e2:(op == CmpOp.NotIn)=false:=by cases op <;> first | rfl | exact absurd rfl h2
 cases b <;> simp [behindInMarks,e1,e2]
theorem yf {op:CmpOp} {r:R2} (ho:OpR X (compareOp op) r) (ha:PE X a ta) (hb:PE X b tb) (hm:behindInMarks op b=false):PE X (.Compare a [op] [b] pos) (tOp r ta tb):=by
 intro pins s σ H Q I h;exact wpAny_Compare1 (BC ha hb I h λv u s2 x y H2 I2 rx ry q=>ho pins s2 σ H2 x y v u Q I2 rx ry q) hm
noncomputable def Ah (t:TE):TT:=fun σ H Q=>t σ H λx H'=>∃k,x=.bl k/\Q k H'
theorem zq {op:CmpOp} {r:R2} (ho:OpR X (compareOp op) r) (ha:PE X a ta) (hb:PE X b tb) (hm:behindInMarks op b=false):PT X (.Compare a [op] [b] pos) (Ah (tOp r ta tb)):=by
 intro pins s σ H Q I h;refine wpAny_isTrue_Compare1 (thn (ha pins s σ H _ I h) λv s1 ⟨x,H1,I1,r1,q1⟩=>thn (hb pins s1 σ H1 _ I1 q1) λu s2 ⟨y,H2,I2,r2,q2⟩ =>
  thn (ho pins s2 σ H2 x y v u _ I2 r1 r2 q2) λc s3 ⟨z,H3,I3,r3,k,e,q3⟩=>?_) hm
 subst e;cases r3;exact wpAny_truthy_bool ⟨H3,I3,q3⟩
theorem j8:(sizeLine:Nat)<2 ^ 63:=by rw [sizeLine_eq];decide
theorem r9:OpR X (binaryOp .Add) (λx y H Q=>∃i j,x=.str i/\y=.str j/\i.length+j.length<=sizeLine/\Q (.str (i++j)) H):=by
 intro pins s σ H x y v u Q I rx ry h;obtain ⟨i,j,rfl,rfl,hz,q⟩:=h;obtain ⟨t,rfl⟩:=rx;obtain ⟨t',rfl⟩:=ry;exact add_str (λt' tk=>⟨.str (i++j),H,I.tok _,⟨_,rfl⟩,q⟩) hz
theorem vals1 {x:V} {us:List Value} (r:Vals [x] us):∃u,us=[u]/\RelV x u:=by
 cases r with
 |cons r1 r2=>cases r2;exact ⟨_,rfl,r1⟩
theorem vals2 {x y:V} {us:List Value} (r:Vals [x,y] us):∃u w',us=[u,w']/\RelV x u/\RelV y w':=by
 cases r with
 |cons r1 r2 =>
  cases r2 with
  |cons r3 r4=>cases r4;exact ⟨_,_,rfl,r1,r3⟩
theorem jv (hc:X.calm=true):fu X (.builtin "max") (λxs H Q=>∃i j,xs=[.int i,.int j]/\Q (.int (if j > i then j else i)) H):=by
 intro pins s σ H xs us Q I r h;obtain ⟨i,j,rfl,q⟩:=h;obtain ⟨u,w',rfl,⟨t,rfl⟩,⟨t',rfl⟩⟩:=vals2 r;refine max_two_ints (I.ok.hd hc) λh' tk k=>⟨_,H,I.kept k,?_,q⟩
 by_cases hj:j > i
 ·rw [if_pos hj,if_pos hj];exact ⟨_,rfl⟩
 ·rw [if_neg hj,if_neg hj];exact ⟨_,rfl⟩
theorem iG (hc:X.calm=true):fu X (.builtin "min") (λxs H Q=>∃i j,xs=[.int i,.int j]/\Q (.int (if j<i then j else i)) H):=by
 intro pins s σ H xs us Q I r h;obtain ⟨i,j,rfl,q⟩:=h;obtain ⟨u,w',rfl,⟨t,rfl⟩,⟨t',rfl⟩⟩:=vals2 r;refine min_two_ints (I.ok.hd hc) λh' tk k=>⟨_,H,I.kept k,?_,q⟩
 by_cases hj:j<i
 ·rw [if_pos hj,if_pos hj];exact ⟨_,rfl⟩
 ·rw [if_neg hj,if_neg hj];exact ⟨_,rfl⟩
theorem u7:fu X (.type "int") (λxs H Q=>(∃i,xs=[.int i]/\Q (.int i) H)\/∃k,xs=[.bl k]/\Q (.int (if k then 1 else 0)) H):=by
 intro pins s σ H xs us Q I r h;rcases h with ⟨i,rfl,q⟩ | ⟨k,rfl,q⟩
 ·obtain ⟨u,rfl,t,rfl⟩:=vals1 r
  exact call_int_int ⟨.int i,H,I,⟨_,rfl⟩,q⟩
 ·obtain ⟨u,rfl,r1⟩:=vals1 r
  cases r1;exact call_int_bool ⟨.int (if k then 1 else 0),H,I.tok _,⟨_,rfl⟩,q⟩
end
end L2
namespace L2
open PySem PySem.Spec PyProof.Rows
structure ObjM (h:Heap) (x dx C:Addr) (mA:Str->Option Value):Prop where
 obj:h.get? x=some (PySem.W.instObj C dx)
 ns:h.Ns1 dx mA
 ne:dx≠x
theorem uY {h:Heap} {dx:Addr} {mA:Str->Option Value} (n:h.Ns1 dx mA):∃od,h.get? dx=some od/\∀name,PySem.W.lookIn name od=some (mA name):=by
 obtain ⟨o,es,ep,ho,hd,hk,_,hm⟩:=n;refine ⟨o,ho,λname=>?_⟩
 have e:=hm name;unfold nsFind findBy at e;rw [<-Array.find?_toList]at e;unfold PySem.W.lookIn;rw [hd]
 dsimp only
 split
 ·rename_i y q
  rw [q]at e;exact congrArg some e
 ·rename_i q
  rw [q]at e;have a:es.toList.any (·.refKey)=false:=by
   rw [List.any_eq_false];intro y hy;obtain ⟨z,t,hkey⟩:=hk y (Array.mem_toList_iff.mp hy);simp [DictEntry.refKey,hkey]
  have a':¬es.toList.any (·.refKey)=true:=by rw [a];exact Bool.false_ne_true
  rw [if_neg a'];exact congrArg some e
theorem ObjM.look {h:Heap} {x dx C:Addr} {mA:Str->Option Value} (I:ObjM h x dx C mA):∃od,PySem.W.InstAt h x (PySem.W.instObj C dx) C (some od)/\∀name,PySem.W.lookIn name od=some (mA name) :=
 let ⟨od,ho,hl⟩:=uY I.ns
 ⟨od,⟨I.obj,rfl,rfl,ho⟩,hl⟩
section
variable {prog:Program} {w:World} {A:Around} {E:Value->Shared->Prop} {s:Shared} {K:PySem.W.Frag} {x dx C f:Addr} {mA:Str->Option Value} {name:Str} {v:Value}
theorem get_map {expr:Bool} {Q:Value->Shared->Prop} (X:K.In s.heap) (I:ObjM s.heap x dx C mA) (hg:PySem.W.plainGet K C name=true) (hh:PySem.W.hasDictIn K C=true)
  (ha:PySem.W.findIn K (.ref C) name=some none) (hv:mA name=some v) (hv':PySem.W.handedIn v=true) (h:Q v { s with toks:=s.toks+1 }) :
  wpAny (model prog w) A (getAttr (.ref x) name expr) Q E s:=by
 obtain ⟨od,J,hl⟩:=I.look;exact PySem.W.get_value X J (PySem.W.plainGet_of hg).1 (PySem.W.findObj_own hh ha rfl (by rw [hl,hv])) hv' h
theorem xQ {pl:Sem Bool} {Q:Value×List Value->Shared->Prop} (X:K.In s.heap) (I:ObjM s.heap x dx C mA) (hg:PySem.W.plainGet K C name=true)
  (hf:PySem.W.findIn K (.ref C) name=some (some (.ref f))) (ht:PySem.W.isFn K (.ref f)=true) (hv:mA name=none) (h:Q (.ref f,[.ref x]) s) :
  wpAny (model prog w) A (getMethod (.ref x) name pl) Q E s:=by
 obtain ⟨od,J,hl⟩:=I.look;exact PySem.W.method_fn X J (PySem.W.plainGet_of hg).1 (PySem.W.plainGet_of hg).2 hf (beq_iff_eq.mp ht) (by show (PySem.W.lookIn name od).map (·.isSome)=some false;rw [hl,hv];rfl) h
theorem zx {ns:List Str} {Q:Unit->Shared->Prop} (X:K.In s.heap) (I:ObjM s.heap x dx C mA)
  (hs:PySem.W.findIn K (.ref C) "__setattr__" = some (some (.builtin "object.__setattr__"))) (hp:PySem.W.plainOver K C=true) (ht:PySem.W.takerIn K C name=some none) (hh:PySem.W.hasDictIn K C=true)
  (hw:PySem.Within mA ns) (hsz:ns.length<=sizeLine)
  (h:∀h',ObjM h' x dx C (λy=>if y=name then some v else mA y)->Heap.SameBut dx s.heap h'->Q () { s with heap:=h',toks:=s.toks+2 }) :
  wpAny (model prog w) A (setAttr (.ref x) name v) Q E s:=by
 obtain ⟨od,J,hl⟩:=I.look;refine PySem.W.set_plain X J hs (PySem.W.osa_open (s:={ s with toks:=s.toks+1 }) (r:=none) X J hp ht λb=>?_)
 obtain ⟨cd,hc,hd'⟩:=PySem.W.any_some hh;have hx:s.heap.get? x=some ⟨.ref C,some dx,.plain,#[]⟩:=I.obj;refine wpAny_bind (wpAny_pure (wpAny_bind (wpAny_bind (wpAny_loadPart hx (wpAny_bind (PySem.W.Looks.here (s:={ s with toks:=s.toks+1 }) (PySem.W.looks_clsIn X hc) ?_))))))
 rw [hd'];refine wpAny_pure (a:=some dx) (wpAny_bind (wpAny_pure (wpAny_bind ?_)));refine wpAny_nsSet1 (s:={ s with toks:=s.toks+1 }) I.ns λh' hn2 hs2=>?_
 obtain ⟨oD,esD,epD,hoD,hdD,hcD⟩:=hn2.count (PySem.Within.cons name v hw);refine wpAny_bind (wpAny_lookBehind hoD (by rw [hdD];exact pastItsLine_dict (Nat.le_trans hcD (by rw [List.length_cons];lia))) ?_)
 exact wpAny_pure (h _ ⟨(hs2.2 _ (Ne.symm I.ne)).trans I.obj,hn2,I.ne⟩ hs2)
theorem xu {R:Result->Shared->Prop} {vs:List Value} {kw:List (Str×Value)} (X:K.In s.heap) (hm:PySem.W.makesIn K C=true)
  (hi:PySem.W.findIn K (.ref C) "__init__" = some (some (.ref f))) (hf:PySem.W.typeIn K (.ref f)=some (.type "function"))
  (h:codeAny (model prog w) (A.under (.builtin "type.__call__" ⟨.ref C :: vs,kw⟩)) (.call (.ref f) ⟨.ref (s.heap.objs.size+1) :: vs,kw⟩) (PySem.W.InitBack (s.heap.objs.size+1) R)
   { s with heap:=(s.heap.push PySem.W.emptyDict).push (PySem.W.instObj C s.heap.objs.size) }) :
  codeAny (model prog w) A (.call (.ref C) ⟨vs,kw⟩) R s:=by
 obtain ⟨hh,g,d,t,os⟩:=s;exact PySem.W.make_core (PySem.W.makes_of X hm) (PySem.W.looks_findIn X hi) (λself=>PySem.W.bind_fn X self hf) (.inl rfl) h
theorem uw {R:Result->Shared->Prop} (X:K.In s.heap) (hm:PySem.W.makesIn K C=true)
  (hi:PySem.W.findIn K (.ref C) "__init__" = some (some (.builtin "object.__init__")))
  (hb:∀self,PySem.W.Looks (model prog w) s.heap (bindSpecial (.builtin "object.__init__") self) (.builtin "object.__init__",[self]))
  (h:codeAny (model prog w) (A.under (.builtin "type.__call__" ⟨[.ref C],[]⟩)) (.call (.builtin "object.__init__") ⟨[.ref (s.heap.objs.size+1)],[]⟩) (PySem.W.InitBack (s.heap.objs.size+1) R)
   { s with heap:=(s.heap.push PySem.W.emptyDict).push (PySem.W.instObj C s.heap.objs.size) }) :
  codeAny (model prog w) A (.call (.ref C) ⟨[],[]⟩) R s:=by
 obtain ⟨hh,g,d,t,os⟩:=s;exact PySem.W.make_core (PySem.W.makes_of X hm) (PySem.W.looks_findIn X hi) hb (.inr ⟨rfl,rfl⟩) h
end
noncomputable def i5 (f:Str) (v:V):List (Str×V)->List (Str×V)
 |[]=>[(f,v)]
 | (g,x) :: r=>if g=f then (g,v) :: r else (g,x) :: i5 f v r
theorem lG (f g:Str) (v:V):∀fs:List (Str×V),(i5 f v fs).lookup g=if g=f then some v else fs.lookup g
 |[]=>by
  show List.lookup g [(f,v)]=_
  by_cases h:g=f
  ·have hb:(g == f)=true:=beq_iff_eq.mpr h
   simp only [List.lookup,hb,if_pos h]
  ·have hb:(g == f)=false:=beq_eq_false_iff_ne.mpr h
   simp only [List.lookup,hb,if_neg h]
 | (k,x) :: r=>by
  have ih:=lG f g v r;rw [show i5 f v ((k,x) :: r)=(if k=f then (k,v) :: r else (k,x) :: i5 f v r) from rfl]
  by_cases hk:k=f
  ·rw [if_pos hk]
   by_cases h:g=k
   ·have hb:(g == k)=true:=beq_iff_eq.mpr h
    simp only [List.lookup,hb,if_pos (h.trans hk)]
   ·have hb:(g == k)=false:=beq_eq_false_iff_ne.mpr h
    simp only [List.lookup,hb,if_neg (λe:g=f=>h (e.trans hk.symm))]
  ·rw [if_neg hk]
   by_cases h:g=k
   ·have hb:(g == k)=true:=beq_iff_eq.mpr h
    simp only [List.lookup,hb,if_neg (λe:g=f=>hk (h.symm.trans e))]
   ·have hb:(g == k)=false:=beq_eq_false_iff_ne.mpr h
    simp only [List.lookup,hb];exact ih
theorem lr (f:Str) (v:V):∀fs:List (Str×V),f∈(i5 f v fs).map (·.1)/\∀g,g∈fs.map (·.1)->g∈(i5 f v fs).map (·.1)
 |[]=>⟨by simp [i5],λg h=>by simp at h⟩
 | (k,x) :: r=>by
  obtain ⟨i1,i2⟩:=lr f v r;rw [show i5 f v ((k,x) :: r)=(if k=f then (k,v) :: r else (k,x) :: i5 f v r) from rfl]
  by_cases hk:k=f
  ·rw [if_pos hk]
   subst hk;exact ⟨by simp,λg h=>by simpa using h⟩
  ·rw [if_neg hk]
   refine ⟨?_,λg h=>?_⟩
   ·rw [List.map_cons]
    exact List.mem_cons_of_mem _ i1
   ·rw [List.map_cons]at h ⊢
    rcases List.mem_cons.mp h with e | e
    ·exact List.mem_cons.mpr (.inl e)
    ·exact List.mem_cons_of_mem _ (i2 g e)
theorem lM (f:Str) (v:V):∀fs:List (Str×V),(i5 f v fs).length<=fs.length+1
 |[]=>by simp [i5]
 | (k,x) :: r=>by
  have ih:=lM f v r;rw [show i5 f v ((k,x) :: r)=(if k=f then (k,v) :: r else (k,x) :: i5 f v r) from rfl]
  by_cases hk:k=f
  ·rw [if_pos hk,List.length_cons,List.length_cons];lia
  ·rw [if_neg hk,List.length_cons,List.length_cons];lia
theorem nB.some_of {v:V} {o:Option Value} (r:nB (some v) o):∃u,o=some u/\RelV v u:=by
 cases o with
 |none=>exact (show False from r).elim
 |some u=>exact ⟨u,rfl,r⟩
theorem nB.none_of {o:Option Value} (r:nB none o):o=none:=by
 cases o with
 |none=>rfl
 |some u=>exact (show False from r).elim
theorem uO {v:V} {u:Value} (r:RelV v u):PySem.W.handedIn u=true:=by
 cases v with
 |non=>cases (show u=Value.none from r);rfl
 |bl b=>cases (show u=Value.bool b from r);rfl
 |int i=>obtain ⟨t,e⟩:=(show ∃t,u=Value.int i t from r);cases e;rfl
 |str x=>obtain ⟨t,e⟩:=(show ∃t,u=Value.str x t from r);cases e;rfl
 |byt b=>obtain ⟨t,e⟩:=(show ∃t,u=Value.bytes b t from r);cases e;rfl
 |flt b=>obtain ⟨t,e⟩:=(show ∃t,u=Value.float b t from r);cases e;rfl
 |ref a=>cases (show u=Value.ref a from r);rfl
 |ty n=>cases (show u=Value.type n from r);rfl
section
variable {P:Program} {w:World} {H H':Hp} {h h':Heap} {a C dx:Addr} {fs fs':List (Str×V)}
theorem pq (hok:HOk P w H h) (e:H a=some (.ins C dx fs)):∃mA,ObjM h a dx C mA/\(∀f,nB (fs.lookup f) (mA f))/\PySem.Within mA (fs.map (·.1))/\fs.length<=1000/\H dx=some (.own a):=by
 obtain ⟨d,z,ne,ob,mA,n,r,q⟩:=(show gU P w H h a (.ins C dx fs) from hok a _ e)
 exact ⟨mA,⟨ob,n,ne⟩,r,q,z,d⟩
end
structure Cls (K:PySem.W.Frag) (C:Addr):Prop where
 pg:PySem.W.plainGet K C Str.empty=true
 hd:PySem.W.hasDictIn K C=true
 po:PySem.W.plainOver K C=true
 sa:PySem.W.findIn K (.ref C) "__setattr__" = some (some (.builtin "object.__setattr__"))
theorem Cls.get {K:PySem.W.Frag} {C:Addr} (c:Cls K C) (f:Str):PySem.W.plainGet K C f=true:=c.pg
noncomputable def gf (K:PySem.W.Frag) (C:Addr) (f:Str):Prop:=PySem.W.findIn K (.ref C) f=some none
theorem gf.taker {K:PySem.W.Frag} {C:Addr} {f:Str} (n:gf K C f):PySem.W.takerIn K C f=some none:=by
 unfold PySem.W.takerIn;rw [show PySem.W.findIn K (.ref C) f=some none from n]
 rfl
structure Con (K:PySem.W.Frag) (C:Addr) (f:Str) (v:V) (u:Value):Prop where
 at_:PySem.W.findIn K (.ref C) f=some (some u)
 rel:RelV v u
 get:PySem.W.specialIn K u "__get__" = some none
 cp:PySem.W.copiedNames.contains f=false
structure Meth (K:PySem.W.Frag) (C:Addr) (m:Str) (f:Addr):Prop where
 at_:PySem.W.findIn K (.ref C) m=some (some (.ref f))
 fn:PySem.W.isFn K (.ref f)=true
 kp:PySem.W.keepIn K (.ref f)=true
section
variable {X:Cx} {pins:List (Addr×Obj)} {σ:St} {H:Hp} {s:Shared} {a C dx:Addr} {fs:List (Str×V)} {f:Str} {v:V} {A:Around} {E:Value->Shared->Prop}
theorem rM {b:Bool} {Q:Value->Shared->Prop} (I:Inv X pins σ H s) (e:H a=some (.ins C dx fs)) (c:Cls X.K C) (n:gf X.K C f) (l:fs.lookup f=some v)
  (h:∀u s',Inv X pins σ H s'->RelV v u->Q u s'):wpAny (model X.prog X.w) A (getAttr (.ref a) f b) Q E s:=by
 obtain ⟨mA,O,r,_,_,_⟩:=pq I.hok e;obtain ⟨u,hu,ru⟩:=nB.some_of (v:=v) (o:=mA f) (by rw [<-l];exact r f)
 exact get_map I.kIn O (c.get f) c.hd n hu (uO ru) (h u _ (I.tok _) ru)
theorem sC {m:Str} {g:Addr} {pl:Sem Bool} {Q:Value×List Value->Shared->Prop} (I:Inv X pins σ H s) (e:H a=some (.ins C dx fs)) (c:Cls X.K C) (k:Meth X.K C m g) (l:fs.lookup m=none)
  (h:Q (.ref g,[.ref a]) s):wpAny (model X.prog X.w) A (getMethod (.ref a) m pl) Q E s:=by
 obtain ⟨mA,O,r,_,_,_⟩:=pq I.hok e;have hn:mA m=none:=nB.none_of (by rw [<-l];exact r m)
 exact xQ I.kIn O (c.get m) k.at_ k.fn hn h
theorem rF {y:V} {u:Value} {Q:Unit->Shared->Prop} (I:Inv X pins σ H s) (e:H a=some (.ins C dx fs)) (c:Cls X.K C) (n:gf X.K C f) (hl:fs.length<1000) (ry:RelV y u)
  (h:∀s',Inv X pins σ (upd H a (.ins C dx (i5 f y fs))) s'->Q () s'):wpAny (model X.prog X.w) A (setAttr (.ref a) f u) Q E s:=by
 obtain ⟨mA,O,r,wi,_,ho⟩:=pq I.hok e;have hz:(fs.map (·.1)).length<=sizeLine:=by rw [List.length_map,sizeLine_eq];lia
 refine zx I.kIn O c.sa c.po n.taker c.hd wi hz λh' O' sb=>h _ ?_
 have hd:∃o,h'.get? dx=some o:=let ⟨o,_,_,e',_⟩:=O'.ns;⟨o,e'⟩;refine I.write (x:=a) (e:=dx) (by rw [e];exact True.intro) (.inr ho) (λb q hb z=>(sb.2 b hb).trans z) hd ?_
 refine ⟨by rw [aL O.ne];exact ho,?_,O.ne,O'.obj,_,O'.ns,λg=>?_,λg hg=>?_⟩
 ·have:=lM f y fs;lia
 ·show nB ((i5 f y fs).lookup g) (if g=f then some u else mA g)
  rw [lG];by_cases q:g=f
  ·rw [if_pos q,if_pos q];exact ry
  ·rw [if_neg q,if_neg q];exact r g
 ·by_cases q:g=f
  ·rw [q];exact (lr f y fs).1
  ·refine (lr f y fs).2 g (wi g λz=>hg ?_)
   show (if g=f then some u else mA g)=none
   rw [if_neg q];exact z
theorem Inv.made (I:Inv X pins σ H s):Inv X pins σ (upd (upd H s.heap.objs.size (.own (s.heap.objs.size+1))) (s.heap.objs.size+1) (.ins C s.heap.objs.size []))
  { s with heap:=(s.heap.push PySem.W.emptyDict).push (PySem.W.instObj C s.heap.objs.size) }:=by
 have e1:(s.heap.push PySem.W.emptyDict).get? s.heap.objs.size=some PySem.W.emptyDict:=Heap.get?_push_size s.heap rfl;have e2:((s.heap.push PySem.W.emptyDict).push (PySem.W.instObj C s.heap.objs.size)).get? (s.heap.objs.size+1)=some (PySem.W.instObj C s.heap.objs.size):=by
  have:=Heap.get?_push_size (s.heap.push PySem.W.emptyDict) (o:=PySem.W.instObj C s.heap.objs.size) rfl
  rwa [Heap.size_push]at this
 have e3:(s.heap.push PySem.W.emptyDict).Ns s.heap.objs.size (λ_=>none):=⟨PySem.W.emptyDict,#[],_,e1,rfl,(λe he=>absurd he (by simp)),λ_=>rfl⟩
 have I1:=I.laid (a:=s.heap.objs.size) (o:=.own (s.heap.objs.size+1)) (h':=s.heap.push PySem.W.emptyDict) (t':=s.toks) (λb u q=>Heap.get?_push_of_some _ q) (Nat.le_refl _) ⟨_,e1⟩
 refine I1.laid (a:=s.heap.objs.size+1) (o:=.ins C s.heap.objs.size []) (t':=s.toks) (λb u q=>Heap.get?_push_of_some _ q) (Nat.le_of_eq (Heap.size_push _ _)) ?_
 have ne:s.heap.objs.size≠s.heap.objs.size+1:=Nat.ne_of_lt (Nat.lt_succ_self _);refine ⟨by rw [aL ne,bB],Nat.zero_le _,ne,e2,λ_=>none,(Heap.Ns1.of_empty e3).at λo q=>Heap.get?_push_of_some _ q,λ_=>True.intro,λy hy=>absurd rfl hy⟩
theorem zD {prog:Program} {w:World} {env:Env} {e:Expr} {f:Str} {pos:Pos} {s:Shared} {Q:Value->Shared->Prop} (hb:attributeBase e f env (eval e env)=eval e env)
  (h:wpAny (model prog w) A (eval e env) (λo s₁=>wpAny (model prog w) A (getAttr o f true) Q E s₁) E s):wpAny (model prog w) A (eval (.Attribute e f pos) env) Q E s :=
 Attribute_any_ h (by rw [arm_eval_Attribute,hb])
end
noncomputable def Hk (K:PySem.W.Frag) (ta:TE) (f:Str):TE:=fun σ H Q=>ta σ H λx H1=>∃a C dx fs v,x=.ref a/\H1 a=some (.ins C dx fs)/\Cls K C/\gf K C f/\fs.lookup f=some v/\Q v H1
noncomputable def Iq (K:PySem.W.Frag) (ta tv:TE) (f:Str):TS:=λD σ H=>tv σ H λy H1=>ta σ H1 λx H2=>∃a C dx fs,x=.ref a/\H2 a=some (.ins C dx fs)/\Cls K C/\gf K C f/\fs.length<1000 /\
 D.nx σ (upd H2 a (.ins C dx (i5 f y fs)))
section
variable {X:Cx} {o e value:Expr} {f:Str} {pos pos' tpos:Pos} {ta tv:TE}
theorem CB (he:PE X e ta) (hb:attributeBase e f X.env (eval e X.env)=eval e X.env):PE X (.Attribute e f pos) (Hk X.K ta f):=by
 intro pins s σ H Q I h;refine zD hb (thn (he pins s σ H _ I h) λu s1 ⟨x,H1,I1,rx,a,C,dx,fs,v,ex,ea,c,n,l,q⟩=>?_)
 subst ex;obtain rfl:u=Value.ref a:=rx;exact rM I1 ea c n l λu' s2 I2 ru=>⟨v,H1,I2,ru,q⟩
theorem AN (ha:PE X o ta) (hv:PE X value tv) (hs:swapsWith value (some (.Attribute o f pos')) pos.line X.env=pure false):PS X (.Assign [.Attribute o f pos'] value pos) (Iq X.K ta tv f):=by
 intro pins s σ H D I h;refine plainObj_wpAny_Assign_Attribute (thn (hv pins s σ H _ I h) λu s1 ⟨y,H1,I1,ry,q⟩=>thn (ha pins s1 σ H1 _ I1 q) λov s2 ⟨x,H2,I2,rx,a,C,dx,fs,ex,ea,c,n,l,q2⟩=>?_) hs
 subst ex;obtain rfl:ov=Value.ref a:=rx;exact rF I2 ea c n l ry λs3 I3=>⟨σ,_,I3,q2⟩
end
section
variable {X:Cx} {pins:List (Addr×Obj)} {σ:St} {H:Hp} {s:Shared} {A:Around} {E:Value->Shared->Prop} {Q:Value->Shared->Prop} {c:Value} {b:Bool}
inductive TyOf (K:PySem.W.Frag) (H:Hp):V->Value->Prop where
 |non:TyOf K H .non (.type "NoneType")
 |bl (x:Bool):TyOf K H (.bl x) (.type "bool")
 |int (i:Int):TyOf K H (.int i) (.type "int")
 |str (x:Str):TyOf K H (.str x) (.type "str")
 |flt (x:UInt64):TyOf K H (.flt x) (.type "float")
 |lst {a:Addr} {xs:List V} (e:H a=some (.lst xs)):TyOf K H (.ref a) (.type "list")
 |frz {a:Addr} {o:Obj} {xs:List V} (e:H a=some (.frz o (.lst xs))):TyOf K H (.ref a) (.type "list")
 |tup {a:Addr} {xs:List V} (e:H a=some (.tup xs)):TyOf K H (.ref a) (.type "tuple")
 |dK {a:Addr} {kvs:List (Key×V)} (e:H a=some (.dK kvs)):TyOf K H (.ref a) (.type "dict")
 |dT {a:Addr} {kvs:List (List Key×V)} (e:H a=some (.dT kvs)):TyOf K H (.ref a) (.type "dict")
 |ins {a C dx:Addr} {fs:List (Str×V)} (e:H a=some (.ins C dx fs)) (cl:Cls K C) (ha:PySem.W.findIn K (.ref C) "__class__" = some (some (.builtin "object.__class__")))
   (hn:PySem.W.specialIn K (.builtin "object.__class__") "__get__" = some (some (.builtin "getset_descriptor.__get__"))) (htk:PySem.W.takesIn K (.builtin "object.__class__")=some true)
   (hm:PySem.W.mroIn K C (.type "object")=some true):TyOf K H (.ref a) (.ref C)
end
end L2
namespace L2
open PySem PySem.Spec PyProof.Rows
structure Room (k:Nat) (A:Around):Prop where
 hd:A.handled=none
 dp:A.depth+3 * k+5<recursionLimit
 un:A.units+16 * k+200<cLine
theorem Room.mono {j k:Nat} {A:Around} (r:Room k A) (h:j<=k):Room j A:=⟨r.hd,by have:=r.dp;lia,by have:=r.un;lia⟩
theorem Room.deeper {k:Nat} {A:Around} (r:Room (k+1) A) (env:Env):Room k (A.deeper env) :=
 ⟨r.hd,by have:=r.dp;show A.depth+1+3 * k+5<_;lia,by have:=r.un;show A.units+3+16 * k+200<_;lia⟩
theorem si {A:Around} {C:Addr} {us:List Value} {kw:List (Str×Value)}:(A.under (.builtin "type.__call__" ⟨.ref C :: us,kw⟩)).depth=A.depth+1:=by
 first | rfl | simp [Around.under,Code.weight,Code.isCreation,Code.isGuard,Code.isCaller,Code.frames,Code.isFrame,guardIds]
theorem sj {A:Around} {C:Addr} {us:List Value} {kw:List (Str×Value)}:(A.under (.builtin "type.__call__" ⟨.ref C :: us,kw⟩)).units=A.units+1:=by
 first | rfl | simp [Around.under,Code.cUnits,Code.frames,Code.isFrame]
theorem Room.make {k:Nat} {A:Around} (r:Room (k+1) A) (C:Addr) (us:List Value) (kw:List (Str×Value)):Room k (A.under (.builtin "type.__call__" ⟨.ref C :: us,kw⟩)) :=
 ⟨r.hd,by have:=r.dp;rw [si];lia,by have:=r.un;rw [sj];lia⟩
theorem Room.depth {k:Nat} {A:Around} (r:Room k A):A.depth<recursionLimit:=by have:=r.dp;lia
theorem Room.units {k:Nat} {A:Around} (r:Room k A):A.units+64<cLine:=by have:=r.un;lia
noncomputable def rC:TA:=λ_ H Q=>Q [] H
noncomputable def lK (ta:TE) (tr:TA):TA:=fun σ H Q=>ta σ H λx H1=>tr σ H1 λxs H2=>Q (x :: xs) H2
section
variable {X:Cx} {e:Expr} {es:List Expr} {te:TE} {t:TA} {pos:Pos}
theorem pN:PA X [] rC:=λ_ _ _ _ H Q I h=>Calls.spliced_nil ⟨[],H,I,.nil,h⟩
theorem ko (ha:PE X e te) (hr:PA X es t) (hs:starEach (e :: es) X.env=(false,eval e X.env) :: starEach es X.env:=by rfl):PA X (e :: es) (lK te t):=by
 intro pos pins s σ H Q I h;rw [hs];show wpAny _ _ (spliced ((false,eval e X.env) :: backTo pos (starEach es X.env))) _ _ s
 refine Calls.spliced_cons (thn (ha pins s σ H _ I h) λu s1 ⟨x,H1,I1,r1,q1⟩=>?_)
 exact thn (hr pos pins s1 σ H1 _ I1 q1) λus s2 ⟨xs,H2,I2,r2,q2⟩=>⟨x :: xs,H2,I2,.cons r1 r2,q2⟩
noncomputable def Fl (t:TA):TE:=fun σ H Q=>t σ H λxs H1=>xs.length<=sizeLine/\∀p,H1 p=none->Q (.ref p) (upd H1 p (.tup xs))
noncomputable def Gb (t:TA):TE:=fun σ H Q=>t σ H λxs H1=>xs.length<=sizeLine/\∀p,H1 p=none->Q (.ref p) (upd H1 p (.lst xs))
theorem Bh {x1} (h:PA X es t):PE X (.Tuple es x1 pos) (Fl t):=by
 intro pins s σ H Q I hq;refine wpAny_Tuple_spliced (thn (h pos pins s σ H _ I hq) λus s1 ⟨xs,H1,I1,r,z,q⟩=>⟨by rw [<-r.length];exact z,?_⟩)
 have hf:H1 s1.heap.objs.size=none:=I1.hok.fresh (Nat.le_refl _);refine ⟨.ref s1.heap.objs.size,upd H1 s1.heap.objs.size (.tup xs),I1.laid (t':=s1.toks) (λb u e=>Heap.get?_push_of_some _ e) (Nat.le_refl _) ?_,rfl,q _ hf⟩
 exact ⟨z,us,r,⟨_,Heap.get?_push_size _ rfl,rfl,_,rfl⟩⟩
theorem Az (h:PA X es t):PE X (.List es pos) (Gb t):=by
 intro pins s σ H Q I hq;refine wpAny_List_spliced (thn (h pos pins s σ H _ I hq) λus s1 ⟨xs,H1,I1,r,z,q⟩=>⟨by rw [<-r.length];exact z,?_⟩)
 have hf:H1 s1.heap.objs.size=none:=I1.hok.fresh (Nat.le_refl _);refine ⟨.ref s1.heap.objs.size,upd H1 s1.heap.objs.size (.lst xs),I1.laid (t':=s1.toks) (λb u e=>Heap.get?_push_of_some _ e) (Nat.le_refl _) ?_,rfl,q _ hf⟩
 exact ⟨z,us,0,r,Heap.get?_push_size _ rfl⟩
end
noncomputable abbrev Sp:=List V->Hp->VK->XK->Prop
noncomputable abbrev CXT:=List Env->Hp->Shared->XK->Value->Shared->Prop
structure Env0 (P:Program) (w:World) (K:PySem.W.Frag) (mg:Str->Option Value) (base:Heap) (A:Around) (outer:List Env) (s:Shared) (H:Hp):Prop where
 frames:A.frames=some outer
 mod:Mod K mg base
 bs:∀b o,base.get? b=some o->s.heap.get? b=some o/\H b=none
 bsz:base.objs.size<=s.heap.objs.size
 funs:s.heap.FunFrames base outer
 frf:∀b∈frs outer,H b=none
 hok:HOk P w H s.heap
 bare:AllBare s.gens
noncomputable def CE (outer:List Env) (P:Program) (w:World) (H:Hp) (s:Shared) (Q:VK) (u:Value) (s':Shared):Prop :=
 ∃v H',s'.os=s.os/\AllBare s'.gens/\Un (frs outer) [] H H' s.heap s'.heap/\HOk P w H' s'.heap/\RelV v u/\Q v H'
noncomputable def CR (CX:CXT) (outer:List Env) (P:Program) (w:World) (H:Hp) (s:Shared) (Q:VK) (E:XK) (r:Result) (s':Shared):Prop :=
 match r with
 |.ok (.ret u)=>CE outer P w H s Q u s'
 |.ok _=>False
 |.error e=>CX outer H s E e s'
structure FnOk (P:Program) (w:World) (K:PySem.W.Frag) (mg:Str->Option Value) (base:Heap) (CX:CXT) (k:Nat) (f:Addr) (fd:FuncData) (ps:List Str) (sp:Sp):Prop where
 len:∀vs H Q E,sp vs H Q E->vs.length=ps.length
 run:∀(A:Around) (outer:List Env) (s:Shared) (H:Hp) (args:Args) (us:List Value) (vs:List V) (Q:VK) (E:XK),Room k A->Env0 P w K mg base A outer s H->BindsTo s fd args (ps.zip us)->Vals vs us->sp vs H Q E ->
  codeAny (model P w) A (.call (.ref f) args) (CR CX outer P w H s Q E) s
theorem FnOk.mono {P:Program} {w:World} {K:PySem.W.Frag} {mg:Str->Option Value} {base:Heap} {CX:CXT} {j k:Nat} {f:Addr} {fd:FuncData} {ps:List Str} {sp:Sp} (F:FnOk P w K mg base CX j f fd ps sp) (h:j<=k) :
  FnOk P w K mg base CX k f fd ps sp:=⟨F.len,λA outer s H args us vs Q E hr=>F.run A outer s H args us vs Q E (hr.mono h)⟩
theorem FnOk.imp {P:Program} {w:World} {K:PySem.W.Frag} {mg:Str->Option Value} {base:Heap} {CX:CXT} {k:Nat} {f:Addr} {fd:FuncData} {ps:List Str} {sp sp':Sp} (F:FnOk P w K mg base CX k f fd ps sp)
  (h:∀vs H Q E,sp' vs H Q E->sp vs H Q E):FnOk P w K mg base CX k f fd ps sp' :=
 ⟨λvs H Q E q=>F.len vs H Q E (h _ _ _ _ q),λA outer s H args us vs Q E hr he hb hv hs=>F.run A outer s H args us vs Q E hr he hb hv (h _ _ _ _ hs)⟩
theorem Env0.make {P:Program} {w:World} {K:PySem.W.Frag} {mg:Str->Option Value} {base:Heap} {A:Around} {outer:List Env} {s:Shared} {H:Hp} (e:Env0 P w K mg base A outer s H) (C:Addr) (us:List Value) (kw:List (Str×Value)) :
  Env0 P w K mg base (A.under (.builtin "type.__call__" ⟨.ref C :: us,kw⟩)) outer s H:=⟨by first | exact e.frames | (simpa [Around.under,Code.envs,Code.isFrame,pushEnvs]using e.frames),e.mod,e.bs,e.bsz,e.funs,e.frf,e.hok,e.bare⟩
section
variable {X:Cx} {pins:List (Addr×Obj)} {σ:St} {H:Hp} {s s':Shared}
theorem Inv.lB (I:Inv X pins σ H s):Env0 X.prog X.w X.K X.mg X.base X.A X.stack s H :=
 ⟨I.ok.frames,I.ok.mod,I.bs,Nat.le_trans I.ok.bsz I.sz,I.stack,I.stkFree,I.hok,I.bare⟩
theorem Inv.after {Q:VK} {u:Value} (I:Inv X pins σ H s) (h:CE X.stack X.prog X.w H s Q u s'):EP X pins σ Q u s':=by
 obtain ⟨v,H',os,bare,un,hok,r,q⟩:=h;obtain ⟨hh,g,d,t,os'⟩:=s';obtain rfl:os'=s.os:=os;exact ⟨v,H',I.call (h':=hh) (g':=g) (d':=d) (t':=t) (ch:=[]) un hok bare (λb z=>absurd z (by simp)),r,q⟩
end
noncomputable def Ac (sp:Sp) (dvs:List V) (E:XK) (t:TA):TE:=fun σ H Q=>t σ H λvs H1=>sp (vs++dvs) H1 Q E
noncomputable def zP (C:Addr) (sp:Sp) (dvs:List V) (E:XK) (t:TA):TE:=fun σ H Q=>t σ H λvs H1=>∀x dx,H1 x=none->H1 dx=none->dx≠x ->
 sp (.ref x :: (vs++dvs)) (upd (upd H1 dx (.own x)) x (.ins C dx [])) (λv H2=>v=.non/\Q (.ref x) H2) E
noncomputable def Binds (K:PySem.W.Frag) (fd:FuncData) (ps:List Str) (ds:List Value):Prop :=
 ∀(s:Shared) (us:List Value),K.In s.heap->(us++ds).length=ps.length->BindsTo s fd ⟨us,[]⟩ (ps.zip (us++ds))
theorem Binds.all {K:PySem.W.Frag} {fd:FuncData} {ps:List Str} (h:∀us:List Value,us.length=ps.length->bindArgs fd ⟨us,[]⟩=pure (ps.zip us)):Binds K fd ps []:=λs us _ hl=>by
 rw [List.append_nil]at hl ⊢;exact .of_eq (h us hl)
noncomputable def Passes (CX:CXT) (X:Cx) (E:XK):Prop:=∀(pins:List (Addr×Obj)) (σ:St) (H:Hp) (s:Shared) (e:Value) (s':Shared),Inv X pins σ H s->CX X.stack H s E e s'->X.xe e s'
section
variable {X:Cx} {CX:CXT} {k:Nat} {f C:Addr} {fd:FuncData} {ps:List Str} {sp:Sp} {dvs:List V} {ds:List Value} {E:XK} {x m:Str} {p pos apos:Pos} {e o:Expr} {es:List Expr} {ta:TE} {t:TA}
theorem xc {pins:List (Addr×Obj)} {σ:St} {H:Hp} {s:Shared} {Q:VK} {us:List Value} {vs:List V} (F:FnOk X.prog X.w X.K X.mg X.base CX k f fd ps sp) (hr:Room k X.A) (hb:Binds X.K fd ps ds) (hd:Vals dvs ds) (hx:Passes CX X E)
  (I:Inv X pins σ H s) (r:Vals vs us) (h:sp (vs++dvs) H Q E):wpAny (model X.prog X.w) X.A (call (.ref f) us) (EP X pins σ Q) X.xe s:=by
 have r2:Vals (vs++dvs) (us++ds):=r.append hd;have hl:(us++ds).length=ps.length:=by rw [<-r2.length];exact F.len _ _ _ _ h
 refine wpAny_call (codeAny_mono (F.run X.A X.stack s H ⟨us,[]⟩ (us++ds) (vs++dvs) Q E hr I.lB (hb s us I.kIn hl) r2 h) λr s' hq=>?_)
 cases r with
 |error e=>exact hx pins σ H s e s' I hq
 |ok fl =>
  cases fl with
  |ret u=>exact I.after hq
  |next=>exact False.elim hq
  |brk=>exact False.elim hq
  |cont=>exact False.elim hq
theorem zb (F:FnOk X.prog X.w X.K X.mg X.base CX k f fd ps sp) (hr:Room k X.A) (hg:Gl X x) (hm:X.mg x=some (.ref f)) (hk:PySem.W.keepIn X.K (.ref f)=true) (hb:Binds X.K fd ps ds) (hd:Vals dvs ds) (hx:Passes CX X E)
  (ha:PA X (e :: es) t) (hdb:(x == ("__debug__" : Str))=false:=by decide) (he:starEach (e :: es) X.env=(false,eval e X.env) :: starEach es X.env:=by rfl) (hpl:(backTo pos (starEach es X.env)).any (·.1)=false:=by rfl) :
  PE X (.Call (.Name x p) (e :: es) [] pos) (Ac sp dvs E t):=by
 intro pins s σ H Q I h;refine wpAny_Call_Name_kw (mh I hg hm ?_ hdb);refine PySem.W.callWith_K (h₀:=X.base) I.ok.mod.kin hk (thn (ha pos pins s σ H _ I h) λus s1 ⟨vs,H1,I1,r,q⟩=>⟨I1.kIn,?_⟩) he hpl
 exact xc F hr hb hd hx I1 r q
structure Mk (K:PySem.W.Frag) (C f:Addr):Prop where
 makes:PySem.W.makesIn K C=true
 init:PySem.W.findIn K (.ref C) "__init__" = some (some (.ref f))
 fn:PySem.W.isFn K (.ref f)=true
 kp:PySem.W.keepIn K (.ref C)=true
theorem vz {pins:List (Addr×Obj)} {σ:St} {H:Hp} {s:Shared} {Q:VK} {us:List Value} {vs:List V} (M:Mk X.K C f) (F:FnOk X.prog X.w X.K X.mg X.base CX k f fd ps sp) (hr:Room (k+1) X.A) (hb:Binds X.K fd ps ds) (hd:Vals dvs ds)
  (hx:Passes CX X E) (I:Inv X pins σ H s) (r:Vals vs us)
  (h:∀x dx,H x=none->H dx=none->dx≠x->sp (.ref x :: (vs++dvs)) (upd (upd H dx (.own x)) x (.ins C dx [])) (λv H2=>v=.non/\Q (.ref x) H2) E) :
  wpAny (model X.prog X.w) X.A (call (.ref C) us) (EP X pins σ Q) X.xe s:=by
 have hq:=h (s.heap.objs.size+1) s.heap.objs.size (I.hok.fresh (Nat.le_succ _)) (I.hok.fresh (Nat.le_refl _)) (Nat.ne_of_lt (Nat.lt_succ_self _));have I2:=Inv.made (C:=C) I;have r2:Vals (V.ref (s.heap.objs.size+1) :: (vs++dvs)) (Value.ref (s.heap.objs.size+1) :: (us++ds)):=.cons rfl (r.append hd);have hl:(Value.ref (s.heap.objs.size+1) :: us++ds).length=ps.length:=by
  have e:=r2.length;rw [F.len _ _ _ _ hq]at e;exact e.symm
 refine wpAny_call (xu (f:=f) I.kIn M.makes M.init (beq_iff_eq.mp M.fn) (codeAny_mono (F.run _ X.stack _ _ ⟨Value.ref (s.heap.objs.size+1) :: us,[]⟩ (Value.ref (s.heap.objs.size+1) :: (us++ds)) _ _ E (hr.make C us [])
  (I2.lB.make C us []) (hb _ (Value.ref (s.heap.objs.size+1) :: us) I2.kIn hl) r2 hq) λr s' hq'=>?_))
 cases r with
 |error e=>exact hx pins σ _ _ e s' I2 hq'
 |ok fl =>
  cases fl with
  |ret u =>
   obtain ⟨v,H',I3,rv,ev,q3⟩:=I2.after hq';subst ev;exact ⟨rv,⟨V.ref (s.heap.objs.size+1),H',I3,rfl,q3⟩⟩
  |next=>exact False.elim hq'
  |brk=>exact False.elim hq'
  |cont=>exact False.elim hq'
theorem yq (M:Mk X.K C f) (F:FnOk X.prog X.w X.K X.mg X.base CX k f fd ps sp) (hr:Room (k+1) X.A) (hg:Gl X x) (hm:X.mg x=some (.ref C)) (hb:Binds X.K fd ps ds) (hd:Vals dvs ds) (hx:Passes CX X E)
  (ha:PA X (e :: es) t) (hdb:(x == ("__debug__" : Str))=false:=by decide) (he:starEach (e :: es) X.env=(false,eval e X.env) :: starEach es X.env:=by rfl) (hpl:(backTo pos (starEach es X.env)).any (·.1)=false:=by rfl) :
  PE X (.Call (.Name x p) (e :: es) [] pos) (zP C sp dvs E t):=by
 intro pins s σ H Q I h;refine wpAny_Call_Name_kw (mh I hg hm ?_ hdb);refine PySem.W.callWith_K (h₀:=X.base) I.ok.mod.kin M.kp (thn (ha pos pins s σ H _ I h) λus s1 ⟨vs,H1,I1,r,q⟩=>⟨I1.kIn,?_⟩) he hpl
 exact vz M F hr hb hd hx I1 r q
end
section
variable {X:Cx} {CX:CXT} {k:Nat} {f C:Addr} {fd:FuncData} {ps ks:List Str} {sp:Sp} {E:XK} {x m:Str} {p pos apos kpos:Pos} {e o:Expr} {es:List Expr} {kws:List Keyword} {te ta:TE} {t tk:TA} {nm:Option Str}
structure KBinds (K:PySem.W.Frag) (fd:FuncData) (ps ks:List Str) (g:List Value->List Value->List Value) (gV:List V->List V->List V):Prop where
 to:∀(s:Shared) (us ws:List Value),K.In s.heap->(g us ws).length=ps.length->BindsTo s fd ⟨us,ks.zip ws⟩ (ps.zip (g us ws))
 rel:∀{vs:List V} {us:List Value} {zs:List V} {ws:List Value},Vals vs us->Vals zs ws->Vals (gV vs zs) (g us ws)
variable {g:List Value->List Value->List Value} {gV:List V->List V->List V}
end
structure FnScope (N P:List Str) (sc:Scope):Prop where
 kind:sc.kind=.function
 co:sc.isCoroutine=false
 gen:sc.isGenerator=false
 nd:N.Nodup
 pre:N.take P.length=P
 par:∀x∈P,sc.names.lookup x=some .local\/sc.names.lookup x=some .cell
 nofree:∀y∈sc.names,y.2≠.free
theorem oJ {kindOf:Str->Option NameKind} {x:Str}:∀{binds:List (Str×Value)} {m:Str->Option Value},(∀v,(x,v)∉binds)->bindL kindOf binds m x=m x
 |[],_,_=>rfl
 | (n,v) :: r,m,h=>by
  unfold bindL;rw [oJ λw hw=>h w (List.mem_cons_of_mem _ hw)]
  split
  ·have:x≠n:=by rintro rfl;exact h v List.mem_cons_self
   simp [this]
  ·rfl
theorem oU {kindOf:Str->Option NameKind} {x:Str}:∀{binds:List (Str×Value)} {m:Str->Option Value},(∀v,(x,v)∉binds)->bindC kindOf binds m x=m x
 |[],_,_=>rfl
 | (n,v) :: r,m,h=>by
  unfold bindC;rw [oU λw hw=>h w (List.mem_cons_of_mem _ hw)]
  split
  ·rfl
  ·have:x≠n:=by rintro rfl;exact h v List.mem_cons_self
   simp [this]
theorem oP {kindOf:Str->Option NameKind} {x:Str} {v:Value}:∀{P:List Str} {vs:List Value} {i:Nat} {m:Str->Option Value},P.Nodup->P[i]?=some x->vs[i]?=some v->kindOf x=some .local ->
  bindL kindOf (P.zip vs) m x=some v
 |[],_,_,_,_,h,_,_=>by simp at h
 |_ :: _,[],_,_,_,_,h,_=>by simp at h
 |p :: P,w :: vs,0,m,nd,h1,h2,hk=>by
  simp at h1 h2;subst h1;subst h2
  show bindL kindOf ((p,w) :: P.zip vs) m p=_
  unfold bindL;rw [oJ λv hv=>(List.nodup_cons.mp nd).1 (List.of_mem_zip hv).1,if_pos hk]
  simp
 |p :: P,w :: vs,i+1,m,nd,h1,h2,hk=>by
  show bindL kindOf ((p,w) :: P.zip vs) m x=_
  unfold bindL;exact oP (i:=i) (List.nodup_cons.mp nd).2 (by simpa using h1) (by simpa using h2) hk
theorem oK {kindOf:Str->Option NameKind} {x:Str} {v:Value}:∀{P:List Str} {vs:List Value} {i:Nat} {m:Str->Option Value},P.Nodup->P[i]?=some x->vs[i]?=some v->kindOf x≠some .local ->
  bindC kindOf (P.zip vs) m x=some v
 |[],_,_,_,_,h,_,_=>by simp at h
 |_ :: _,[],_,_,_,_,h,_=>by simp at h
 |p :: P,w :: vs,0,m,nd,h1,h2,hk=>by
  simp at h1 h2;subst h1;subst h2
  show bindC kindOf ((p,w) :: P.zip vs) m p=_
  unfold bindC;rw [oU λv hv=>(List.nodup_cons.mp nd).1 (List.of_mem_zip hv).1,if_neg hk]
  simp
 |p :: P,w :: vs,i+1,m,nd,h1,h2,hk=>by
  show bindC kindOf ((p,w) :: P.zip vs) m x=_
  unfold bindC;exact oK (i:=i) (List.nodup_cons.mp nd).2 (by simpa using h1) (by simpa using h2) hk
noncomputable def start (N:List Str) (vs:List V):St:=vs.map some++List.replicate (N.length-vs.length) none
noncomputable def nV (CX:CXT) (P:Program) (w:World) (K:PySem.W.Frag) (mg:Str->Option Value) (base:Heap) (N:List Str) (qual:Str) (scope:Scope) (f:Addr) (cd:Value) (A:Around) (outer:List Env) (s:Shared) (H:Hp) (E:XK):Cx where
 prog:=P
 w:=w
 K:=K
 mg:=mg
 base:=base
 A:=A.deeper (envOfC qual scope s.heap.objs.size f cd)
 N:=N
 s₀:=s
 H₀:=H
 env:=envOfC qual scope s.heap.objs.size f cd
 outer:=outer
 stack:=envOfC qual scope s.heap.objs.size f cd :: outer
 ex:=[]
 calm:=true
 fn:=λ_=>true
 pn:=[]
 xe:=λe s'=>wpAny (model P w) (A.deeper (envOfC qual scope s.heap.objs.size f cd)) (leaving (envOfC qual scope s.heap.objs.size f cd) e) (λ_ s''=>CX outer H s E e s'') (λe' s''=>CX outer H s E e' s'') s'
theorem qK {sc:Scope} {n:Nat} {x:Str} (h:sc.names.lookup x=some .cell):∃c,(cellsFrom n sc.names []).lookup x=some c:=by
 have q:=PySem.W.cellsFrom_some sc.names n [] (.inl h);exact Option.isSome_iff_exists.mp q
theorem uK {CX:CXT} {P:Program} {w:World} {K:PySem.W.Frag} {mg:Str->Option Value} {base:Heap} {N ps:List Str} {qual:Str} {scope:Scope} {f:Addr} {cd:Value} {A:Around} {outer:List Env} {s s1:Shared} {H:Hp} {E:XK} {us:List Value} {vs:List V}
  (S:FnScope N ps scope) (hd:A.handled=none) (e0:Env0 P w K mg base A outer s H) (hl:vs.length=ps.length) (r:Vals vs us)
  (x:InCallC s s.heap.objs.size (bindL (envOfC qual scope s.heap.objs.size f cd).kindOf (ps.zip us) λ_=>none) (cellsFrom (s.heap.objs.size+1) scope.names []) (bindC (envOfC qual scope s.heap.objs.size f cd).kindOf (ps.zip us) λ_=>none) s1) :
  Inv (nV CX P w K mg base N qual scope f cd A outer s H E) [] (start N vs) H s1:=by
 have hpl:ps.length<=N.length:=by have:=congrArg List.length S.pre;rw [List.length_take]at this;lia
 obtain ⟨h1,tk,rfl,hk⟩:=x.done;have noA:∀b:Addr,b∉(nV CX P w K mg base N qual scope f cd A outer s H E).ex:=λb z=>absurd (show b∈([]:List Addr) from z) (by simp)
 refine ⟨⟨e0.mod,S.kind,rfl,rfl,Nat.le_refl _,λy z c h1 h2=>?_,λy hy=>?_,λy c _ h=>?_,λ_=>hd,Around.frames_deeper e0.frames,.inr ⟨rfl,rfl⟩,λb z=>absurd z (noA b),e0.bs,e0.bsz,λb _ _=>noA b,λb z=>absurd z (noA b),e0.funs,e0.frf⟩,
  rfl,e0.bare,Un.kept hk,⟨_,x.toInCall.ns,λi y v h1 h2 h3=>?_⟩,λy c h=>⟨_,x.cell y c h⟩,e0.hok.fresh (Nat.le_refl _),λy c h=>?_,λp hp=>absurd (show p∈([]:List (Addr×Obj)) from hp) (by simp),e0.hok.kept hk,?_⟩
 ·exact name_of_addr x.apart (PySem.mem_of_lookup h1) (PySem.mem_of_lookup h2)
 ·have hy:scope.names.lookup y=some .cell\/scope.names.lookup y=some .free:=hy
  rcases hy with hy | hy
  ·exact qK hy
  ·exact absurd rfl (S.nofree _ (PySem.mem_of_lookup hy))
 ·exact Nat.le_of_lt (x.above y c (PySem.mem_of_lookup h))
 ·have hi:i<vs.length:=by
   unfold start at h2;by_cases hi:i<vs.length
   ·exact hi
   ·rw [List.getElem?_append_right (by simpa using hi)]at h2
    rw [List.getElem?_replicate]at h2;split at h2 <;> cases h2
  have ha:vs[i]?=some v:=by
   unfold start at h2;rw [List.getElem?_append_left (by simpa using hi),List.getElem?_map]at h2
   cases e:vs[i]? with
   |none=>rw [e]at h2;cases h2
   |some a=>rw [e]at h2;cases h2;rfl
  obtain ⟨u,hu,rv⟩:=r.get ha;have hp:ps[i]?=some y:=by
   rw [<-S.pre,List.getElem?_take_of_lt (by lia)];exact h1
  have ndP:ps.Nodup:=by rw [<-S.pre];exact S.nd.sublist (List.take_sublist _ _)
  refine ⟨u,rv,?_⟩;rcases S.par y (List.mem_of_getElem? hp) with k | k
  ·exact .inl ⟨k,oP ndP hp hu k⟩
  ·obtain ⟨c,e⟩:=qK (n:=s.heap.objs.size+1) k
   refine .inr ⟨.inl k,c,e,?_⟩;have q:=x.cell y c e;rw [oK ndP hp hu (by show scope.names.lookup y≠_;rw [k];decide)]at q
   exact q
 ·exact e0.hok.fresh (Nat.le_of_lt (x.above y c (PySem.mem_of_lookup h)))
 ·unfold start
  show _=N.length
  rw [List.length_append,List.length_map,List.length_replicate]
  lia
theorem Af {CX:CXT} {P:Program} {w:World} {K:PySem.W.Frag} {mg:Str->Option Value} {base:Heap} {k:Nat} {f:Addr} {name qual:Str} {params:Arguments} {body:List Stmt} {scope:Scope} {dV kV doc pm cdv ct oc:Value} {an od:Option Addr}
  {osl:Array (Option Value)} {N ps:List Str} {sp:Sp} (lk:K.lookup f=some ⟨oc,od,.func (PySem.W.fnOf name qual params body scope dV kV doc pm an cdv ct),osl⟩) (hcd:PySem.W.codeIn K cdv qual=true) (S:FnScope N ps scope)
  (len:∀vs H Q E,sp vs H Q E->vs.length=ps.length)
  (hbody:∀(A:Around) (outer:List Env) (s:Shared) (H:Hp) (vs:List V) (Q:VK) (E:XK),Room k (A.deeper (envOfC qual scope s.heap.objs.size f cdv))->sp vs H Q E ->
   ∃t,PSs (nV CX P w K mg base N qual scope f cdv A outer s H E) body t/\t { nx:=λ_ H'=>Q .non H',rt:=Q } (start N vs) H) :
  FnOk P w K mg base CX (k+1) f (PySem.W.fnOf name qual params body scope dV kV doc pm an cdv ct) ps sp:=by
 refine ⟨len,λA outer s H args us vs Q E hr e0 hb r hsp=>?_⟩
 have hl:=len _ _ _ _ hsp;have KX:K.In s.heap:=e0.mod.kin.keeps λb o e=>(e0.bs b o e).1
 have lim:s.heap.NoLimit:=e0.mod.nolimit.keeps λb o e=>(e0.bs b o e).1
 have hkind:∀y∈ps.zip us,scope.names.lookup y.1=some .local\/(scope.names.lookup y.1=some .cell/\((cellsFrom (s.heap.objs.size+1) scope.names []).lookup y.1).isSome=true):=λ⟨n,v⟩ hy=>by
  rcases S.par n (List.of_mem_zip hy).1 with q | q
  ·exact .inl q
  ·exact .inr ⟨q,PySem.W.cellsFrom_some _ _ _ (.inl q)⟩
 refine codeAny_call_function hr.depth (KX _ _ lk) rfl S.co S.gen rfl (PySem.W.codeRec_of KX hcd) (hb _ _ _ _ ?_);refine wpAny_newFunctionEnv_cells S.kind hkind λenv he s1 x=>?_
 subst he;refine ⟨lim.keeps x.toInCall.keep,codeAny_func ?_⟩;obtain ⟨t,ht,hq⟩:=hbody A outer s H vs Q E (hr.deeper _) hsp;have I:Inv (nV CX P w K mg base N qual scope f cdv A outer s H E) [] (start N vs) H s1:=uK S hr.hd e0 hl r x;refine wpAny_mono (ht [] s1 (start N vs) H _ I hq) (λfl s' hs=>?_) λe s' hs=>hs
 have fin:∀{σ':St} {H':Hp} {v:V} {u:Value},Inv (nV CX P w K mg base N qual scope f cdv A outer s H E) [] σ' H' s'->RelV v u->Q v H'->CE outer P w H s Q u s' :=
  fun {σ' H' v u} J rv q=>⟨v,H',J.os,J.bare,J.base,J.hok,rv,q⟩
 cases fl with
 |ret u =>
  obtain ⟨v,σ',H',J,rv,q⟩:=hs;exact fin J rv q
 |next =>
  obtain ⟨σ',H',J,q⟩:=hs;exact fin (v:=V.non) (u:=Value.none) J rfl q
 |brk =>
  obtain ⟨_,_,_,q⟩:=hs;exact False.elim q
 |cont =>
  obtain ⟨_,_,_,q⟩:=hs;exact False.elim q
end L2
namespace L2
open PySem PySem.Spec PyProof.Rows
section
variable {X:Cx} {x:Str} {p pos:Pos} {e:Expr} {es:List Expr} {t:TA} {id T:String} {r:List V->Hp->VK->Prop}
noncomputable def tCB (r:List V->Hp->VK->Prop) (t:TA):TE:=fun σ H Q=>t σ H λvs H1=>r vs H1 Q
theorem qg (hc:fu X (.builtin id) r) (hg:Gl X x) (hm:X.mg x=none) (hv:bootBuiltins x=some (.builtin id)) (ha:PA X (e :: es) t) (hn:x ≠ "__name__" := by decide) (hdb:(x == ("__debug__" : Str))=false:=by decide)
  (he:starEach (e :: es) X.env=(false,eval e X.env) :: starEach es X.env:=by rfl) (hpl:(backTo pos (starEach es X.env)).any (·.1)=false:=by rfl):PE X (.Call (.Name x p) (e :: es) [] pos) (tCB r t):=by
 intro pins s σ H Q I h;refine wpAny_Call_Name_kw (ik I hg hm hv ?_ hn hdb);exact PyProof.Rows.callWith_builtin1 (thn (ha pos pins s σ H _ I h) λus s1 ⟨vs,H1,I1,r1,q1⟩=>hc pins s1 σ H1 vs us Q I1 r1 q1) he hpl
theorem uV (hc:fu X (.type T) r) (hg:Gl X x) (hm:X.mg x=none) (hv:bootBuiltins x=some (.type T)) (ha:PA X (e :: es) t) (hn:x ≠ "__name__" := by decide) (hdb:(x == ("__debug__" : Str))=false:=by decide)
  (he:starEach (e :: es) X.env=(false,eval e X.env) :: starEach es X.env:=by rfl) (hpl:(backTo pos (starEach es X.env)).any (·.1)=false:=by rfl):PE X (.Call (.Name x p) (e :: es) [] pos) (tCB r t):=by
 intro pins s σ H Q I h;refine wpAny_Call_Name_kw (ik I hg hm hv ?_ hn hdb);exact PyProof.Rows.callWith_type1 (thn (ha pos pins s σ H _ I h) λus s1 ⟨vs,H1,I1,r1,q1⟩=>hc pins s1 σ H1 vs us Q I1 r1 q1) he hpl
end
end L2
namespace HT
open PySem PyProof.Rows
section
open PySem.SeqAt
open PySem.AutoSeq1 (wpAny_loadPart')
open PySem.MeetsSeq PySem.MeetsSeq2 PySem.MeetsSeq3
end
section
variable {prog:Program} {w:World} {A:Around} {E:Value->Shared->Prop} {s:Shared}
noncomputable def sIx (n d:Nat):Option Int->Nat
 |none=>d
 |some v=>if v<0 then (v+(n:Int)).toNat else min v.toNat n
theorem mG (n d:Nat):sIx n d none=d:=rfl
theorem sF (n d k:Nat):sIx n d (some (k:Int))=min k n:=by
 show (if (k:Int)<0 then ((k:Int)+(n:Int)).toNat else min (k:Int).toNat n)=min k n
 rw [if_neg (by lia),Int.toNat_natCast]
theorem Ba (n d:Nat) (hd:d<=n) (o:Option Int):sIx n d o<=n:=by
 cases o with
 |none=>exact hd
 |some v =>
  show (if v<0 then (v+(n:Int)).toNat else min v.toNat n)<=n
  by_cases hv:v<0
  ·rw [if_pos hv];lia
  ·rw [if_neg hv];exact Nat.min_le_right _ _
theorem t6 (v:Int) (n d:Nat):(if v<0 then max (v+(n:Int)) 0 else min v (n:Int))=((sIx n d (some v):Nat):Int):=by
 show (if v<0 then max (v+(n:Int)) 0 else min v (n:Int))=(((if v<0 then (v+(n:Int)).toNat else min v.toNat n):Nat):Int)
 by_cases hv:v<0
 ·simp only [if_pos hv];lia
 ·simp only [if_neg hv];lia
theorem rQ (lo hi:Option Int) (n:Nat):Builtin.Slice.sliceAdjust lo hi 1 (n:Int)=(((sIx n 0 lo:Nat):Int),((sIx n n hi:Nat):Int)):=by
 have h1:¬((1:Int)<0):=by lia
 unfold Builtin.Slice.sliceAdjust;simp only [h1,if_false];refine Prod.ext ?_ ?_
 ·cases lo with
  |none=>rfl
  |some v=>exact t6 v n 0
 ·cases hi with
  |none=>rfl
  |some v=>exact t6 v n n
theorem rS (i j:Nat):Builtin.Slice.slicePlaces (i:Int) (j:Int) 1=j-i:=by
 unfold Builtin.Slice.slicePlaces;have h1:(1:Int) > 0:=by lia
 simp only [h1,if_true,Int.ediv_one];split <;> lia
theorem mK {v:Value} {o:Option Int} {Q:Option Int->Shared->Prop} (p:IsPart v o) (h:Q o s):wpAny (model prog w) A (Builtin.Slice.slicePartIndex v) Q E s:=by
 cases p with
 |none=>exact slicePart_none h
 |int i t=>exact slicePart_int h
theorem lA {sl:Addr} {vl vu:Value} {lo hi:Option Int} {n:Nat} {Q:Int×Int×Nat->Shared->Prop} (hs:s.heap.IsSliceOf sl vl vu .none) (pl:IsPart vl lo) (pu:IsPart vu hi)
  (h:Q (((sIx n 0 lo:Nat):Int),1,sIx n n hi-sIx n 0 lo) s):wpAny (model prog w) A (Builtin.Slice.sliceApplied (.ref sl) (pure (n:Int))) Q E s:=by
 obtain ⟨os,hos,hcs,hds⟩:=id hs;unfold Builtin.Slice.sliceApplied Builtin.Slice.sliceFields;refine wpAny_bind (wpAny_bind (wpAny_field hos hds (x:=vl) rfl (wpAny_bind (wpAny_field hos hds (x:=vu) rfl (wpAny_bind (wpAny_field hos hds (x:=.none) rfl (wpAny_pure ?_)))))));refine wpAny_bind (slicePart_none ?_);show wpAny _ _ (if ((1:Int) == 0)=true then _ else _) _ _ s
 rw [if_neg (by decide)]
 refine wpAny_bind (mK pl (wpAny_bind (mK pu (wpAny_bind (wpAny_pure ?_)))));show wpAny _ _ (match Builtin.Slice.sliceAdjust lo hi 1 (n:Int) with | (lo,hi)=>pure (lo,(1:Int),Builtin.Slice.slicePlaces lo hi 1)) _ _ s
 rw [rQ lo hi n];show wpAny _ _ (pure (((sIx n 0 lo:Nat):Int),(1:Int),Builtin.Slice.slicePlaces ((sIx n 0 lo:Nat):Int) ((sIx n n hi:Nat):Int) 1)) _ _ s
 rw [rS];exact wpAny_pure h
theorem wt (xs:Array Value) (i k:Nat):((List.range k).filterMap λ(m:Nat)=>xs[((i:Int)+(m:Int) * 1).toNat]?).toArray=((xs.toList.drop i).take k).toArray:=by
 have e:(λ(m:Nat)=>xs[((i:Int)+(m:Int) * 1).toNat]?)=λm=>xs[i+m]?:=by
  funext m
  have:((i:Int)+(m:Int) * 1).toNat=i+m:=by lia
  rw [this]
 rw [e];have:=pick_run xs i k;rw [List.filterMap_map]at this;have e2:((λx=>xs[x]?) ∘ λx=>i+x)=λm=>xs[i+m]?:=rfl
 rw [e2]at this;rw [this]
theorem kx {t sl:Addr} {items:Array Value} {vl vu:Value} {lo hi:Option Int} {Q:Value->Shared->Prop} (ht:IsTup s.heap t items) (hs:s.heap.IsSliceOf sl vl vu .none) (pl:IsPart vl lo) (pu:IsPart vu hi)
  (hw:¬(sIx items.size 0 lo=0/\sIx items.size items.size hi=items.size))
  (h:Q (.ref s.heap.objs.size) { s with heap:=s.heap.push { cls:=.type "tuple",data:=.seq ((items.toList.drop (sIx items.size 0 lo)).take (sIx items.size items.size hi-sIx items.size 0 lo)).toArray } })
  (hsz:items.size<=sizeLine):wpAny (model prog w) A (getItem (.ref t) (.ref sl)) Q E s:=by
 have htake:sizeOk (.seq ((items.toList.drop (sIx items.size 0 lo)).take (sIx items.size items.size hi-sIx items.size 0 lo)).toArray):=by
  show ((items.toList.drop (sIx items.size 0 lo)).take (sIx items.size items.size hi-sIx items.size 0 lo)).toArray.size<=sizeLine
  rw [List.size_toArray,List.length_take,List.length_drop,Array.length_toList]
  lia
 have hj:sIx items.size items.size hi<=items.size:=Ba _ _ (Nat.le_refl _) hi;obtain ⟨os,hos,hcs,hds⟩:=id hs;have hTs:s.TypeIs (.ref sl) "slice" := ⟨os,hos,hcs⟩;unfold getItem
 try with_reducible refine wpAny_holding ?_
 first | refine wpAny_bind (wpAny_pure ?_) | skip
 refine wpAny_bind (wpAny_sequenceKey ht.typeIs (by decide) ?_)
 refine wpAny_bind (wpAny_callSpecial?_slot (name:=Str.ofString "__getitem__") ht.typeIs PyProof.Rows.slot_tuple_getitem
  (wpAny_call_entry PyProof.Rows.slot_tuple_getitem ht.typeIs entry_tuple_getitem ?_ (args_tuple_getitem _ _)))
 show wpAny _ _ (Builtin.Tuple.tupleItemsOf (.ref t) >>= _) _ _ s
 refine wpAny_bind (tupleItemsOf_ ht ?_);refine wpAny_bind (wpAny_typeOf hTs ?_);rw [if_pos (by decide)]
 refine wpAny_bind (lA hs pl pu ?_);have hno:¬((((sIx items.size 0 lo:Nat):Int) == 0 && (1:Int) == 1 && (sIx items.size items.size hi-sIx items.size 0 lo) == items.size)=true):=by
  intro q;rw [Bool.and_eq_true,Bool.and_eq_true]at q;have q1:((sIx items.size 0 lo:Nat):Int)=0:=eq_of_beq q.1.1;have q2:sIx items.size items.size hi-sIx items.size 0 lo=items.size:=eq_of_beq q.2;exact hw ⟨by lia,by lia⟩
 show wpAny _ _ (if (((sIx items.size 0 lo:Nat):Int) == 0 && (1:Int) == 1 && (sIx items.size items.size hi-sIx items.size 0 lo) == items.size)=true then _ else _) _ _ s
 rw [if_neg hno,wt]
 first
  |exact wpAny_bind (m:=Builtin.Tuple.tupleExact _) (wpAny_newObj_type (wpAny_pure ⟨_,rfl,wpAny_pure h⟩) htake)
  |exact wpAny_bind (m:=Builtin.Tuple.tupleExact _) (wpAny_newObj_type (wpAny_bind (wpAny_pure (wpAny_pure ⟨_,rfl,wpAny_pure h⟩))) htake)
  |exact wpAny_bind (wpAny_bind (m:=Builtin.Tuple.tupleExact _) (wpAny_newObj_type (wpAny_pure (wpAny_pure ⟨_,rfl,wpAny_pure h⟩)) htake))
  |exact wpAny_bind (wpAny_bind (m:=Builtin.Tuple.tupleExact _) (wpAny_newObj_type (wpAny_pure ⟨_,rfl,wpAny_pure h⟩) htake))
end
end HT
namespace L2
open PySem PySem.Spec PyProof.Rows
noncomputable abbrev TO:=St->Hp->(Option Int->Hp->Prop)->Prop
noncomputable def PO (X:Cx) (e:Option Expr) (t:TO):Prop :=
 ∀(pins:List (Addr×Obj)) (s:Shared) (σ:St) (H:Hp) (Q:Option Int->Hp->Prop),Inv X pins σ H s->t σ H Q ->
  wpAny (model X.prog X.w) X.A (evalPart e X.env) (λu s'=>∃o H',Inv X pins σ H' s'/\IsPart u o/\Q o H') X.xe s
noncomputable def sS:TO:=λ_ H Q=>Q none H
noncomputable def Aj (t:TE):TO:=fun σ H Q=>t σ H λx H1=>∃i,x=.int i/\Q (some i) H1
theorem intsAre_of {ns:List Int}:∀{us:List Value},Vals (ns.map V.int) us->IntsAre us ns:=by
 induction ns with
 |nil=>intro us r;rw [List.map_nil]at r;cases r;exact .nil
 |cons n ns ih =>
  intro us r;rw [List.map_cons]at r;cases r with
  |cons r1 r2 =>
   obtain ⟨t,e⟩:=r1;subst e;exact .cons n t (ih r2)
section
variable {X:Cx} {e:Expr} {te:TE} {lo hi:Option Expr} {tl th:TO} {pos p2:Pos}
theorem yW:PO X none sS:=by
 intro pins s σ H Q I h;rw [evalPart_none];exact wpAny_pure ⟨none,H,I,.none,h⟩
theorem yd (h:PE X e te):PO X (some e) (Aj te):=by
 intro pins s σ H Q I hw;rw [evalPart_some];refine thn (h pins s σ H _ I hw) λu s1 ⟨x,H1,I1,r1,q1⟩=>?_
 obtain ⟨i,rfl,q⟩:=q1;obtain ⟨t,rfl⟩:=r1;exact ⟨some i,H1,I1,.int i t,q⟩
noncomputable def SlR (X:Cx) (r:V->Option Int->Option Int->Hp->VK->Prop):Prop :=
 ∀(pins:List (Addr×Obj)) (s:Shared) (σ:St) (H:Hp) (x:V) (v vl vu:Value) (lo hi:Option Int) (sl:Addr) (Q:VK),Inv X pins σ H s->RelV x v->s.heap.IsSliceOf sl vl vu .none->IsPart vl lo->IsPart vu hi->r x lo hi H Q ->
  ∃T id,typeLookup (.type T) "__getitem__" = pure (some (.builtin id))/\s.TypeIs v T/\wpAny (model X.prog X.w) X.A (getItem v (.ref sl)) (EP X pins σ Q) X.xe s
noncomputable def tSl (r:V->Option Int->Option Int->Hp->VK->Prop) (te:TE) (tl th:TO):TE:=fun σ H Q=>te σ H λx H1=>tl σ H1 λl H2=>th σ H2 λu H3=>r x l u H3 Q
theorem vT {r:V->Option Int->Option Int->Hp->VK->Prop} (hr:SlR X r) (he:PE X e te) (hl:PO X lo tl) (hu:PO X hi th):PE X (.Subscript e (.Slice lo hi none p2) pos) (tSl r te tl th):=by
 intro pins s σ H Q I h;refine Subscript_ (thn (he pins s σ H _ I h) λv s1 ⟨x,H1,I1,r1,q1⟩=>?_)
 refine wpAny_Slice (thn (hl pins s1 σ H1 _ I1 q1) λvl s2 ⟨l,H2,I2,pl,q2⟩=>thn (hu pins s2 σ H2 _ I2 q2) λvu s3 ⟨u,H3,I3,pu,q3⟩=>?_)
 rw [evalPart_none];refine wpAny_pure ?_;have I4:Inv X pins σ H3 { s3 with heap:=s3.heap.push { cls:=.type "slice",data:=.fields #[vl,vu,.none] } }:=I3.kept (t':=s3.toks) λb ob q=>Heap.get?_push_of_some _ q
 obtain ⟨T,id,hT,ht,hg⟩:=hr pins { s3 with heap:=s3.heap.push { cls:=.type "slice",data:=.fields #[vl,vu,.none] } } σ H3 x v vl vu l u s3.heap.objs.size Q I4 r1 (Heap.IsSliceOf.new ..) pl pu q3
 show wpAny (model X.prog X.w) X.A (subscriptTail e (.Slice lo hi none p2) v (.ref s3.heap.objs.size)) (EP X pins σ Q) X.xe { s3 with heap:=s3.heap.push { cls:=.type "slice",data:=.fields #[vl,vu,.none] } }
 exact tail_any (ops:=[.ref s3.heap.objs.size,v]) ht hT hg (by with_unfolding_all rfl)
noncomputable def qQ (xs:List V) (lo hi:Option Int):List V:=(xs.drop (HT.sIx xs.length 0 lo)).take (HT.sIx xs.length xs.length hi-HT.sIx xs.length 0 lo)
theorem lE (xs:List V) (lo hi:Option Int):(qQ xs lo hi).length<=xs.length:=by
 unfold qQ;rw [List.length_take,List.length_drop]
 lia
noncomputable def Fv (K:PySem.W.Frag):V->Option Int->Option Int->Hp->VK->Prop:=λx lo hi H Q=>∃a xs,x=.ref a/\SqT K H a xs /\
 ¬(HT.sIx xs.length 0 lo=0/\HT.sIx xs.length xs.length hi=xs.length)/\∀p,H p=none->Q (.ref p) (upd H p (.tup (qQ xs lo hi)))
theorem xX:SlR X (Fv X.K):=by
 intro pins s σ H x v vl vu lo hi sl Q I rx hs pl pu h;obtain ⟨a,xs,rfl,hx,hw,q⟩:=h;cases rx;obtain ⟨its,r,ht,hz⟩:=I.tuple hx;have hlen:its.toArray.size=xs.length:=by rw [List.size_toArray];exact r.length.symm
 refine ⟨"tuple",_,PyProof.Rows.slot_tuple_getitem.lookup,ht.typeIs,?_⟩;refine HT.kx ht hs pl pu (by rw [hlen];exact hw) ?_ (by rw [hlen];exact hz)
 rw [hlen];refine ⟨.ref s.heap.objs.size,_,I.laid (t':=s.toks) (o:=.tup (qQ xs lo hi)) (λb ob q=>Heap.get?_push_of_some _ q) (Nat.le_refl _) ?_,rfl,q _ (I.hok.fresh (Nat.le_refl _))⟩
 exact ⟨Nat.le_trans (lE xs lo hi) hz,_,(r.drop (HT.sIx xs.length 0 lo)).take (HT.sIx xs.length xs.length hi-HT.sIx xs.length 0 lo),IsTup.new _ _⟩
end
end L2
namespace L2
open PySem PySem.Spec PyProof.Rows
noncomputable def ixN (n:Nat) (i:Int):Option Nat:=if 0<=i then (if i<n then some i.toNat else none) else if -(n:Int)<=i then some (i+n).toNat else none
noncomputable def atI {α:Type} (xs:List α) (i:Int):Option α:=(ixN xs.length i).bind λj=>xs[j]?
theorem uc {n:Nat} {i:Int} {j:Nat} (h:ixN n i=some j):seqIndex? i n=some j/\j<n/\-(n:Int)<=i/\i<n:=by
 unfold ixN at h;by_cases h0:0<=i
 ·rw [if_pos h0]at h
  by_cases h1:i<n
  ·rw [if_pos h1]at h
   have e:i.toNat=j:=Option.some.inj h;exact ⟨by rw [seqIndex_of h0 h1,e],by lia,by lia,h1⟩
  ·rw [if_neg h1]at h;cases h
 ·rw [if_neg h0]at h
  by_cases h1:-(n:Int)<=i
  ·rw [if_pos h1]at h
   have e:(i+n).toNat=j:=Option.some.inj h;exact ⟨by rw [seqIndex_neg (by lia) h1,e],by lia,h1,by lia⟩
  ·rw [if_neg h1]at h;cases h
theorem pJ {α:Type} {xs:List α} {i:Int} {v:α} (h:atI xs i=some v):∃j,seqIndex? i xs.length=some j/\xs[j]?=some v/\j<xs.length/\-(xs.length:Int)<=i/\i<xs.length:=by
 unfold atI at h;cases e:ixN xs.length i with
 |none=>rw [e]at h;cases h
 |some j =>
  rw [e]at h;obtain ⟨h1,h2,h3,h4⟩:=uc e;exact ⟨j,h1,h,h2,h3,h4⟩
theorem dn {α:Type} {xs:List α} {j:Nat} {v:α} (h:xs[j]?=some v):atI xs (j:Int)=some v:=by
 have hj:j<xs.length:=(List.getElem?_eq_some_iff.mp h).1;have e:ixN xs.length (j:Int)=some j:=by
  unfold ixN;rw [if_pos (by lia),if_pos (by lia)];simp
 unfold atI;rw [e];exact h
theorem mU {α:Type} (xs:List α) (v:α):atI (xs++[v]) (-1)=some v:=by
 have hl:(xs++[v]).length=xs.length+1:=by simp
 have e:ixN (xs++[v]).length (-1)=some xs.length:=by
  unfold ixN;rw [hl,if_neg (by decide),if_pos (by lia)]
  congr 1
  lia
 unfold atI;rw [e];show (xs++[v])[xs.length]?=some v
 simp
noncomputable def me (b:Expr):Prop:=∀o i,subscripted b false o i=operate [o,i] (getItem o i)
noncomputable def IxR (X:Cx) (r:R2):Prop :=
 ∀(value slice:Expr) (pins:List (Addr×Obj)) (s:Shared) (σ:St) (H:Hp) (x y:V) (v u:Value) (Q:VK),Inv X pins σ H s->RelV x v->RelV y u->r x y H Q ->
  subscripted slice false v u=operate [v,u] (getItem v u)->wpAny (model X.prog X.w) X.A (subscriptTail value slice v u) (EP X pins σ Q) X.xe s
noncomputable def MtR (X:Cx) (id:String) (r:V->List V->Hp->VK->Prop):Prop :=
 ∀(pins:List (Addr×Obj)) (s:Shared) (σ:St) (H:Hp) (x:V) (xs:List V) (v:Value) (us:List Value) (Q:VK),Inv X pins σ H s->RelV x v->Vals xs us->r x xs H Q ->
  wpAny (model X.prog X.w) X.A (call (.builtin id) (v :: us)) (EP X pins σ Q) X.xe s
section
variable {X:Cx} {a b:Expr} {ta tb:TE} {pos:Pos}
theorem IxR.or {r r':R2} (h:IxR X r) (h':IxR X r'):IxR X (λx y H Q=>r x y H Q\/r' x y H Q):=by
 intro value slice pins s σ H x y v u Q I rx ry q hs;rcases q with q | q
 ·exact h value slice pins s σ H x y v u Q I rx ry q hs
 ·exact h' value slice pins s σ H x y v u Q I rx ry q hs
theorem t5 {r:R2} (hr:IxR X r) (ha:PE X a ta) (hb:PE X b tb) (hs:me b):PE X (.Subscript a b pos) (tOp r ta tb):=by
 intro pins s σ H Q I h;exact Subscript_ (BC ha hb I h λv u s2 x y H2 I2 rx ry q=>hr a b pins s2 σ H2 x y v u Q I2 rx ry q (hs _ _))
noncomputable def qY (K:PySem.W.Frag):R2:=λx y H Q=>∃p xs i v,x=.ref p/\y=.int i/\SqL K H p xs/\atI xs i=some v/\Q v H
noncomputable def F7 (K:PySem.W.Frag):R2:=λx y H Q=>∃p xs i v,x=.ref p/\y=.int i/\SqT K H p xs/\atI xs i=some v/\Q v H
noncomputable def Gv:R2:=λx y H Q=>∃z i c,x=.str z/\y=.int i/\z.length<=sizeLine/\atI z.cps.toList i=some c/\Q (.str ⟨#[c]⟩) H
theorem ub:IxR X (qY X.K):=by
 intro value slice pins s σ H x y v u Q I rx ry h hs;obtain ⟨p,xs,i,z,rfl,rfl,hq,he,q⟩:=h;cases rx;obtain ⟨t,rfl⟩:=ry;obtain ⟨its,r,pl,hz⟩:=I.list hq;obtain ⟨j,h1,h2,h3,h4,h5⟩:=pJ he;obtain ⟨w,ew,rw'⟩:=r.get h2;have hl:=r.length;have hn:=j8;have fin:EP X pins σ Q w s:=⟨z,H,I,rw',q⟩;by_cases h0:0<=i
 ·have hj:i.toNat=j:=by
   rw [seqIndex_of h0 h5]at h1;exact Option.some.inj h1
  exact item_listR pl.isList h0 (by lia) (by rw [hj];simpa using ew) fin hs
 ·have hj:(i+(its.toArray.size:Int)).toNat=j:=by
   rw [seqIndex_neg (by lia) h4]at h1
   rw [List.size_toArray,<-hl];exact Option.some.inj h1
  exact subscriptTail_builtinR (x:=w) pl.isList.typeIs slot_list_getitem.lookup
   (wpAny_getItem_list_neg (Q:=λr s'=>r=w/\EP X pins σ Q r s') pl.isList (by lia) (by rw [List.size_toArray] <;> lia) (by lia) (by rw [hj];simpa using ew) ⟨rfl,fin⟩) hs
theorem Cy:IxR X (F7 X.K):=by
 intro value slice pins s σ H x y v u Q I rx ry h hs;obtain ⟨p,xs,i,z,rfl,rfl,hq,he,q⟩:=h;cases rx;obtain ⟨t,rfl⟩:=ry;obtain ⟨its,r,pl,hz⟩:=I.tuple hq;obtain ⟨j,h1,h2,h3,h4,h5⟩:=pJ he;obtain ⟨w,ew,rw'⟩:=r.get h2;have hl:=r.length;have hn:=j8;have fin:EP X pins σ Q w s:=⟨z,H,I,rw',q⟩;exact subscriptTail_builtinR (x:=w) pl.typeIs slot_tuple_getitem.lookup
  (getItem_tuple (j:=j) (Q:=λr s'=>r=w/\EP X pins σ Q r s') pl (by lia) (by lia) (by rw [List.size_toArray,<-hl];exact h1) (by simpa using ew) ⟨rfl,fin⟩) hs
theorem Ay:IxR X Gv:=by
 intro value slice pins s σ H x y v u Q I rx ry h hs;obtain ⟨z,i,c,rfl,rfl,hz,he,q⟩:=h;obtain ⟨t,rfl⟩:=rx;obtain ⟨t',rfl⟩:=ry;obtain ⟨j,h1,h2,h3,h4,h5⟩:=pJ he;have hl:z.cps.toList.length=z.length:=by simp [Str.length]
 rw [hl]at h1 h4 h5;have hn:=j8;exact tail_any (typeIs_str s z t) slot_str_getitem.lookup (getItem_str (c:=c) (by
  have e1:decide (i < -(2 ^ 63:Int))=false:=decide_eq_false (by lia)
  have e2:decide (i ≥ 2 ^ 63)=false:=decide_eq_false (by lia)
  rw [e1,e2,Bool.or_false]) (by rw [h1];simpa using h2) ⟨.str ⟨#[c]⟩,H,I.tok _,⟨_,rfl⟩,q⟩) hs
noncomputable def rIx (K:PySem.W.Frag):R2:=λx y H Q=>qY K x y H Q\/F7 K x y H Q\/Gv x y H Q
theorem ao:IxR X (rIx X.K):=ub.or (Cy.or Ay)
theorem r6 (its:List Value) (n j:Nat) (u:Value):Obj.mapSeq (·.setIfInBounds j u) { cls:=.type "list",data:=.seq its.toArray n }={ cls:=.type "list",data:=.seq (its.set j u).toArray n }:=by
 simp [Obj.mapSeq]
theorem Inv.lst {pins:List (Addr×Obj)} {σ:St} {H:Hp} {s:Shared} {p:Addr} {xs:List V} (I:Inv X pins σ H s) (h:H p=some (.lst xs)) :
  ∃(its:List Value) (n:Nat),Vals xs its/\s.heap.get? p=some { cls:=.type "list",data:=.seq its.toArray n }/\xs.length<=sizeLine:=by
 obtain ⟨z,its,n,r,e⟩:=I.hok p _ h;exact ⟨its,n,r,e,z⟩
theorem Inv.lstUpd {pins:List (Addr×Obj)} {σ:St} {H:Hp} {s:Shared} {p:Addr} {xs ys:List V} {its its':List Value} {n n':Nat} {f:Obj->Obj} (I:Inv X pins σ H s) (h:H p=some (.lst xs))
  (ho:s.heap.get? p=some { cls:=.type "list",data:=.seq its.toArray n }) (hf:f { cls:=.type "list",data:=.seq its.toArray n }={ cls:=.type "list",data:=.seq its'.toArray n' }) (r:Vals ys its') (hz:ys.length<=sizeLine) (t:Nat) :
  Inv X pins σ (upd H p (.lst ys)) { s with heap:=s.heap.update p f,toks:=t }:=by
 have e:(s.heap.update p f).get? p=some { cls:=.type "list",data:=.seq its'.toArray n' }:=by
  rw [Heap.get?_update_self f ho (by rw [hf] <;> rfl),hf]
 refine I.write (x:=p) (e:=p) (by rw [h];trivial) (.inl rfl) (λb u hb q=>(Heap.get?_update_other _ _ (Ne.symm hb)).trans q) ⟨_,e⟩ ?_
 exact ⟨hz,its',n',r,e⟩
noncomputable def Ak:V->V->V->Hp->(Hp->Prop)->Prop:=λo i v H Q=>∃p xs k j,o=.ref p/\i=.int k/\H p=some (.lst xs)/\ixN xs.length k=some j/\Q (upd H p (.lst (xs.set j v)))
theorem set_list:Ez X Ak:=by
 intro pins s σ H o i v ov iv u Q I ro ri rv h;obtain ⟨p,xs,k,j,rfl,rfl,hp,hj,q⟩:=h;cases ro;obtain ⟨t,rfl⟩:=ri;obtain ⟨its,n,r,ho,hz⟩:=I.lst hp;obtain ⟨h1,h2,h3,h4⟩:=uc hj;have hl:=r.length;have hn:=j8;have I':Inv X pins σ (upd H p (.lst (xs.set j v))) { s with heap:=s.heap.update p (Obj.mapSeq (·.setIfInBounds j u)) } :=
  I.lstUpd hp ho (r6 its n j u) (r.set rv j) (by rw [List.length_set];exact hz) s.toks
 by_cases h0:0<=k
 ·have hk:k.toNat=j:=by
   rw [seqIndex_of h0 h4]at h1;exact Option.some.inj h1
  exact PySem.W.ki_setAt ho h0 (by lia) (by rw [List.size_toArray,<-hl];exact h4) (by rw [hk];exact ⟨_,I',q⟩)
 ·have hk:(k+(its.toArray.size:Int)).toNat=j:=by
   rw [seqIndex_neg (by lia) h3]at h1
   rw [List.size_toArray,<-hl];exact Option.some.inj h1
  exact PySem.W.ki_setBack ho (by lia) (by rw [List.size_toArray,<-hl];exact h3) (by lia) (by rw [hk];exact ⟨_,I',q⟩)
theorem oZ (lo hi:Option Int) (n:Nat):(sliceBounds lo hi none n).1=((HT.sIx n 0 lo:Nat):Int)/\(sliceBounds lo hi none n).2.1=((HT.sIx n n hi:Nat):Int)/\(sliceBounds lo hi none n).2.2=1:=by
 refine ⟨?_,?_,rfl⟩
 ·cases lo with
  |none=>simp [sliceBounds,HT.sIx]
  |some i =>
   simp only [sliceBounds,HT.sIx,Option.getD_none,show (1:Int) > 0 by decide,if_true]
   by_cases h:i<0
   ·simp only [h,if_true] <;> lia
   ·simp only [h,if_false] <;> lia
 ·cases hi with
  |none=>simp [sliceBounds,HT.sIx]
  |some i =>
   simp only [sliceBounds,HT.sIx,Option.getD_none,show (1:Int) > 0 by decide,if_true]
   by_cases h:i<0
   ·simp only [h,if_true] <;> lia
   ·simp only [h,if_false] <;> lia
theorem n_ (its:List Value) (lo hi:Option Int):slicePick its.toArray lo hi none=((its.drop (HT.sIx its.length 0 lo)).take (HT.sIx its.length its.length hi-HT.sIx its.length 0 lo)).toArray:=by
 obtain ⟨h1,h2,h3⟩:=oZ lo hi its.toArray.size;unfold slicePick;rw [h1,h2,h3];simp only [sliceRange_one,pick_run,List.size_toArray] <;> rfl
noncomputable def Eb (K:PySem.W.Frag):V->Option Int->Option Int->Hp->VK->Prop:=λx lo hi H Q=>∃a xs,x=.ref a/\SqL K H a xs/\∀p,H p=none->Q (.ref p) (upd H p (.lst (qQ xs lo hi)))
theorem mz:SlR X (Eb X.K):=by
 intro pins s σ H x v vl vu lo hi sl Q I rx hs pl pu h;obtain ⟨a,xs,rfl,hx,q⟩:=h;cases rx;obtain ⟨its,r,ht,hz⟩:=I.list hx;have hlen:=r.length;refine ⟨"list",_,slot_list_getitem.lookup,ht.isList.typeIs,?_⟩;refine wpAny_getItem_list_slice ht.isList hs pl pu .none (by simp) ?_ (by rw [List.size_toArray] <;> lia)
 rw [n_,<-hlen];refine ⟨.ref s.heap.objs.size,_,I.laid (t':=s.toks) (o:=.lst (qQ xs lo hi)) (λb ob q=>Heap.get?_push_of_some _ q) (Nat.le_refl _) ?_,rfl,q _ (I.hok.fresh (Nat.le_refl _))⟩
 exact ⟨Nat.le_trans (lE xs lo hi) hz,_,0,(r.drop (HT.sIx xs.length 0 lo)).take (HT.sIx xs.length xs.length hi-HT.sIx xs.length 0 lo),Heap.get?_push_size _ rfl⟩
theorem pw:fu X (.builtin "len") (λxs H Q=>∃p ys,xs=[.ref p]/\(SqL X.K H p ys\/SqT X.K H p ys)/\Q (.int ys.length) H):=by
 intro pins s σ H xs us Q I r h;obtain ⟨p,ys,rfl,hq,q⟩:=h;obtain ⟨u,rfl,rx⟩:=vals1 r;cases rx;have hn:=j8;rcases hq with hq | hq
 ·obtain ⟨its,r',pl,hz⟩:=I.list hq
  have hlen:=r'.length;exact Calls.call_len_list pl.isList (by simp only [List.size_toArray] <;> lia) ⟨.int ys.length,H,I.tok _,⟨s.toks+1,by rw [List.size_toArray,hlen]⟩,q⟩
 ·obtain ⟨its,r',pl,hz⟩:=I.tuple hq
  have hlen:=r'.length;exact len_tuple pl (by simp only [List.size_toArray] <;> lia) ⟨.int ys.length,H,I.tok _,⟨s.toks+1,by rw [List.size_toArray,hlen]⟩,q⟩
theorem pM:fu X (.builtin "len") (λxs H Q=>∃z,xs=[.str z]/\z.length<=sizeLine/\Q (.int z.length) H):=by
 intro pins s σ H xs us Q I r h;obtain ⟨z,rfl,hz,q⟩:=h;obtain ⟨u,rfl,t,rfl⟩:=vals1 r;have hn:=j8;exact len_str (by lia) ⟨.int z.length,H,I.tok _,⟨_,rfl⟩,q⟩
theorem fu.or {f:Value} {r r':List V->Hp->VK->Prop} (h:fu X f r) (h':fu X f r'):fu X f (λxs H Q=>r xs H Q\/r' xs H Q):=by
 intro pins s σ H xs us Q I rs q;rcases q with q | q
 ·exact h pins s σ H xs us Q I rs q
 ·exact h' pins s σ H xs us Q I rs q
noncomputable def tyV (K:PySem.W.Frag) (T:String) (x:V) (H:Hp):Prop:=match x with
 |.str _=>T = "str"
 |.int _=>T = "int"
 |.ref p=>(T = "list" /\ ∃xs,SqL K H p xs)\/(T = "tuple" /\ ∃o,K.lookup p=some o/\o.cls=.type "tuple" /\ o.dict=none) \/
   (T = "dict" /\ ((∃kvs,H p=some (.dK kvs))\/∃kvs,H p=some (.dT kvs)))\/(T = "set" /\ ∃S n,H p=some (.set S n))
 |_=>False
theorem Cs {pins:List (Addr×Obj)} {σ:St} {H:Hp} {s:Shared} {T:String} {x:V} {v:Value} (I:Inv X pins σ H s) (r:RelV x v) (ty:tyV X.K T x H) :
  s.TypeIs v T/\∀a,v=.ref a->∃ob,s.heap.get? a=some ob/\ob.dict=none:=by
 cases x with
 |str z =>
  obtain ⟨t,rfl⟩:=r;cases (show T = "str" from ty)
  exact ⟨typeIs_str s z t,λ_ e=>nomatch e⟩
 |int i =>
  obtain ⟨t,rfl⟩:=r;cases (show T = "int" from ty)
  exact ⟨typeIs_int s i t,λ_ e=>nomatch e⟩
 |ref p =>
  cases r;rcases ty with ⟨rfl,xs,hq⟩ | ⟨rfl,o,hk,hc,hd⟩ | ⟨rfl,hk⟩ | ⟨rfl,S,n,hk⟩
  ·obtain ⟨its,_,pl,_⟩:=I.list hq
   refine ⟨pl.isList.typeIs,λa e=>?_⟩
   cases e;obtain ⟨o,n,e,c,hd,_⟩:=pl;exact ⟨o,e,hd⟩
  ·refine ⟨⟨o,I.kIn p o hk,hc⟩,λa e=>?_⟩
   cases e;exact ⟨o,I.kIn _ o hk,hd⟩
  ·have z:∃o,s.heap.get? p=some o/\o.ExactDict:=by
    rcases hk with ⟨kvs,hk⟩ | ⟨kvs,hk⟩
    ·obtain ⟨_,_,_,_,o,_,_,e,ex,_⟩:=I.hok p _ hk
     exact ⟨o,e,ex⟩
    ·obtain ⟨_,_,_,_,o,_,_,e,ex,_⟩:=I.hok p _ hk
     exact ⟨o,e,ex⟩
   obtain ⟨o,e,ex⟩:=z;refine ⟨⟨o,e,ex.1⟩,λa e2=>?_⟩
   cases e2;exact ⟨o,e,ex.2.1⟩
  ·obtain ⟨o,_,_,_,e,ex,_⟩:=I.hok p _ hk
   refine ⟨⟨o,e,ex.1⟩,λa e2=>?_⟩
   cases e2;exact ⟨o,e,ex.2.1⟩
 |_=>exact False.elim ty
noncomputable def tBM (K:PySem.W.Frag) (T:String) (r:V->List V->Hp->VK->Prop) (to:TE) (t:TA):TE:=fun σ H Q=>to σ H λx H1=>tyV K T x H1/\t σ H1 λxs H2=>r x xs H2 Q
variable {o e:Expr} {es:List Expr} {to:TE} {t:TA} {name:Str} {apos cpos:Pos} {T id:String} {r:V->List V->Hp->VK->Prop}
theorem Ao (pa:PlainAttrs T) (slot:Slot T name id) (hty:typeOf (.builtin id)=pure (.type "method_descriptor")) (hm:MtR X id r) (ho:PE X o to) (ha:PA X (e :: es) t)
  (hbase:attributeBase o name X.env (eval o X.env)=eval o X.env:=by rfl)
  (hfew:((backTo cpos (starEach (e :: es) X.env)).all (λx=>!x.1) && (backToKw cpos (keywordEach [] X.env)).all (λx=>x.1.isSome)
   && decide ((e :: es).length+([]:List Keyword).length+(if ([]:List Keyword).isEmpty then 0 else 1)<30))=true:=by rfl)
  (hline:(apos.endLine == cpos.line)=true:=by rfl) (hs:starEach (e :: es) X.env=(false,eval e X.env) :: starEach es X.env:=by rfl) (hplain:(backTo cpos (starEach es X.env)).any (·.1)=false:=by rfl) :
  PE X (.Call (.Attribute o name apos) (e :: es) [] cpos) (tBM X.K T r to t):=by
 intro pins s σ H Q I h;refine wpAny_Call_method_late hbase hfew hline rfl (thn (ho pins s σ H _ I h) λv s1 ⟨x,H1,I1,r1,ty,q1⟩=>?_)
 obtain ⟨h1,h2⟩:=Cs I1 r1 ty;refine ⟨T,id,pa,slot,hty,h1,h2,?_⟩;have hA:=ha cpos pins s1 σ H1 _ I1 q1;rw [hs]at hA ⊢;refine Calls.callWith_builtin (by show (false || (backTo cpos (starEach es X.env)).any (·.1))=false;rw [hplain] <;> rfl) (Calls.evalArgs_plain ?_)
 exact thn hA λus s2 ⟨vs,H2,I2,r2,q2⟩=>hm pins s2 σ H2 x vs v us Q I2 r1 r2 q2
end
end L2
namespace L2
open PySem PySem.Spec PyProof.Rows
noncomputable def MtM (X:Cx) (id:String) (r:V->List V->Hp->VK->Prop):Prop :=
 ∀(pins:List (Addr×Obj)) (s:Shared) (σ:St) (H:Hp) (x:V) (xs:List V) (v:Value) (us:List Value) (Q:VK),Inv X pins σ H s->RelV x v->Vals xs us->r x xs H Q ->
  wpAny (model X.prog X.w) X.A (call (.builtin id) (v :: us)) (EP X pins σ Q) X.xe s
theorem Vals.one {x:V} {us:List Value} (h:Vals [x] us):∃u,us=[u]/\RelV x u:=by
 cases h with
 |cons r t=>cases t;exact ⟨_,rfl,r⟩
theorem Vals.two {x y:V} {us:List Value} (h:Vals [x,y] us):∃u v,us=[u,v]/\RelV x u/\RelV y v:=by
 cases h with
 |cons r t=>obtain ⟨v,rfl,q⟩:=Vals.one t;exact ⟨_,v,rfl,r,q⟩
theorem Vals.rep {xs:List V} {us:List Value} (h:Vals xs us):∀k:Nat,Vals (List.replicate k xs).flatten (List.replicate k us).flatten
 |0=>.nil
 |k+1=>by
  rw [List.replicate_succ,List.replicate_succ,List.flatten_cons,List.flatten_cons];exact Vals.append h (Vals.rep h k)
theorem foldl_rep (its:List Value):∀(k:Nat) (acc:List Value),
  List.foldl (λx1 x2=>x1++x2) acc.toArray (List.replicate k its.toArray)=(acc++(List.replicate k its).flatten).toArray
 |0,acc=>by simp
 |k+1,acc=>by
  have e:acc.toArray++its.toArray=(acc++its).toArray:=by simp
  have e2:(acc++its)++(List.replicate k its).flatten=acc++(List.replicate (k+1) its).flatten:=by
   rw [List.replicate_succ,List.flatten_cons,List.append_assoc]
  rw [<-e2,<-foldl_rep its k (acc++its),<-e,List.replicate_succ,List.foldl_cons]
section
variable {X:Cx} {pins:List (Addr×Obj)} {σ:St} {H:Hp} {s:Shared} {l b:Addr} {xs ys zs:List V}
theorem Inv.lset {its its':List Value} {n:Nat} {f:Array Value->Array Value} {t':Nat} (I:Inv X pins σ H s) (hH:H l=some (.lst xs))
  (e:s.heap.get? l=some { cls:=.type "list",data:=.seq its.toArray n }) (hf:f its.toArray=its'.toArray) (hv:Vals ys its') (hz:ys.length<=sizeLine) :
  Inv X pins σ (upd H l (.lst ys)) { s with heap:=s.heap.update l (Obj.mapSeq f),toks:=t' }:=by
 have q:=PySem.IsL.update e f;rw [hf]at q;refine I.write (x:=l) (e:=l) (by rw [hH];exact trivial) (.inl rfl) (λb' u hb hu=>(Heap.get?_update_other s.heap (Obj.mapSeq f) (Ne.symm hb)).trans hu) ⟨_,q⟩ ?_
 exact ⟨hz,its',_,hv,q⟩
theorem Inv.lnew {its:List Value} {t':Nat} (I:Inv X pins σ H s) (hv:Vals ys its) (hz:ys.length<=sizeLine) :
  Inv X pins σ (upd H s.heap.objs.size (.lst ys)) { s with heap:=s.heap.push { cls:=.type "list",data:=.seq its.toArray },toks:=t' } :=
 I.laid (λ_ _ q=>Heap.get?_push_of_some _ q) (Nat.le_refl _) ⟨hz,its,0,hv,Heap.get?_push_size _ rfl⟩
theorem Inv.fresh (I:Inv X pins σ H s):H s.heap.objs.size=none:=I.hok.fresh (Nat.le_refl _)
theorem Inv.lstM (I:Inv X pins σ H s) (hH:H l=some (.lst xs)):xs.length<=sizeLine/\∃(its:List Value) (n:Nat),Vals xs its/\xs.length=its.length/\s.heap.get? l=some { cls:=.type "list",data:=.seq its.toArray n }:=by
 obtain ⟨z,its,n,r,e⟩:=I.hok l _ hH;exact ⟨z,its,n,r,r.length,e⟩
theorem qc {n:Nat} (h:n<=sizeLine):Builtin.List.listTooLong n=false:=by
 unfold Builtin.List.listTooLong;exact decide_eq_false (by lia)
end
section
variable {X:Cx}
noncomputable def pF:V->List V->Hp->VK->Prop:=λx vs H Q=>∃l xs y,x=.ref l/\vs=[y]/\H l=some (.lst xs)/\xs.length<sizeLine/\Q .non (upd H l (.lst (xs++[y])))
theorem lg:MtM X "list.append" pF:=by
 intro pins s σ H x vs v us Q I rx rv h;obtain ⟨l,xs,y,rfl,rfl,hH,hz,q⟩:=h;cases rx;obtain ⟨u,rfl,ru⟩:=rv.one;obtain ⟨z,its,n,r,hl,e⟩:=I.lstM hH;refine call_meets F.slot_list_append ⟨_,e,rfl⟩ F.entry_list_append (F.args_list_append_2 _ _) (PySem.list_append l its.toArray n u (by rw [List.size_toArray];lia)) ⟨e,?_⟩
 refine ⟨.non,_,I.lset (its':=its++[u]) hH e (by simp) (r.append (.cons ru .nil)) ?_,rfl,q⟩
 rw [List.length_append,List.length_singleton]
 lia
noncomputable def s_:V->List V->Hp->VK->Prop:=λx vs H Q=>∃l b xs zs,x=.ref l/\vs=[.ref b]/\H l=some (.lst xs)/\H b=some (.lst zs)/\xs.length+zs.length<=sizeLine/\Q .non (upd H l (.lst (xs++zs)))
theorem ug:MtM X "list.extend" s_:=by
 intro pins s σ H x vs v us Q I rx rv h;obtain ⟨l,b,xs,zs,rfl,rfl,hH,hB,hz,q⟩:=h;cases rx;obtain ⟨u,rfl,ru⟩:=rv.one;cases ru;obtain ⟨z,its,n,r,hl,e⟩:=I.lstM hH;obtain ⟨z2,its2,n2,r2,hl2,e2⟩:=I.lstM hB;have hsz:its.toArray.size+its2.toArray.size<=sizeLine:=by rw [List.size_toArray,List.size_toArray];lia
 have hlong:¬(!its.toArray.isEmpty && Builtin.List.listTooLong (its.toArray.size+its2.toArray.size))=true:=by
  rw [qc hsz,Bool.and_false];exact Bool.false_ne_true
 refine call_meets F.slot_list_extend ⟨_,e,rfl⟩ F.entry_list_extend (F.args_list_extend_2 _ _)
  (AutoSeq1.list_extend_list_list_0 l its.toArray n b its2.toArray n2 hlong (by rw [List.size_toArray];lia) (by lia)) ⟨e,e2,?_⟩
 refine ⟨.non,_,I.lset (its':=its++its2) hH e (by simp) (r.append r2) ?_,rfl,q⟩
 rw [List.length_append]
 lia
theorem len_rep {α:Type} (xs:List α) (k:Nat):(List.replicate k xs).flatten.length=k * xs.length:=by
 induction k with
 |zero=>simp
 |succ k ih=>rw [List.replicate_succ,List.flatten_cons,List.length_append,ih,Nat.succ_mul,Nat.add_comm]
end
section
variable {prog:Program} {w:World} {A:Around} {E:Value->Shared->Prop} {s:Shared}
set_option maxRecDepth 100000 in
end
section
variable {X:Cx}
end
end L2
namespace Att
open PySem PySem.W PySem.Calls PyProof.Rows
theorem lP {P:Params} {h:Heap}:∀(ns:List Int) (vs:List Value),WellAll P h vs (ns.map WData.int)->IntsAre vs ns:=by
 intro ns
 induction ns with
 |nil =>
  intro vs w;rw [List.map_nil]at w;cases w;exact .nil
 |cons n ns ih =>
  intro vs w;rw [List.map_cons]at w;cases w with
  |cons a b =>
   cases a;exact .cons _ _ (ih _ b)
theorem uD {l:OpenLaw} {n:Nat} (hn:l.most=some n) {P:Params} {h:Heap} {args:List WData} {vals:List Value}
  (hpre:l.row.toRowW.claim.pre args=true) (hwl:WellAll P h vals args) :
  ∃a vs ns,vals=[Value.ref a]/\args=[WData.list (ns.map WData.int)]/\h.get? a=some { cls:=.type "list",data:=.seq vs.toArray }/\IntsAre vs ns/\ns.length<=n:=by
 have hsh:WShape.hasAll [] args [.list .int]=true:=(pre_splitW hpre).1;have hc:l.pre.holds [] { args:=args }=true:=(pre_splitW hpre).2;obtain ⟨d,r,rfl,h1,h2⟩:=hasAllW_cons hsh;obtain rfl:=hasAllW_nil h2;obtain ⟨xs,rfl,h3⟩:=hasW_list h1;obtain ⟨ns,rfl⟩:=items_int h3;have hlen:ns.length<=n:=by
  unfold OpenLaw.pre at hc;have h4:(WTm.not (.lt (.lit (.int (n:Int))) (.len (.arg 0)))).holds [] { args:=[.list (ns.map .int)] }=true:=by
   have h4:=(holds_andW hc).1;rw [hn]at h4;exact h4
  have h5:=condW_of h4 (w_not (w_lt w_lit (w_len_list (w_arg rfl))));rw [List.length_map]at h5;refine Nat.le_of_not_lt λq=>?_
  have q':(n:Int)<((ns.length:Nat):Int):=by lia
  first
   | (rw [decide_eq_true q']at h5;exact absurd h5 (by decide))
   | (simp at h5;lia)
 cases hwl with
 |cons w1 w2 =>
  cases w2;cases w1 with
  |list ho hall=>exact ⟨_,_,ns,rfl,rfl,ho,lP ns _ hall,hlen⟩
theorem uu (l:OpenLaw) (args:List WData):l.row.toRowW.claim.post args (.bool true) args=true :=
 postW_of (r:=l.row.toRowW) (X:=(true == true))
  (show WShape.has [] (.bool true) .bool=true by first | rfl | decide | simp [WShape.has,WShape.arms,WShape.armsAll])
  (show (WTm.eq .res (.lit (.bool true))).value [] { args:=args,res:=some (.bool true),after:=args }=some (.bool (true == true)) from w_eq_bool (w_res rfl) w_lit) rfl
theorem lL {l:OpenLaw} {n:Nat} {q:Program} {loose:List Str} {XP:(Str->Option Value)->Heap->Prop} {YP:World->Heap->Prop} {d:DefRec}
  (hn:l.most=some n) (hdf:d.params.defaults=[])
  (call:∀(w:World) (s₀ s₁:Shared) (mg mb:Str->Option Value) (fa:Addr) (o:Obj) (pm cd doc:Value) (a:Addr) (vs:List Value) (ns:List Int),
   Ground q loose [] XP w s₀ mg mb s₁.heap->YP w s₁.heap ->
   s₁.heap.get? fa=some o->o.data=.func (docDef d.name d.params d.body d.scope pm cd doc)->s₁.heap.CodeRec cd d.name->mg d.name=some (.ref fa) ->
   s₁.heap.get? a=some { cls:=.type "list",data:=.seq vs.toArray }->IntsAre vs ns->ns.length<=n->s₁.gens=#[] ->
   codeAny (model l.prog w) callerA (.call (.ref fa) ⟨[.ref a],[]⟩) (λr s'=>r=.ok (.ret (.bool true))/\OldK s₁.heap s'.heap/\s'.os=s₁.os/\AllBare s'.gens) s₁) :
  WalkO q loose XP YP l.row.toRowW d [] (λf vs=>PySem.call f vs):=by
 intro w s₀ s₁ mg mb G Y fa o pm cd doc dV kV ho hd hcd hD hmg hg args vals as hpre hlay hrd hwl hlo;obtain rfl:dV=.none:=Dflts.none hD hdf;obtain rfl:kV=.none:=Dflts.noKw hD;obtain ⟨a,vs,ns,rfl,rfl,hobj,hints,hlen⟩:=uD hn hpre hwl;refine enter_call (codeAny_mono (call w s₀ s₁ mg mb fa o pm cd doc a vs ns G Y ho (fd_plain hd) hcd hmg hobj hints hlen hg) λr s' hq=>?_)
 obtain ⟨rfl,h2,h3,h4⟩:=hq;exact ⟨.inl ⟨.bool true,.bool true,[],rfl,λ_=>rfl,.bool true,uu l _,λ_=>⟨List.Pairwise.nil,λ_ hm=>(nomatch hm)⟩⟩,h2,h3,h4⟩
section
variable {prog:Program} {w:World} {A:Around} {E:Value->Shared->Prop} {s:Shared} {K:Frag}
noncomputable def ledger (h:Heap) (L d:Addr):List (Addr×Obj):=(List.range h.objs.size).filterMap λa=>if a=L\/a=d then none else (h.get? a).map λo=>(a,o)
end
end Att
namespace L2
open PySem PySem.Spec PyProof.Rows
theorem iH:∀{vs:List Value} {ns:List Int},IntsAre vs ns->Vals (ns.map V.int) vs
 |_,_,.nil=>.nil
 |_,_,.cons n t h=>.cons ⟨t,rfl⟩ (iH h)
noncomputable def ui (H:Hp):Prop:=∀b,H b=none\/∃o xs,H b=some (.frz o (.lst xs))
theorem wO {P:Program} {w:World} {K:PySem.W.Frag} {mg mb:Str->Option Value} {CX:CXT} {k:Nat} {fa a:Addr} {fd:FuncData} {x:Str} {sp:Sp} {s₁:Shared} {vs:List Value} {ns:List Int}
  (KX:K.In s₁.heap) (hns:s₁.heap.Ns mainGlobals mg) (hb:s₁.heap.Ns builtinsNs mb) (hbb:∀x:Str,x ≠ "__name__" -> mb x=bootBuiltins x) (hlim:s₁.heap.NoLimit) (hg:s₁.gens=#[])
  (ha:s₁.heap.get? a=some { cls:=.type "list",data:=.seq vs.toArray }) (hi:IntsAre vs ns) (hl:ns.length<=sizeLine) (hr:Room k callerA)
  (F:∀base:Heap,K.In base->base.Ns mainGlobals mg->FnOk P w K mg base CX k fa fd [x] sp) (hbind:∀(s:Shared) (u:Value),BindsTo s fd ⟨[u],[]⟩ [(x,u)])
  (hsp:∀H:Hp,ui H->SqL K H a (ns.map V.int)->sp [.ref a] H (λv _=>v=.bl true) λ_ _ _=>False)
  (hCX:∀H e s',CX [] H s₁ (λ_ _ _=>False) e s'->False) :
  codeAny (model P w) callerA (.call (.ref fa) ⟨[.ref a],[]⟩) (λr s'=>r=.ok (.ret (.bool true))/\OldK s₁.heap s'.heap/\s'.os=s₁.os/\AllBare s'.gens) s₁:=by
 have rv:=iH hi;have lenV:=hi.length;have core:∀H:Hp,ui H->SqL K H a (ns.map V.int)->HOk P w H s₁.heap->(∀b,H b≠none->b=a)->(H a≠none->K.lookup a=none) ->
   codeAny (model P w) callerA (.call (.ref fa) ⟨[.ref a],[]⟩) (λr s'=>r=.ok (.ret (.bool true))/\OldK s₁.heap s'.heap/\s'.os=s₁.os/\AllBare s'.gens) s₁:=by
  intro H hO hS hok hA hK;have base_of:∀{b:Addr} {o:Obj},s₁.heap.get? b=some o->H b=none->(j6 s₁.heap H).get? b=some o:=λe n=>qG e n
  have noA:∀{b:Addr} {o:Obj} {es:Array DictEntry} {ep:Nat},s₁.heap.get? b=some o->o.data=.dict es ep->H b=none:=fun {b o es ep} e d=>by
   cases q:H b with
   |none=>rfl
   |some u =>
    have e':b=a:=hA b (by rw [q];simp)
    subst e';rw [ha]at e;cases e;have d':Data.seq vs.toArray _=Data.dict es ep:=d;cases d'
  have nsK:∀{b:Addr} {m:Str->Option Value},s₁.heap.Ns b m->(j6 s₁.heap H).Ns b m:=fun {b m} ⟨o,es,ep,e,d,r⟩=>⟨o,es,ep,base_of e (noA e d),d,r⟩
  have hKb:K.In (j6 s₁.heap H):=λb o e=>base_of (KX b o e) (by
   cases q:H b with
   |none=>rfl
   |some u =>
    have e':b=a:=hA b (by rw [q];simp)
    subst e';rw [hK (by rw [q];simp)]at e;cases e)
  have hM:Mod K mg (j6 s₁.heap H):=⟨hKb,nsK hns,⟨mb,nsK hb,hbb⟩,let ⟨mc,h1,h2⟩:=hlim;⟨mc,nsK h1,h2⟩⟩;have e0:Env0 P w K mg (j6 s₁.heap H) callerA [] s₁ H:=⟨rfl,hM,λb o e=>tW e,Nat.le_of_eq (og _ _),trivial,λb hb=>absurd (show b∈([]:List Addr) from hb) (by simp),hok,.of_eq hg⟩
  refine codeAny_mono ((F _ hKb (nsK hns)).run callerA [] s₁ H ⟨[.ref a],[]⟩ [.ref a] [.ref a] _ _ hr e0 (hbind s₁ (.ref a)) (.cons rfl .nil) (hsp H hO hS)) λr s' h=>?_
  cases r with
  |error e=>exact (hCX H e s' h).elim
  |ok fl =>
   cases fl with
   |next=>exact False.elim h
   |brk=>exact False.elim h
   |cont=>exact False.elim h
   |ret u =>
    obtain ⟨v,H',os,bare,un,hok',r',q⟩:=h;have q':v=.bl true:=q;subst q';obtain rfl:u=Value.bool true:=r';refine ⟨rfl,OldK.of_keep λb o e=>?_,os,bare⟩
    cases q:H b with
    |none=>exact un.keep b o e q (by intro z;exact absurd (show b∈([]:List Addr) from z) (by simp)) (by simp)
    |some u =>
     rcases hO b with z | ⟨ob,xs,z⟩
     ·rw [q]at z;cases z
     ·have z2:=un.frzs b ob _ z
      obtain ⟨e1,_⟩:=hok b _ z;obtain ⟨e2,_⟩:=hok' b _ z2;rw [e]at e1;cases e1;exact e2
 cases hk:K.lookup a with
 |some o =>
  have e:=KX a o hk;rw [ha]at e;cases e;refine core (λ_=>none) (λ_=>.inl rfl) (.inr ⟨_,vs.toArray,_,hk,rfl,rfl,rfl,by rw [List.size_toArray,lenV];exact hl,by simpa using rv⟩) (λb u z=>by have z':(none:Option HO)=some u:=z;cases z') (λb z=>absurd rfl z) λz=>absurd rfl z
 |none =>
  refine core (λb=>if b=a then some (.frz { cls:=.type "list",data:=.seq vs.toArray } (.lst (ns.map V.int))) else none) (λb=>?_) (.inl (.inr ⟨{ cls:=.type "list",data:=.seq vs.toArray },if_pos rfl⟩)) (λb u z=>?_) (λb z=>?_) λ_=>hk
  ·by_cases hb:b=a
   ·exact .inr ⟨_,_,if_pos hb⟩
   ·exact .inl (if_neg hb)
  ·by_cases hb:b=a
   ·have z':=(if_pos hb).symm.trans z
    cases z';subst hb;exact ⟨ha,by rw [List.length_map];exact hl,vs,_,rv,ha⟩
   ·have z':=(if_neg hb).symm.trans z
    cases z'
  ·by_cases hb:b=a
   ·exact hb
   ·exact absurd (if_neg hb) z
end L2
namespace L2
open PySem PySem.Spec PyProof.Rows
noncomputable abbrev KOf {K:PySem.W.Frag} {h:Heap} (_:K.In h):PySem.W.Frag:=K
theorem HE {l:PySem.W.OpenLaw} {n k:Nat} {q:Program} {loose:List Str} {XP:(Str->Option Value)->Heap->Prop} {YP:World->Heap->Prop} {d:DefRec} {K:Params->PySem.W.Frag} {CX:World->CXT} {sp:World->Sp} {x:Str}
  (hn:l.most=some n) (hn2:n<=sizeLine) (hdf:d.params.defaults=[]) (hr:Room k callerA)
  (hY:∀(w:World) (h:Heap),YP w h->(K w.params).In h)
  (F:∀(w:World) (mg:Str->Option Value) (fa:Addr) (h:Heap),(K w.params).In h->h.Ns mainGlobals mg->mg d.name=some (.ref fa) ->
   ∃fd:FuncData,(∀(s:Shared) (u:Value),BindsTo s fd ⟨[u],[]⟩ [(x,u)]) /\
    ∀base:Heap,(K w.params).In base->base.Ns mainGlobals mg->FnOk l.prog w (K w.params) mg base (CX w) k fa fd [x] (sp w))
  (hsp:∀(w:World) (H:Hp) (a:Addr) (ns:List Int),ns.length<=n->ui H->SqL (K w.params) H a (ns.map V.int)->sp w [.ref a] H (λv _=>v=.bl true) λ_ _ _=>False)
  (hCX:∀(w:World) (H:Hp) (s:Shared) (e:Value) (s':Shared),CX w [] H s (λ_ _ _=>False) e s'->False) :
  PySem.W.WalkO q loose XP YP l.row.toRowW d [] (λf vs=>PySem.call f vs):=by
 refine Att.lL hn hdf λw s₀ s₁ mg mb fa o pm cd doc a vs ns G Y ho hd hcd hmg hobj hints hlen hg=>?_
 have KX:=hY w _ Y;obtain ⟨fd,hb,hF⟩:=F w mg fa _ KX G.T.g hmg;exact wO KX G.T.g G.T.b G.T.builtins G.T.nolimit hg hobj hints (Nat.le_trans hlen hn2) hr hF hb (λH hO hS=>hsp w H a ns hlen hO hS) λH e s'=>hCX w H s₁ e s'
end L2
namespace L2
open PySem PySem.Spec PyProof.Rows
noncomputable def aH (s:Stmt):Arguments:=match s with
 |.FunctionDef _ a _ _ _ _ _ _ _ _=>a
 |_=>{ posonlyargs:=[],args:=[],vararg:=none,kwonlyargs:=[],kw_defaults:=[],kwarg:=none,defaults:=[] }
noncomputable def aB (s:Stmt):List Stmt:=match s with
 |.FunctionDef _ _ b _ _ _ _ _ _ _=>b
 |_=>[]
noncomputable def ag (s:Stmt):Scope:=match s with
 |.FunctionDef _ _ _ _ _ _ sc _ _ _=>sc
 |_=>{ kind:=.function,names:=[],isGenerator:=false,isCoroutine:=false }
noncomputable abbrev CX0:CXT:=λ_ _ _ _ _ _=>False
noncomputable abbrev E0:XK:=λ_ _ _=>False
structure Fun (K:PySem.W.Frag) (x qual:Str) (st:Stmt) (f:Addr) (fd:FuncData):Prop where
 ex:∃(oc:Value) (od:Option Addr) (kV doc pm:Value) (an:Option Addr) (cdv ct:Value) (osl:Array (Option Value)),
  fd=PySem.W.fnOf x qual (aH st) (aB st) (ag st) .none kV doc pm an cdv ct/\K.lookup f=some ⟨oc,od,.func fd,osl⟩/\PySem.W.codeIn K cdv qual=true
 kp:PySem.W.keepIn K (.ref f)=true
section
variable {P:Program} {w:World} {K:PySem.W.Frag} {mg:Str->Option Value} {base:Heap}
theorem Fun.ok {x qual:Str} {st:Stmt} {f:Addr} {fd:FuncData} {N ps:List Str} {k:Nat} {sp:Sp} (F:Fun K x qual st f fd) (S:FnScope N ps (ag st)) (len:∀vs H Q E,sp vs H Q E->vs.length=ps.length)
  (hbody:∀(cdv:Value) (A:Around) (outer:List Env) (s:Shared) (H:Hp) (vs:List V) (Q:VK) (E:XK),Room k (A.deeper (envOfC qual (ag st) s.heap.objs.size f cdv))->sp vs H Q E ->
   ∃t,PSs (nV CX0 P w K mg base N qual (ag st) f cdv A outer s H E).nox (aB st) t/\t { nx:=λ_ H'=>Q .non H',rt:=Q } (start N vs) H):FnOk P w K mg base CX0 (k+1) f fd ps sp:=by
 obtain ⟨oc,od,kV,doc,pm,an,cdv,ct,osl,rfl,lk,hcd⟩:=F.ex;refine Af lk hcd S len λA outer s H vs Q E hr hsp=>?_
 obtain ⟨t,h,q⟩:=hbody cdv A outer s H vs Q E hr hsp;exact ⟨t,h.nox,q⟩
theorem Fun.binds {x qual:Str} {st:Stmt} {f:Addr} {fd:FuncData} {ps:List Str} (F:Fun K x qual st f fd)
  (h:∀(kV doc pm:Value) (an:Option Addr) (cdv ct:Value) (us:List Value),us.length=ps.length->bindArgs (PySem.W.fnOf x qual (aH st) (aB st) (ag st) .none kV doc pm an cdv ct) ⟨us,[]⟩=pure (ps.zip us)):Binds K fd ps []:=by
 obtain ⟨oc,od,kV,doc,pm,an,cdv,ct,osl,rfl,lk,hcd⟩:=F.ex;exact .all (h kV doc pm an cdv ct)
theorem aX {x qual:Str} {st:Stmt} {f:Addr} {oc:Value} {od an:Option Addr} {osl:Array (Option Value)} {kV doc pm cdv ct:Value} (l:K.lookup f=some ⟨oc,od,.func (PySem.W.fnOf x qual (aH st) (aB st) (ag st) .none kV doc pm an cdv ct),osl⟩)
  (c:PySem.W.codeIn K cdv qual=true) (k:PySem.W.keepIn K (.ref f)=true):Fun K x qual st f (PySem.W.fnOf x qual (aH st) (aB st) (ag st) .none kV doc pm an cdv ct):=⟨⟨oc,od,kV,doc,pm,an,cdv,ct,osl,rfl,l,c⟩,k⟩
end
section
variable {X:Cx}
theorem pv (i:Nat) {x:Str} {pos:Pos} (hN:X.N[i]?=some x:=by rfl) (hv:Vis X.env.scope x:=by first | exact Or.inl rfl | exact Or.inr (Or.inl rfl) | exact Or.inr (Or.inr rfl)) (hd:(x == ("__debug__" : Str))=false:=by decide)
  (hcd:(x == ("__classdict__" : Str))=false:=by decide):PE X (.Name x pos) (jJ i):=gm hN hv hd hcd
end
noncomputable def aP (H H':Hp):Prop:=∀b o,H b=some o->H' b=some o
theorem aP.refl (H:Hp):aP H H:=λ_ _ h=>h
theorem aP.trans {H H1 H2:Hp} (a:aP H H1) (b:aP H1 H2):aP H H2:=λc o h=>b c o (a c o h)
theorem aP.free {H H':Hp} (e:aP H H') {l:Addr} (h:H' l=Option.none):H l=Option.none:=by
 cases q:H l with
 |none=>rfl
 |some o =>
  rw [e l o q]at h;cases h
theorem aP.seq {K:PySem.W.Frag} {H H':Hp} {a:Addr} {xs:List V} (e:aP H H') (h:SqL K H a xs):SqL K H' a xs:=by
 rcases h with (h | ⟨o,h⟩) | h
 ·exact .inl (.inl (e _ _ h))
 ·exact .inl (.inr ⟨o,e _ _ h⟩)
 ·exact .inr h
end L2
set_option maxHeartbeats 4000000
namespace L2
open PySem PySem.Spec PyProof.Rows
noncomputable def frees (env:Env):List (Str×NameKind)->List (Str×Addr)->List (Str×Addr)
 |[],cs=>cs
 | (n,k) :: r,cs=>if (k == NameKind.free)=true then frees env r ((n,(env.cells.lookup n).getD 0) :: cs) else frees env r cs
theorem kW {env:Env} {x:Str} {c:Addr}:∀(l:List (Str×NameKind)) (cs:List (Str×Addr)),(∀y∈l,y.2=.free->∃c,env.cells.lookup y.1=some c) ->
  (∀c,cs.lookup x=some c->env.cells.lookup x=some c)->(frees env l cs).lookup x=some c->env.cells.lookup x=some c
 |[],cs,_,hc,e=>hc c e
 | (n,k) :: r,cs,hl,hc,e=>by
  unfold frees at e;by_cases hk:(k == NameKind.free)=true
  ·rw [if_pos hk]at e
   obtain ⟨d,hd⟩:=hl (n,k) List.mem_cons_self (by simpa using hk)
   have hd':env.cells.lookup n=some d:=hd;refine kW r _ (λy hy=>hl y (List.mem_cons_of_mem _ hy)) (λc' e'=>?_) e
   rw [List.lookup_cons]at e';cases hx:x == n with
   |true =>
    rw [hx]at e';have hxn:x=n:=by simpa using hx
    rw [hd']at e';rw [hxn,hd'];exact e'
   |false =>
    rw [hx]at e';exact hc c' e'
  ·rw [if_neg hk]at e
   exact kW r cs (λy hy=>hl y (List.mem_cons_of_mem _ hy)) hc e
theorem jB {env:Env} {x:Str}:∀(l:List (Str×NameKind)) (cs:List (Str×Addr)),((x,NameKind.free)∈l\/∃c,cs.lookup x=some c)->∃c,(frees env l cs).lookup x=some c
 |[],cs,h=>by
  rcases h with h | h
  ·cases h
  ·exact h
 | (n,k) :: r,cs,h=>by
  unfold frees;by_cases hk:(k == NameKind.free)=true
  ·rw [if_pos hk]
   refine jB r _ ?_;rcases h with h | ⟨c,h⟩
   ·rcases List.mem_cons.mp h with e | e
    ·cases e
     exact .inr ⟨(env.cells.lookup x).getD 0,by rw [List.lookup_cons,beq_self_eq_true]⟩
    ·exact .inl e
   ·refine .inr ?_
    rw [List.lookup_cons];cases hx:x == n with
    |true=>exact ⟨_,rfl⟩
    |false=>exact ⟨c,h⟩
  ·rw [if_neg hk]
   refine jB r _ ?_;rcases h with h | h
   ·rcases List.mem_cons.mp h with e | e
    ·cases e
     exact absurd rfl hk
    ·exact .inl e
   ·exact .inr h
theorem tx {env:Env} {x:Str} {k':NameKind}:∀{names:List (Str×NameKind)},((names.map λ(n,k)=>if (k == NameKind.free && env.scope.kind == .function && env.kindOf n == some .cell) then (n,NameKind.cell) else (n,k)).lookup x=some k') ->
  ∃k,names.lookup x=some k/\(k'=k\/(k=.free/\k'=.cell))
 |[],h=>by simp at h
 | (n,k) :: r,h=>by
  rw [List.map_cons]at h
  dsimp only at h
  rw [List.lookup_cons];by_cases hc:(k == NameKind.free && env.scope.kind == .function && env.kindOf n == some .cell)=true
  ·rw [if_pos hc,List.lookup_cons]at h
   cases hx:x == n with
   |true =>
    rw [hx]at h;cases h;have hk:k=.free:=by
     rw [Bool.and_eq_true,Bool.and_eq_true]at hc
     simpa using hc.1.1
    exact ⟨k,rfl,.inr ⟨hk,rfl⟩⟩
   |false =>
    rw [hx]at h;exact tx h
  ·rw [if_neg hc,List.lookup_cons]at h
   cases hx:x == n with
   |true =>
    rw [hx]at h;cases h;exact ⟨_,rfl,.inl rfl⟩
   |false =>
    rw [hx]at h;exact tx h
theorem jX {env:Env} {x:Str}:∀{names:List (Str×NameKind)},names.lookup x=some .free ->
  (names.map λ(n,k)=>if (k == NameKind.free && env.scope.kind == .function && env.kindOf n == some .cell) then (n,NameKind.cell) else (n,k)).lookup x=some .cell \/
  (names.map λ(n,k)=>if (k == NameKind.free && env.scope.kind == .function && env.kindOf n == some .cell) then (n,NameKind.cell) else (n,k)).lookup x=some .free
 |[],h=>by simp at h
 | (n,k) :: r,h=>by
  rw [List.map_cons]
  dsimp only
  rw [List.lookup_cons]at h;by_cases hc:(k == NameKind.free && env.scope.kind == .function && env.kindOf n == some .cell)=true
  ·rw [if_pos hc,List.lookup_cons]
   cases hx:x == n with
   |true=>exact .inl rfl
   |false =>
    rw [hx]at h;exact jX h
  ·rw [if_neg hc,List.lookup_cons]
   cases hx:x == n with
   |true =>
    rw [hx]at h;cases h;exact .inr rfl
   |false =>
    rw [hx]at h;exact jX h
theorem fW {x:Str} {k:NameKind}:∀{l:List (Str×NameKind)},l.lookup x=some k->(x,k)∈l
 | (n,j) :: r,h=>by
  rw [List.lookup_cons]at h;cases hx:x == n with
  |true =>
   rw [hx]at h;cases h;have:x=n:=by simpa using hx
   rw [this];exact List.mem_cons_self
  |false =>
   rw [hx]at h;exact List.mem_cons_of_mem _ (fW h)
theorem nA {scope:Scope} {env:Env} (h:∀x∈scope.names,x.2=.free->∃c,env.cells.lookup x.1=some c):closureFor scope env=pure (frees env scope.names []):=by
 unfold closureFor;have key:∀(l:List (Str×NameKind)) (cs:List (Str×Addr)),(∀x∈l,x.2=.free->∃c,env.cells.lookup x.1=some c) ->
  (forIn l cs λ(x:Str×NameKind) (r:List (Str×Addr))=>if (x.2 == NameKind.free)=true then do let a <-cellOf env x.1;pure (ForInStep.yield ((x.1,a) :: r)) else pure (ForInStep.yield r):Sem (List (Str×Addr)))=pure (frees env l cs):=by
  intro l
  induction l with
  |nil=>intro cs _;rfl
  |cons x r ih =>
   intro cs hx;obtain ⟨n,k⟩:=x;rw [List.forIn_cons]
   dsimp only
   have hr:=λcs=>ih cs λy hy=>hx y (List.mem_cons_of_mem _ hy)
   by_cases hk:(k == NameKind.free)=true
   ·obtain ⟨c,hc⟩:=hx (n,k) List.mem_cons_self (by simpa using hk)
    have hc':env.cells.lookup n=some c:=hc;rw [if_pos hk];unfold frees;rw [if_pos hk];have e1:cellOf env n=pure c:=by unfold cellOf;rw [hc']
    rw [e1,hc',<-hr];rfl
   ·rw [if_neg hk]
    unfold frees;rw [if_neg hk,<-hr];rfl
 have:=key scope.names [] h;simp only [bind_pure];exact this
section
variable {prog:Program} {w:World} {A:Around} {R:Result->Shared->Prop} {s:Shared}
noncomputable def vF (ifs:List Expr) (env:Env):Sem Bool:=forIn ifs true λc r=>if r=true then do let ok <-isTrue c env (eval c env);pure (ForInStep.yield ok) else pure (ForInStep.yield r)
theorem oX {elt tg iter:Expr} {ifs:List Expr} {scope:Scope} {pos:Pos} {it acc:Value} {env:Env} (J:Nat->Shared->Prop)
  (turn:∀n s,J n s->wpAny (model prog w) A (pyNext it) (λr s1=>match r with
   |none=>R (.ok .next) s1
   |some v=>wpAny (model prog w) A (letOwnedTupleGo tg it v) (λ_ s2=>wpAny (model prog w) A (assign tg env v) (λ_ s3=>wpAny (model prog w) A (vF ifs env) (λok s4 =>
     if ok=true then wpAny (model prog w) A (eval elt env) (λx s5=>wpAny (model prog w) A (call (.builtin "list.append") [acc,x]) (λ_ s6=>∃m,m<n/\J m s6) (λ_ _=>False) s5) (λ_ _=>False) s4
     else ∃m,m<n/\J m s4) (λ_ _=>False) s3) (λ_ _=>False) s2) (λ_ _=>False) s1) (λ_ _=>False) s)
  (n:Nat) (h:J n s):codeAny (model prog w) A (.compLoop (.ListComp elt [⟨tg,iter,ifs,0⟩] scope pos) 0 it acc env) R s:=by
 refine codeAny_loop rfl J (λn s hJ=>?_) n h
 have no:∀(P:Value->Shared->Prop) (e:Value) (s':Shared),False->P e s':=λ_ _ _ f=>f.elim
 show wpAny _ A ((compTurn (.ListComp elt [⟨tg,iter,ifs,0⟩] scope pos) 0 it acc env).onRaise (λx=>do noteFrame x env;theTreesLotGoes x)) _ _ s
 refine wpAny_noted ?_;rw [compTurn_list];refine wpAny_bind (wpAny_standAt (wpAny_bind (wpAny_mono (turn n s hJ) (λr s1 h1=>?_) λe s' f=>f.elim)))
 cases r with
 |none=>exact wpAny_pure h1
 |some v =>
  refine wpAny_bind (wpAny_mono h1 (λ_ s2 h2=>?_) λe s' f=>f.elim)
  refine wpAny_bind (wpAny_mono h2 (λ_ s3 h3=>?_) λe s' f=>f.elim)
  refine wpAny_bind (wpAny_mono h3 (λok s4 h4=>?_) λe s' f=>f.elim)
  cases ok with
  |false=>exact wpAny_pure ⟨rfl,h4⟩
  |true =>
   refine wpAny_bind (wpAny_bind (wpAny_mono h4 (λx s5 h5=>?_) λe s' f=>f.elim))
   exact wpAny_bind (wpAny_mono h5 (λ_ s6 h6=>wpAny_pure (wpAny_pure ⟨rfl,h6⟩)) λe s' f=>f.elim)
end
noncomputable def cxB (X:Cx) (N:List Str) (scope:Scope) (s:Shared) (H:Hp) (C:Addr) (ex:List Addr) (pins:List (Addr×Obj)):Cx :=
 { X with N:=N,s₀:=s,H₀:=H,env:=compEnvC scope (frees X.env scope.names []) C X.env,outer:=X.stack,ex:=ex,fn:=λ_=>false,pn:=X.pn++pins,xe:=λ_ _=>False }
noncomputable def lh (X:Cx) (scope:Scope):List (Nat×Str)->Prop
 |[]=>True
 |p :: r=>(X.N[p.1]?=some p.2/\scope.names.lookup p.2=some .free)/\lh X scope r
theorem lh.get {X:Cx} {scope:Scope}:∀{outs:List (Nat×Str)} {j:Nat} {p:Nat×Str},lh X scope outs->outs[j]?=some p->X.N[p.1]?=some p.2/\scope.names.lookup p.2=some .free
 |[],_,_,_,e=>by simp at e
 |q :: r,0,p,h,e=>by
  simp at e
  subst e;exact h.1
 |q :: r,j+1,p,h,e=>lh.get (j:=j) h.2 (by simpa using e)
structure Blk (X:Cx) (sc scope:Scope) (outs:List (Nat×Str)):Prop where
 hsc:X.env.scope=sc
 kind:scope.kind=.function
 loc:∀x∈scope.names,x.2=.local->scope.names.lookup x.1=some .local
 nocell:∀x∈scope.names,x.2≠.cell
 fr:∀x∈scope.names,x.2=.free->sc.names.lookup x.1=some .cell\/sc.names.lookup x.1=some .free
 out:lh X scope outs
noncomputable def slots (k:Nat) (outs:List (Nat×Str)) (σ:St):St:=List.replicate k none++outs.map λp=>(σ[p.1]?).join
noncomputable def hV:St->St->Prop
 |[],[]=>True
 |none :: r,_ :: r'=>hV r r'
 |some v :: r,w :: r'=>w=some v/\hV r r'
 |_,_=>False
theorem hV.len:∀{σ σ':St},hV σ σ'->σ.length=σ'.length
 |[],[],_=>rfl
 |none :: r,_ :: r',h=>by
  have:=hV.len (σ:=r) (σ':=r') h;simp [this]
 |some v :: r,w :: r',h=>by
  have:=hV.len (σ:=r) (σ':=r') h.2;simp [this]
theorem hV.get:∀{σ σ':St} {i:Nat} {v:V},hV σ σ'->σ[i]?=some (some v)->σ'[i]?=some (some v)
 |[],_,_,_,_,e=>by simp at e
 |none :: r,w :: r',0,v,_,e=>by simp at e
 |none :: r,w :: r',i+1,v,h,e=>by
  have:=hV.get (σ:=r) (σ':=r') (i:=i) (v:=v) h (by simpa using e)
  simpa using this
 |some u :: r,w :: r',0,v,h,e=>by
  simp at e
  rw [h.1];simp [e]
 |some u :: r,w :: r',i+1,v,h,e=>by
  have:=hV.get (σ:=r) (σ':=r') (i:=i) (v:=v) h.2 (by simpa using e)
  simpa using this
noncomputable def PF (X:Cx) (ifs:List Expr) (t:TT):Prop :=
 ∀(pins:List (Addr×Obj)) (s:Shared) (σ:St) (H:Hp) (Q:Bool->Hp->Prop),Inv X pins σ H s->t σ H Q->wpAny (model X.prog X.w) X.A (vF ifs X.env) (TP X pins σ Q) X.xe s
noncomputable def yg:TT:=λ_ H Q=>Q true H
theorem vW {X:Cx}:PF X [] yg:=λ_ _ _ H _ I h=>wpAny_tests_nil ⟨H,I,h⟩
theorem DV {X:Cx} {c:Expr} {t:TT} (h:PT X c t):PF X [c] t:=λpins s σ H Q I q=>wpAny_tests_one (h pins s σ H Q I q)
noncomputable abbrev GA (tc:TT) (te:TE) (σ0:St) (D:Addr) (acc:List V) (N:List V->Hp->Prop):St->Hp->Prop:=fun σ2 H3=>hV σ0 σ2/\tc σ2 H3 λb H4 =>
 if b=true then te σ2 H4 λy H5=>H5 D=some (.lst acc)/\acc.length<sizeLine/\N (acc++[y]) (upd H5 D (.lst (acc++[y]))) else N acc H4
noncomputable def BP (J:It) (g:TG) (tc:TT) (te:TE) (σ0:St) (D:Addr) (H1:Hp) (Q:Hp->Prop):Prop :=
 ∃W:Nat->Nat->List V->Hp->Prop,(∃m,W 0 m [] (upd H1 D (.lst [])))/\∀i m acc H',W i m acc H' ->
  (J.stop i H'/\Q H')\/(J.go i H'/\∃N:List V->Hp->Prop,(∀acc' H2,N acc' H2->∃m',m'<m/\W (i+1) m' acc' H2)/\∀x H2,J.yld i H' x H2->g x σ0 H2 (GA tc te σ0 D acc N))
section
variable {X:Cx} {sc scope:Scope} {own:List Str} {outs:List (Nat×Str)} {elt tg iter:Expr} {ifs:List Expr} {pos:Pos} {g:TG} {tc:TT} {te:TE}
theorem m3 (B:Blk X sc scope outs) {pins:List (Addr×Obj)} {σ:St} {H:Hp} {s:Shared} (I:Inv X pins σ H s):∀x∈scope.names,x.2=.free->∃c,X.env.cells.lookup x.1=some c:=λx hx hf=>by
 refine I.ok.has x.1 ?_;show X.env.scope.names.lookup x.1=_\/X.env.scope.names.lookup x.1=_
 rw [B.hsc];exact B.fr x hx hf
theorem yo (B:Blk X sc scope outs) {pins:List (Addr×Obj)} {σ:St} {H:Hp} {s:Shared} {fp:List Addr} (I:Inv X pins σ H s) (f2:∀b∈fp,l5 X pins H b) (fo:∀b∈fp,∃o,s.heap.get? b=some o)
  {h1:Heap} {m:Str->Option Value} {tk:Nat} (hn:h1.Ns (s.heap.objs.size+1) m) (old:∀b o,s.heap.get? b=some o->h1.get? b=some o)
  (hD:h1.get? s.heap.objs.size=some { cls:=.type "list",data:=.seq #[] 0 }) :
  Inv (cxB X (own++outs.map (·.2)) scope s H (s.heap.objs.size+1) fp pins) [] (slots own.length outs σ) (upd H s.heap.objs.size (.lst [])) { s with heap:=h1,toks:=tk }:=by
 have bf:=m3 B I;have sub:∀x c,(frees X.env scope.names []).lookup x=some c->X.env.cells.lookup x=some c:=λx c e=>kW _ _ bf (λc' e'=>by simp at e') e
 have clt:∀x c,X.env.cells.lookup x=some c->c<s.heap.objs.size:=λx c e=>(let ⟨v,q⟩:=I.cell x c e;q.lt)
 have flt:∀b∈fp,b<s.heap.objs.size:=λb hb=>(let ⟨o,e⟩:=fo b hb;Heap.lt_size e)
 have un:Un (cxB X (own++outs.map (·.2)) scope s H (s.heap.objs.size+1) fp pins).fs (cxB X (own++outs.map (·.2)) scope s H (s.heap.objs.size+1) fp pins).ex H (upd H s.heap.objs.size (.lst [])) s.heap h1:=Un.laid old (Nat.le_refl _) I.fresh;have hok:HOk X.prog X.w (upd H s.heap.objs.size (.lst [])) h1:=I.hok.laid old (Nat.le_refl _) ⟨Nat.zero_le _,[],0,.nil,hD⟩;refine ⟨⟨I.ok.mod,B.kind,I.ok.glob,I.ok.blt,Nat.le_succ _,λx y c e1 e2=>I.ok.inj x y c (sub x c e1) (sub y c e2),λx hx=>?_,λx c hf=>?_,I.ok.hd,I.ok.frames,.inl rfl,λb hb=>⟨?_,λx c e=>?_⟩,I.bs,?_,λb o e hb=>?_,λb hb z=>?_,I.stack,I.stkFree⟩,
  rfl,I.bare,un,⟨m,hn,λi x v e1 e2 e3=>?_⟩,λx c e=>?_,?_,λx c e=>?_,λp hp=>?_,hok,?_⟩
 ·obtain ⟨k,e,hk⟩:∃k,scope.names.lookup x=some k/\k=.free:=by
   rcases hx with hx | hx
   ·obtain ⟨k,e,hk⟩:=tx (show ((scope.names.map _).lookup x=some .cell) from hx)
    rcases hk with hk | hk
    ·exact absurd hk.symm (B.nocell _ (fW e))
    ·exact ⟨k,e,hk.1⟩
   ·obtain ⟨k,e,hk⟩:=tx (show ((scope.names.map _).lookup x=some .free) from hx)
    rcases hk with hk | hk
    ·exact ⟨k,e,hk.symm⟩
    ·exact ⟨k,e,hk.1⟩
  subst hk;exact jB _ _ (.inl (fW e))
 ·cases hf
 ·exact Nat.ne_of_lt (Nat.lt_succ_of_lt (flt b hb))
 ·exact (f2 b hb).2.2.2.2.1 x c (sub x c e)
 ·exact Nat.le_trans I.ok.bsz I.sz
 ·rcases (f2 b hb).2.2.2.1 with z | z
  ·exact I.ok.noex b o e z
  ·exact absurd (Nat.lt_of_lt_of_le (Heap.lt_size e) (Nat.le_trans I.ok.bsz z)) (Nat.lt_irrefl _)
 ·rcases List.mem_cons.mp (I.stkSub b z) with q | q
  ·exact (f2 b hb).2.1 q
  ·exact (f2 b hb).2.2.1 q
 ·
  have hi:own.length<=i:=by
   by_cases hi:own.length<=i
   ·exact hi
   ·have e2':(slots own.length outs σ)[i]?=some (some v):=e2
    unfold slots at e2';rw [List.getElem?_append_left (by simpa using Nat.lt_of_not_le hi),List.getElem?_replicate]at e2'
    split at e2' <;> cases e2'
  have e1':(own++outs.map (·.2))[i]?=some x:=e1;have e2':(slots own.length outs σ)[i]?=some (some v):=e2;unfold slots at e2';rw [List.getElem?_append_right hi,List.getElem?_map]at e1';rw [List.getElem?_append_right (by simpa using hi),List.length_replicate,List.getElem?_map]at e2'
  cases ep:outs[i-own.length]? with
  |none =>
   rw [ep]at e1';cases e1'
  |some p =>
   rw [ep]at e1' e2';have ex:p.2=x:=Option.some.inj e1';have ev:(σ[p.1]?).join=some v:=Option.some.inj e2';obtain ⟨o1,o2⟩:=B.out.get ep;have es:σ[p.1]?=some (some v):=by
    cases q:σ[p.1]? with
    |none =>
     rw [q]at ev;cases ev
    |some w =>
     rw [q]at ev;have ew:w=some v:=ev;rw [ew]
   rw [ex]at o1 o2;have hk:X.env.scope.names.lookup x=some .cell\/X.env.scope.names.lookup x=some .free:=by
    rw [B.hsc];exact B.fr (x,.free) (fW o2) rfl
   obtain ⟨m0,hn0,hl0⟩:=I.loc;obtain ⟨u,r,l⟩:=hl0 p.1 x v o1 es (hk.elim (λz=>.inr (.inl z)) λz=>.inr (.inr z))
   refine ⟨u,r,.inr ?_⟩;rcases l with ⟨hl,_⟩ | ⟨_,c,ec,hc⟩
   ·have hl':X.env.scope.names.lookup x=some .local:=hl
    rcases hk with z | z <;> (rw [z]at hl';cases hl')
   ·obtain ⟨c',ec'⟩:=jB (env:=X.env) (x:=x) scope.names [] (.inl (fW o2))
    have e3:=sub x c' ec';rw [ec]at e3;cases e3;obtain ⟨oc,q1,q2⟩:=hc;exact ⟨jX o2,c,ec',⟨oc,old _ _ q1,q2⟩⟩
 ·obtain ⟨v,oc,q1,q2⟩:=I.cell x c (sub x c e)
  exact ⟨v,oc,old _ _ q1,q2⟩
 ·show upd H s.heap.objs.size (.lst []) (s.heap.objs.size+1)=none
  rw [aL (Nat.succ_ne_self _)];exact I.hok.fresh (Nat.le_succ _)
 ·rw [aL (Nat.ne_of_lt (clt x c (sub x c e)))]
  exact I.freeC x c (sub x c e)
 ·have hp':p∈X.pn++pins:=by
   have:p∈(X.pn++pins)++[]:=hp
   simpa using this
  obtain ⟨q1,q2,q3,q4,q5⟩:=I.pin p hp';refine ⟨old _ _ q1,?_,Nat.ne_of_lt (Nat.lt_succ_of_lt (Heap.lt_size q1)),λz=>?_,q5⟩
  ·rw [aL (Nat.ne_of_lt (Heap.lt_size q1))]
   exact q2
  ·rcases List.mem_cons.mp (I.stkSub p.1 z) with q | q
   ·exact q3 q
   ·exact q4 q
 ·show (slots own.length outs σ).length=(own++outs.map (·.2)).length
  unfold slots;simp
theorem tU (B:Blk X sc scope outs) (hcalm:X.calm=true)
  (hg:∀s H C ex pins,PG (cxB X (own++outs.map (·.2)) scope s H C ex pins) tg g) (hc:∀s H C ex pins,PF (cxB X (own++outs.map (·.2)) scope s H C ex pins) ifs tc) (he:∀s H C ex pins,PE (cxB X (own++outs.map (·.2)) scope s H C ex pins) elt te)
  {pins:List (Addr×Obj)} {σ:St} {H:Hp} {s:Shared} {it:Addr} {fp:List Addr} {tn:Nat->Heap->Prop} {J:It} (I:Inv X pins σ H s) (T:Turn X.prog X.w X.K tg J fp it tn) (st:tn 0 s.heap) (f2:∀b∈fp,l5 X pins H b)
  {R0:Addr->Hp->Prop} (hW:∀D,H D=none->BP J g tc te (slots own.length outs σ) D H (R0 D)) {RR:Value->Addr->Result->Shared->Prop} {E:Value->Shared->Prop}
  (fin:∀D C H' s' m,Inv X pins σ H' s'->l5 X pins H' C->s'.heap.Ns C m->R0 D H'->RR (.ref D) C (.ok .next) s') :
  wpAny (model X.prog X.w) X.A (newList []) (λacc s3=>wpAny (model X.prog X.w) X.A (newFunctionEnv scope X.env.globals (frees X.env scope.names []) [] X.env.qual none .none (some X.env)) (λcenv s4 =>
   codeAny (model X.prog X.w) X.A (.compStart (.ListComp elt [⟨tg,iter,ifs,0⟩] scope pos) 0 (.ref it) acc { cenv with scope:=relabel scope X.env }) (RR acc cenv.locals) s4) E s3) E s:=by
 refine wpAny_newObj_type (wpAny_newFunctionEnv B.nocell (by intro y hy;simp at hy) (λh1 hn1 hs1=>?_) B.kind)
 dsimp only at hn1 hs1 ⊢
 have hz:(s.heap.push { cls:=.type "list",dict:=none,data:=.seq ([]:List Value).toArray }).objs.size=s.heap.objs.size+1:=Heap.size_push ..;rw [hz]at hn1 hs1;simp only [hz];have fo:∀b∈fp,∃o,s.heap.get? b=some o:=λb hb=>(let ⟨o,e,_⟩:=T.obj 0 _ st b hb;⟨o,e⟩)
 have old:∀b o,s.heap.get? b=some o->h1.get? b=some o:=λb o e =>
  hs1.extBut b o (Nat.ne_of_lt (Nat.lt_succ_of_lt (Heap.lt_size e))) (Heap.get?_push_of_some _ (Heap.get?_push_of_some _ e))
 have hD:h1.get? s.heap.objs.size=some { cls:=.type "list",data:=.seq #[] 0 }:=hs1.extBut _ _ (Nat.ne_of_lt (Nat.lt_succ_self _)) (Heap.get?_push_of_some _ (Heap.get?_push_size _ rfl));have I1:=yo (own:=own) (tk:=s.toks+([]:List (Str×Value)).length) B I f2 fo hn1 old hD;have st1:tn 0 h1:=T.keep _ _ _ st λb _ o e=>old b o e
 obtain ⟨W,⟨m0,w0⟩,turn⟩:=hW _ I.fresh;have fpB:∀{H':Hp},(∀b∈fp,H' b=none)->∀b∈fp,l5 (cxB X (own++outs.map (·.2)) scope s H (s.heap.objs.size+1) fp pins) [] H' b:=λhn b hb=>by
  obtain ⟨o,eo⟩:=fo b hb;refine ⟨hn b hb,Nat.ne_of_lt (Nat.lt_succ_of_lt (Heap.lt_size eo)),I1.ok.exfs b hb,.inl hb,λx c e=>(I1.ok.exf b hb).2 x c e,λp hp=>?_⟩
  have hp':p∈X.pn++pins:=by
   have:p∈(X.pn++pins)++[]:=hp
   simpa using this
  exact (f2 b hb).2.2.2.2.2 p hp'
 have loop:∀s0:Shared,s0={ s with heap:=h1,toks:=s.toks+([]:List (Str×Value)).length } ->
   codeAny (model X.prog X.w) X.A (.compLoop (.ListComp elt [⟨tg,iter,ifs,0⟩] scope pos) 0 (.ref it) (.ref s.heap.objs.size) (compEnvC scope (frees X.env scope.names []) (s.heap.objs.size+1) X.env)) (RR (.ref s.heap.objs.size) (s.heap.objs.size+1)) s0:=by
  rintro s0 rfl;refine oX (λn s'=>∃i acc H',Inv (cxB X (own++outs.map (·.2)) scope s H (s.heap.objs.size+1) fp pins) [] (slots own.length outs σ) H' s'/\tn i s'.heap/\(∀b∈fp,H' b=none)/\W i n acc H') ?_ m0
   ⟨0,[],_,I1,st1,λb hb=>?_,w0⟩
  ·rintro n s3 ⟨i,acc,H3,I3,st3,fr3,w3⟩
   rcases turn i n acc H3 w3 with ⟨stop,q⟩ | ⟨go,N,hN,step⟩
   ·refine thn (T.done (cxB X (own++outs.map (·.2)) scope s H (s.heap.objs.size+1) fp pins) rfl rfl rfl hcalm i [] s3 _ H3 (λ_ _=>False) I3 (fpB fr3) st3 stop) λr s4 ⟨hr,I4⟩=>?_
    subst hr;have IX:Inv X pins σ H3 s4:=I.call' (ch:=fp) I4.os I4.base I4.hok I4.bare λb hb=>⟨(f2 b hb).2.2.2.1,(f2 b hb).2.1,(f2 b hb).2.2.2.2.1,(f2 b hb).2.2.2.2.2⟩
    obtain ⟨m4,hn4,_⟩:=I4.loc;exact fin _ _ H3 s4 m4 IX (I.fpOk (Nat.le_succ _) I4.free) hn4 q
   ·refine thn (T.item (cxB X (own++outs.map (·.2)) scope s H (s.heap.objs.size+1) fp pins) rfl rfl rfl hcalm i [] s3 _ H3 (λ_ _=>False) I3 (fpB fr3) st3 go) λr s4 ⟨u,hr,h4⟩=>?_
    subst hr;refine thn h4 λ_ s5 ⟨x,H5,I5,r5,y5,st5,fr5⟩=>?_
    have I5':=I5.pinned (fpB fr5) (T.obj _ _ st5);have back:∀{σ6:St} {H6:Hp} {s6:Shared} {acc':List V},Inv (cxB X (own++outs.map (·.2)) scope s H (s.heap.objs.size+1) fp pins) ([]++mN fp s5.heap) σ6 H6 s6->hV (slots own.length outs σ) σ6->N acc' H6 ->
      ∃m,m<n/\∃i acc H',Inv (cxB X (own++outs.map (·.2)) scope s H (s.heap.objs.size+1) fp pins) [] (slots own.length outs σ) H' s6/\tn i s6.heap/\(∀b∈fp,H' b=none)/\W i m acc H':=fun {σ6 H6 s6 acc'} I6 hs hn6=>by
     obtain ⟨m',hm,hw⟩:=hN acc' H6 hn6;refine ⟨m',hm,i+1,acc',H6,I6.unpinned.weak hs.len λj v e=>hs.get e,T.keep _ _ _ st5 λb hb o e=>(I6.pin (b,o) (List.mem_append_right _ (List.mem_append_right _ (iV hb e)))).1,λb hb=>?_,hw⟩
     obtain ⟨o,e,_⟩:=T.obj _ _ st5 b hb;exact (I6.pin (b,o) (List.mem_append_right _ (List.mem_append_right _ (iV hb e)))).2.1
    refine thn (hg s H _ fp pins _ s5 _ H5 x u _ I5' r5 (step x H5 y5)) λ_ s6 ⟨σ6,H6,I6,hs6,q6⟩=>?_
    refine thn (hc s H _ fp pins _ s6 σ6 H6 _ I6 q6) λb s7 ⟨H7,I7,q7⟩=>?_
    cases b with
    |false =>
     exact back I7 hs6 q7
    |true =>
     refine thn (he s H _ fp pins _ s7 σ6 H7 _ I7 q7) λyv s8 ⟨y,H8,I8,r8,hd8,hl8,hw⟩=>?_
     refine thn (lg _ s8 σ6 H8 (.ref s.heap.objs.size) [y] (.ref s.heap.objs.size) [yv] (λ_ H9=>H9=upd H8 s.heap.objs.size (.lst (acc++[y]))) I8 rfl (.cons r8 .nil) ⟨_,acc,y,rfl,rfl,hd8,hl8,rfl⟩) λz s9 ⟨zv,H9,I9,_,q9⟩=>?_
     subst q9;exact back I9 hs6 hw
  ·obtain ⟨o,eo⟩:=fo b hb
   rw [aL (Nat.ne_of_lt (Heap.lt_size eo))];exact (f2 b hb).1
 exact codeAny_compStart_list (loop _ rfl) (T.self X.A 0 _ _ _ st1 (loop _ rfl))
noncomputable def sH (wi:TI) (g:TG) (tc:TT) (te:TE) (k:Nat) (outs:List (Nat×Str)):TE:=fun σ H Q=>wi σ H λJ H1=>∀D,H1 D=none->BP J g tc te (slots k outs σ) D H1 λH'=>Q (.ref D) H'
theorem zw {wi:TI} (own:List Str) (B:Blk X sc scope outs) (hcalm:X.calm=true) (hi:PI X tg iter wi)
  (hg:∀s H C ex pins,PG (cxB X (own++outs.map (·.2)) scope s H C ex pins) tg g) (hc:∀s H C ex pins,PF (cxB X (own++outs.map (·.2)) scope s H C ex pins) ifs tc) (he:∀s H C ex pins,PE (cxB X (own++outs.map (·.2)) scope s H C ex pins) elt te)
  (hs:∀x,foldedSetIterable iter X.env x=pure x:=by intro _;rfl):PE X (.ListComp elt [⟨tg,iter,ifs,0⟩] scope pos) (sH wi g tc te own.length outs):=by
 intro pins s σ H Q I h;rw [eval_ListComp];refine wpAny_comprehension_free (use:=none) rfl hs (nA (m3 B I)) B.kind B.loc ?_;refine thn (hi pins s σ H _ I h) λv s1 h1=>thn h1 λitv s2 h2=>?_
 obtain ⟨it,fp,tn,J,H2,e,I2,T,st2,f2,hW⟩:=h2;subst e;refine tU (RR:=λacc C=>compPost (model X.prog X.w) X.A X.xe none (EP X pins σ Q) acc C) B hcalm hg hc he I2 T st2 f2 hW ?_
 intro D C H' s' m I' hC hn q;refine ⟨m,hn,λh' hs'=>?_⟩
 obtain ⟨c0,c1,c2,c3,c4,c5⟩:=hC;exact ⟨.ref D,H',I'.turned (t':=s'.toks) (λb o hb e=>(hs'.2 b hb).trans e) c0 c1 c3 c4 c5,rfl,q⟩
theorem t_ {wi:TI} {i:Nat} {x:Str} {pos' spos:Pos} (own:List Str) (hN:X.N.Nodup) (hix:X.N[i]?=some x) (hx:Loc X.env.scope x) (B:Blk X sc scope outs) (hcalm:X.calm=true) (hi:PI X tg iter wi)
  (hg:∀s H C ex pins,PG (cxB X (own++outs.map (·.2)) scope s H C ex pins) tg g) (hc:∀s H C ex pins,PF (cxB X (own++outs.map (·.2)) scope s H C ex pins) ifs tc) (he:∀s H C ex pins,PE (cxB X (own++outs.map (·.2)) scope s H C ex pins) elt te)
  (hsw:swapsWith (.ListComp elt [⟨tg,iter,ifs,0⟩] scope pos) (some (.Name x pos')) spos.line X.env=pure true:=by rfl)
  (hs:∀x,foldedSetIterable iter X.env x=pure x:=by intro _;rfl) (hf:X.fn x=true\/X.env.scope.names.lookup x=some .local:=by first | exact .inl rfl | exact .inr rfl | assumption) :
  PS X (.Assign [.Name x pos'] (.ListComp elt [⟨tg,iter,ifs,0⟩] scope pos) spos) (uI (sH wi g tc te own.length outs) (lD i)):=by
 intro pins s σ H D0 I h;rw [exec_Assign_Name_used _ _ _ _ hsw];refine wpAny_bind (wpAny_standAt (wpAny_bind ?_));show wpAny _ X.A (do let _ <-comprehension (.ListComp elt [⟨tg,iter,ifs,0⟩] scope pos) scope X.env _ (newList []) false (eval iter X.env) (some (assign (.Name x pos') X.env))) _ _ s
 refine wpAny_bind (thn (wpAny_comprehension_free (use:=some (assign (.Name x pos') X.env)) (Q:=λ_ s'=>SP X pins D0 .next s') rfl hs (nA (m3 B I)) B.kind B.loc ?_) λ_ s' hq=>wpAny_pure (wpAny_pure hq))
 refine thn (hi pins s σ H _ I h) λv s1 h1=>thn h1 λitv s2 h2=>?_
 obtain ⟨it,fp,tn,J,H2,e,I2,T,st2,f2,hW⟩:=h2;subst e;refine tU (RR:=λacc C=>compPost (model X.prog X.w) X.A X.xe (some (assign (.Name x pos') X.env)) (λ_ s'=>SP X pins D0 .next s') acc C) B hcalm hg hc he I2 T st2 f2 hW ?_
 intro D C H' s' m I' hC hn q;obtain ⟨c0,c1,c2,c3,c4,c5⟩:=hC;obtain ⟨oC,es,ep,hoC,hdC,hr⟩:=id hn;have IC:Inv X (pins++[(C,oC)]) σ H' s':=I'.pins_of λp hp=>(List.mem_append.mp hp).elim (λz=>I'.pin p (List.mem_append_right _ z)) λz=>by
  have ep:p=(C,oC):=by simpa using z
  subst ep;exact ⟨hoC,c0,c1,c2,λv z=>by rw [hdC]at z;cases z⟩
 show wpAny _ X.A (assign (.Name x pos') X.env (.ref D)) _ _ s'
 refine wpAny_assign_Name (mO (v:=.ref D) IC hN hix hx rfl (λs3 I3=>?_) hf)
 have hC3:s3.heap.get? C=some oC:=(I3.pin (C,oC) (List.mem_append_right _ (List.mem_append_right _ (by simp)))).1
 refine ⟨m,⟨oC,es,ep,hC3,hdC,hr⟩,λh' hs'=>?_⟩
 exact ⟨_,H',I3.unpinned.turned (t':=s3.toks) (λb o hb e=>(hs'.2 b hb).trans e) c0 c1 c3 c4 c5,q⟩
end
end L2
namespace L2
open PySem PySem.Spec PyProof.Rows
theorem kR {X:Cx} {pins:List (Addr×Obj)} {σ:St} {H:Hp} {s:Shared} {ch:List Addr} {T:Addr} {o:HO} {h':Heap} {t':Nat} (I:Inv X pins σ H s) (hch:∀b∈ch,l5 X pins H b) (k:∀b u,b∉ch->s.heap.get? b=some u->h'.get? b=some u)
  (hT:s.heap.objs.size<=T) (new:gU X.prog X.w (upd H T o) h' T o):Inv X pins σ (upd H T o) { s with heap:=h',toks:=t' }:=by
 have hn:H T=none:=I.hok.fresh hT;have nch:∀b u,H b=some u->b∉ch:=λb u e z=>by
  rw [(hch b z).1]at e;cases e
 have lt:∀b u,s.heap.get? b=some u->b≠T:=λb u e=>Nat.ne_of_lt (Nat.lt_of_lt_of_le (Heap.lt_size e) hT)
 refine I.step (g':=s.gens) (d':=s.drawn) (ch:=ch) (λb hb=>?_) (λb u _ _ hc e _=>k b u hc e) (λb u _ _ hc e _=>⟨u.slots,k b u hc e⟩) (λb u _ e n=>by rw [aL (lt b u e)];exact n)
  (λb u hc e=>⟨u,k b u hc e⟩) (λb xs e=>by rw [aL (aY e hn)];exact e) (λb u v e=>by rw [aL (aY e hn)];exact e) (λb ps e=>⟨#[],by rw [aL (aY e hn),e];simp⟩) (λm hm=>?_) (λb u e=>?_) I.bare
 ·obtain ⟨f0,f1,f2,f3,f4,f5⟩:=hch b hb
  exact ⟨f3,f1,f4,f5⟩
 ·obtain ⟨oL,es,ep,ho,r⟩:=hm
  exact ⟨oL,es,ep,k _ oL (λz=>(hch _ z).2.1 rfl) ho,r⟩
 ·by_cases hb:b=T
  ·subst hb
   rw [bB]at e;cases e;exact new
  ·rw [aL hb]at e
   refine (I.hok b u e).stay (λc v hc q=>k c v ?_ q) (λc q=>by rw [aL (aY q hn)];exact q) λc xs q=>by rw [aL (aY q hn)];exact q
   rcases hc with z | z
   ·rw [z]
    exact nch b u e
   ·exact nch c _ z
theorem l8 {X:Cx} {pins:List (Addr×Obj)} {σ:St} {H:Hp} {s:Shared} {ch:List Addr} {h':Heap} {t':Nat} (I:Inv X pins σ H s) (hch:∀b∈ch,l5 X pins H b) (k:∀b u,b∉ch->s.heap.get? b=some u->h'.get? b=some u) :
  Inv X pins σ H { s with heap:=h',toks:=t' }:=by
 have nch:∀b u,H b=some u->b∉ch:=λb u e z=>by
  rw [(hch b z).1]at e;cases e
 refine I.step (g':=s.gens) (d':=s.drawn) (ch:=ch) (λb hb=>?_) (λb u _ _ hc e _=>k b u hc e) (λb u _ _ hc e _=>⟨u.slots,k b u hc e⟩) (λ_ _ _ _ n=>n)
  (λb u hc e=>⟨u,k b u hc e⟩) (λ_ _ e=>e) (λ_ _ _ e=>e) (λb ps e=>⟨#[],by rw [e];simp⟩) (λm hm=>?_) (λb u e=>?_) I.bare
 ·obtain ⟨f0,f1,f2,f3,f4,f5⟩:=hch b hb
  exact ⟨f3,f1,f4,f5⟩
 ·obtain ⟨oL,es,ep,ho,r⟩:=hm
  exact ⟨oL,es,ep,k _ oL (λz=>(hch _ z).2.1 rfl) ho,r⟩
 ·refine (I.hok b u e).stay (λc v hc q=>k c v ?_ q) (λ_ q=>q) λ_ _ q=>q
  rcases hc with z | z
  ·rw [z]
   exact nch b u e
  ·exact nch c _ z
noncomputable def Ite (K:PySem.W.Frag) (a:Addr):It :=
 ⟨λi H=>∃xs x,SqL K H a xs/\xs[i]?=some x,λi H x H'=>∃T y,H T=none/\x=.ref T/\H'=upd H T (.tup [.int i,y])/\∀xs,SqL K H a xs->xs[i]?=some y,λi H=>∃xs,SqL K H a xs/\xs.length<=i⟩
theorem uk {P:Program} {w:World} {K:PySem.W.Frag} {es:List Expr} {k:Nat} {pos:Pos} (a e it:Addr) (hne:e≠it) :
  Turn P w K (.Tuple es k pos) (Ite K a) [e,it] e (λi h=>(∃old,IsEnum h e it i old)/\h.IsListIter it a i) where
 mem:=by simp
 obj:=λi h st b hb=>by
  obtain ⟨⟨old,he⟩,o,eo,c,d⟩:=st;have hb':b=e\/b=it:=by simpa using hb
  rcases hb' with z | z
  ·subst z
   exact ⟨_,he,λv z=>by cases z⟩
  ·subst z
   exact ⟨o,eo,λv z=>by rw [d]at z;cases z⟩
 keep:=λi h h' st kp=>⟨(let ⟨old,he⟩:=st.1;⟨old,kp e (by simp) _ he⟩),st.2.at λo eo=>kp it (by simp) o eo⟩
 item:=by
  intro X hP hw hK hc i pins s σ H E I hf st hg;subst hP hw hK;obtain ⟨xs,x,hq,hx⟩:=hg;obtain ⟨⟨old,he⟩,hit⟩:=st;obtain ⟨its,rv,p,hz⟩:=I.list hq;obtain ⟨u,hu,ru⟩:=rv.get hx;have elt:e<s.heap.objs.size:=Heap.lt_size he;refine wpAny_pyNext_enum_item he hit p.isList (x:=u) (by simpa using hu) hne λh1 ho hit1 hT hsz hk=>?_
  refine ⟨_,rfl,wpAny_letOwnedTupleGo_enum ho λh2 he2 hs2=>?_⟩
  have kk:∀b v,b∉[e,it]->s.heap.get? b=some v->h2.get? b=some v:=λb v hb q=>by
   have h1':b≠e:=λz=>hb (by simp [z])
   have h2':b≠it:=λz=>hb (by simp [z])
   exact (hs2.2 b h1').trans (hk b v h1' h2' q)
  have hT2:h2.get? s.heap.objs.size=some { cls:=.type "tuple",data:=.seq #[.int i s.toks,u] }:=(hs2.2 _ (Nat.ne_of_gt elt)).trans hT;refine ⟨.ref s.heap.objs.size,upd H s.heap.objs.size (.tup [.int i,x]),kR (s:=s) (h':=h2) (t':=s.toks+1) I hf kk (Nat.le_refl _) ?_,rfl,⟨_,x,I.fresh,rfl,rfl,λys hy=>by rw [I.list_inj hy hq];exact hx⟩,⟨⟨_,he2⟩,?_⟩,λb hb=>?_⟩
  ·exact ⟨by show 2<=sizeLine;decide,[.int i s.toks,u],.cons ⟨_,rfl⟩ (.cons ru .nil),_,hT2,rfl,_,rfl⟩
  ·exact hit1.at λo eo=>(hs2.2 it (Ne.symm hne)).trans eo
  ·obtain ⟨f0,f1,f2,f3,f4,f5⟩:=hf b hb
   have hb':b=e\/b=it:=by simpa using hb
   obtain ⟨oi,eoi,_⟩:=hit;have:b<s.heap.objs.size:=by
    rcases hb' with z | z
    ·rw [z];exact elt
    ·rw [z];exact Heap.lt_size eoi
   rw [aL (Nat.ne_of_lt this)];exact f0
 done:=by
  intro X hP hw hK hc i pins s σ H E I hf st hg;subst hP hw hK;obtain ⟨xs,hq,hx⟩:=hg;obtain ⟨⟨old,he⟩,hit⟩:=st;obtain ⟨its,rv,p,hz⟩:=I.list hq;have hl:=rv.length;refine wpAny_pyNext_enum_end (I.ok.hd hc) he hit p.isList (by simp;lia) λh1 eb=>⟨rfl,l8 (t':=s.toks) I hf λb v hb q=>eb b v (λz=>hb (by simp [z])) q⟩
 self:=λ_ _ _ _ _ st h=>(let ⟨old,he⟩:=st.1;wpAny_pyIter_enum he h)
noncomputable def zL (K:PySem.W.Frag) (ta:TA):TI:=fun σ H R=>ta σ H λvs H1=>∃a,vs=[.ref a]/\(∃xs,SqL K H1 a xs)/\R (Ite K a) H1
theorem lT:bootBuiltins "enumerate" = some (.type "enumerate"):=by decide +kernel
theorem kX:bootBuiltins "zip" = some (.type "zip"):=by decide +kernel
theorem y_ {X:Cx} {es:List Expr} {k:Nat} {a:Expr} {ta:TA} {p pos tpos:Pos} (hg:Gl X "enumerate") (hm:X.mg "enumerate" = none) (ha:PA X [a] ta) (hs:starEach [a] X.env=[(false,eval a X.env)]:=by rfl) :
  PI X (.Tuple es k tpos) (.Call (.Name "enumerate" p) [a] [] pos) (zL X.K ta):=by
 intro pins s σ H R I h;refine Call_ (ik I hg hm lT (PyProof.Rows.callWith_type1 (thn (ha pos pins s σ H _ I h) λus s1 ⟨vs,H1,I1,r1,q1⟩=>?_) hs rfl))
 obtain ⟨l,e,⟨xs,hq⟩,q⟩:=q1;subst e;obtain ⟨u,rfl,ru⟩:=Vals.one r1;cases ru;obtain ⟨its,rv,pl,hz⟩:=I1.list hq;refine call_enumerate_list pl.isList λh1 he hit hsz hk=>?_
 refine wpAny_pyIter_enum he ?_;have I2:Inv X pins σ H1 { s1 with heap:=h1 }:=I1.kept (t':=s1.toks) hk
 refine ⟨s1.heap.objs.size+1,[s1.heap.objs.size+1,s1.heap.objs.size],_,Ite X.K l,H1,rfl,I2,uk l _ _ (Nat.succ_ne_self _),⟨⟨_,he⟩,hit⟩,λb hb=>?_,q⟩
 have hb':b=s1.heap.objs.size+1\/b=s1.heap.objs.size:=by simpa using hb
 rcases hb' with z | z
 ·subst z
  exact I1.fpOk (Nat.le_succ _) (I1.hok.fresh (Nat.le_succ _))
 ·subst z
  exact I1.fpOk (Nat.le_refl _) (I1.hok.fresh (Nat.le_refl _))
noncomputable def Itz (K:PySem.W.Frag) (a b:Addr):It :=
 ⟨λi H=>∃xs x ys y,SqL K H a xs/\xs[i]?=some x/\SqL K H b ys/\ys[i]?=some y,λi H v H'=>∃T x y,H T=none/\v=.ref T/\H'=upd H T (.tup [x,y])/\(∀xs,SqL K H a xs->xs[i]?=some x)/\∀ys,SqL K H b ys->ys[i]?=some y,
  λi H=>∃xs ys,SqL K H a xs/\SqL K H b ys/\(xs.length<=i\/ys.length<=i)⟩
theorem vK {P:Program} {w:World} {K:PySem.W.Frag} {es:List Expr} {k:Nat} {pos:Pos} (a b z TI TO i1 i2:Addr) (z1:z≠TI/\z≠TO/\z≠i1/\z≠i2) (z2:TI≠TO/\TI≠i1/\TI≠i2) (z3:TO≠i1/\TO≠i2) (z4:i1≠i2)
  (z5:a≠z/\a≠TO/\a≠i1/\a≠i2) (z6:b≠z/\b≠TO/\b≠i1/\b≠i2) :
  Turn P w K (.Tuple es k pos) (Itz K a b) [z,TI,TO,i1,i2] z (λi h=>IsZip h z TI TO .none/\IsPair h TI (.ref i1) (.ref i2)/\(∃u v,IsPair h TO u v)/\h.IsListIter i1 a i/\h.IsListIter i2 b i):=by
 have D:ZipApart z TI TO i1 i2 a b:=⟨Ne.symm z1.1,Ne.symm z1.2.1,Ne.symm z1.2.2.1,Ne.symm z1.2.2.2,z2.1,z2.2.1,z2.2.2,z3.1,z3.2,z4,z5.1,z5.2.1,z5.2.2.1,z5.2.2.2,z6.1,z6.2.1,z6.2.2.1,z6.2.2.2⟩;have mem5:∀c,c∈[z,TI,TO,i1,i2]->c=z\/c=TI\/c=TO\/c=i1\/c=i2:=λc hc=>by simpa using hc
 constructor
 ·simp
 ·intro i h st c hc
  obtain ⟨hz,hTI,⟨u,v,hTO⟩,⟨o1,e1,c1,d1⟩,o2,e2,c2,d2⟩:=st;rcases mem5 c hc with rfl | rfl | rfl | rfl | rfl
  ·exact ⟨_,hz,λv z=>by cases z⟩
  ·exact ⟨_,hTI,λv z=>by cases z⟩
  ·exact ⟨_,hTO,λv z=>by cases z⟩
  ·exact ⟨o1,e1,λv z=>by rw [d1]at z;cases z⟩
  ·exact ⟨o2,e2,λv z=>by rw [d2]at z;cases z⟩
 ·intro i h h' st kp
  obtain ⟨hz,hTI,⟨u,v,hTO⟩,h1,h2⟩:=st;exact ⟨kp z (by simp) _ hz,kp TI (by simp) _ hTI,⟨u,v,kp TO (by simp) _ hTO⟩,h1.at λo e=>kp i1 (by simp) o e,h2.at λo e=>kp i2 (by simp) o e⟩
 ·intro X hP hw hK hc i pins s σ H E I hf st hg
  subst hP hw hK;obtain ⟨xs,x,ys,y,hq,hx,hr,hy⟩:=hg;obtain ⟨hz,hTI,⟨u,v,hTO⟩,h1,h2⟩:=st;obtain ⟨its,rv,p,_⟩:=I.list hq;obtain ⟨its2,rv2,p2,_⟩:=I.list hr;obtain ⟨ux,hux,rux⟩:=rv.get hx;obtain ⟨uy,huy,ruy⟩:=rv2.get hy;refine wpAny_pyNext_zip_item D hz hTI hTO h1 h2 p.isList p2.isList (x:=ux) (y:=uy) (by simpa using hux) (by simpa using huy) λh3 a1 a2 a3 a4 a5 a6 hk=>?_
  have zlt:z<s.heap.objs.size:=Heap.lt_size hz;refine ⟨_,rfl,wpAny_letOwnedTupleGo_zip a1 λh4 hz4 hs4=>?_⟩
  have kk:∀c w',c∉[z,TI,TO,i1,i2]->s.heap.get? c=some w'->h4.get? c=some w':=λc w' hc q=>by
   have n1:c≠z:=λe=>hc (by simp [e])
   have n2:c≠TO:=λe=>hc (by simp [e])
   have n3:c≠i1:=λe=>hc (by simp [e])
   have n4:c≠i2:=λe=>hc (by simp [e])
   exact (hs4.2 c n1).trans (hk c w' n1 n2 n3 n4 q)
  have hT4:IsPair h4 s.heap.objs.size ux uy:=(hs4.2 _ (Nat.ne_of_gt zlt)).trans a5;have hTI4:IsPair h4 TI (.ref i1) (.ref i2):=(hs4.2 _ (Ne.symm z1.1)).trans (hk _ _ (Ne.symm z1.1) z2.1 z2.2.1 z2.2.2 hTI);refine ⟨.ref s.heap.objs.size,upd H s.heap.objs.size (.tup [x,y]),kR (s:=s) (h':=h4) (t':=s.toks) I hf kk (Nat.le_refl _) ?_,rfl,⟨_,x,y,I.fresh,rfl,rfl,λzs hzs=>by rw [I.list_inj hzs hq];exact hx,λzs hzs=>by rw [I.list_inj hzs hr];exact hy⟩,
   ⟨hz4,hTI4,⟨ux,uy,(hs4.2 _ (Ne.symm z1.2.1)).trans a2⟩,a3.at λo e=>(hs4.2 _ (Ne.symm z1.2.2.1)).trans e,a4.at λo e=>(hs4.2 _ (Ne.symm z1.2.2.2)).trans e⟩,λc hc=>?_⟩
  ·exact ⟨by show 2<=sizeLine;decide,[ux,uy],.cons rux (.cons ruy .nil),_,hT4,rfl,_,rfl⟩
  ·have clt:c<s.heap.objs.size:=by
    obtain ⟨o1,e1,_⟩:=h1;obtain ⟨o2,e2,_⟩:=h2;rcases mem5 c hc with rfl | rfl | rfl | rfl | rfl
    ·exact zlt
    ·exact Heap.lt_size hTI
    ·exact Heap.lt_size hTO
    ·exact Heap.lt_size e1
    ·exact Heap.lt_size e2
   rw [aL (Nat.ne_of_lt clt)];exact (hf c hc).1
 ·intro X hP hw hK hc i pins s σ H E I hf st hg
  subst hP hw hK;obtain ⟨xs,ys,hq,hr,hx⟩:=hg;obtain ⟨hz,hTI,⟨u,v,hTO⟩,h1,h2⟩:=st;obtain ⟨its,rv,p,_⟩:=I.list hq;obtain ⟨its2,rv2,p2,_⟩:=I.list hr;have l1:=rv.length;have l2:=rv2.length;refine wpAny_pyNext_zip_end (I.ok.hd hc) D hz hTI hTO h1 h2 p.isList p2.isList (by simp;lia) λh3 hk=>⟨rfl,l8 (t':=s.toks) I hf λc w' hc q=>hk c w' (λe=>hc (by simp [e])) (λe=>hc (by simp [e])) (λe=>hc (by simp [e])) (λe=>hc (by simp [e])) q⟩
 ·intro A i s Q E st h
  exact wpAny_pyIter_zip st.1 h
theorem neA {a b:Nat} (h:a≠b):@Ne Addr a b:=h
noncomputable def Gz (K:PySem.W.Frag) (ta:TA):TI:=fun σ H R=>ta σ H λvs H1=>∃a b,vs=[.ref a,.ref b]/\(∃xs,SqL K H1 a xs)/\(∃ys,SqL K H1 b ys)/\R (Itz K a b) H1
theorem Cw {X:Cx} {es:List Expr} {k:Nat} {a b:Expr} {ta:TA} {p pos tpos:Pos} (hg:Gl X "zip") (hm:X.mg "zip" = none) (ha:PA X [a,b] ta) (hs:starEach [a,b] X.env=[(false,eval a X.env),(false,eval b X.env)]:=by rfl) (hs2:starEach [b] X.env=[(false,eval b X.env)]:=by rfl) :
  PI X (.Tuple es k tpos) (.Call (.Name "zip" p) [a,b] [] pos) (Gz X.K ta):=by
 intro pins s σ H R I h;refine Call_ (ik I hg hm kX (PyProof.Rows.callWith_type1 (thn (ha pos pins s σ H _ I h) λus s1 ⟨vs,H1,I1,r1,q1⟩=>?_) (by rw [hs,hs2]) (by rw [hs2];rfl)))
 obtain ⟨l,l',e,⟨xs,hq⟩,⟨ys,hr⟩,q⟩:=q1;subst e;obtain ⟨u,v,rfl,ru,rv'⟩:=Vals.two r1;cases ru;cases rv';obtain ⟨its,rv,pl,hz⟩:=I1.list hq;obtain ⟨its2,rv2,pl2,hz2⟩:=I1.list hr;have lt1:@LT.lt Nat instLTNat l s1.heap.objs.size:=(let ⟨o,e,_⟩:=pl.isList;Heap.lt_size e);have lt2:@LT.lt Nat instLTNat l' s1.heap.objs.size:=(let ⟨o,e,_⟩:=pl2.isList;Heap.lt_size e);refine call_zip_2 pl.isList pl2.isList λh1 a1 a2 a3 a4 a5 a6 hk=>?_
 refine wpAny_pyIter_zip a1 ?_;have I2:Inv X pins σ H1 { s1 with heap:=h1 }:=I1.kept (t':=s1.toks) hk
 refine ⟨s1.heap.objs.size+4,[s1.heap.objs.size+4,s1.heap.objs.size+2,s1.heap.objs.size+3,s1.heap.objs.size,s1.heap.objs.size+1],_,Itz X.K l l',H1,rfl,I2,
  vK l l' (s1.heap.objs.size+4) (s1.heap.objs.size+2) (s1.heap.objs.size+3) s1.heap.objs.size (s1.heap.objs.size+1) ⟨neA (by lia),neA (by lia),neA (by lia),neA (by lia)⟩ ⟨neA (by lia),neA (by lia),neA (by lia)⟩ ⟨neA (by lia),neA (by lia)⟩ (neA (by lia)) ⟨neA (by lia),neA (by lia),neA (by lia),neA (by lia)⟩ ⟨neA (by lia),neA (by lia),neA (by lia),neA (by lia)⟩,⟨a1,a2,⟨_,_,a3⟩,a4,a5⟩,λc hc=>?_,q⟩
 have hc':@LE.le Nat instLENat s1.heap.objs.size c:=by
  have hc2:@Eq Nat c (s1.heap.objs.size+4)\/@Eq Nat c (s1.heap.objs.size+2)\/@Eq Nat c (s1.heap.objs.size+3)\/@Eq Nat c s1.heap.objs.size\/@Eq Nat c (s1.heap.objs.size+1):=by simpa using hc
  lia
 exact I1.fpOk hc' (I1.hok.fresh hc')
mutual
inductive Rep (K:PySem.W.Frag) (H:Hp):V->PyData->Prop
 |non:Rep K H .non .none
 |bl (b:Bool):Rep K H (.bl b) (.bool b)
 |int (i:Int):Rep K H (.int i) (.int i)
 |str (x:Str):Rep K H (.str x) (.str x)
 |lst {a:Addr} {xs:List V} {ds:List PyData}:SqL K H a xs->RepAll K H xs ds->Rep K H (.ref a) (.list ds)
 |tup {a:Addr} {xs:List V} {ds:List PyData}:SqT K H a xs->RepAll K H xs ds->Rep K H (.ref a) (.tuple ds)
inductive RepAll (K:PySem.W.Frag) (H:Hp):List V->List PyData->Prop
 |nil:RepAll K H [] []
 |cons {v:V} {vs:List V} {d:PyData} {ds:List PyData}:Rep K H v d->RepAll K H vs ds->RepAll K H (v :: vs) (d :: ds)
end
theorem HA {K:PySem.W.Frag} {H H':Hp} {a:Addr} {xs:List V} (e:aP H H') (h:SqT K H a xs):SqT K H' a xs:=by
 rcases h with (h | ⟨o,h⟩) | h
 ·exact .inl (.inl (e _ _ h))
 ·exact .inl (.inr ⟨o,e _ _ h⟩)
 ·exact .inr h
mutual
theorem Rep.same {K:PySem.W.Frag} {H H':Hp} (e:aP H H') {v:V} {d:PyData}:Rep K H v d->Rep K H' v d
 |.non=>.non
 |.bl b=>.bl b
 |.int i=>.int i
 |.str x=>.str x
 |.lst h r=>.lst (e.seq h) (RepAll.same e r)
 |.tup h r=>.tup (HA e h) (RepAll.same e r)
theorem RepAll.same {K:PySem.W.Frag} {H H':Hp} (e:aP H H') {vs:List V} {ds:List PyData}:RepAll K H vs ds->RepAll K H' vs ds
 |.nil=>.nil
 |.cons h r=>.cons (Rep.same e h) (RepAll.same e r)
end
mutual
theorem Rep.reads {X:Cx} {pins:List (Addr×Obj)} {σ:St} {H:Hp} {s:Shared} (I:Inv X pins σ H s) {v:V} {d:PyData}:∀{u:Value},Rep X.K H v d->RelV v u->∃as,Reads s.heap u d as
 |_,.non,r=>by
  cases r;exact ⟨_,.none⟩
 |_,.bl b,r=>by
  cases r;exact ⟨_,.bool b⟩
 |_,.int i,r=>by
  obtain ⟨t,rfl⟩:=r;exact ⟨_,.int i t⟩
 |_,.str x,r=>by
  obtain ⟨t,rfl⟩:=r;exact ⟨_,.str x t⟩
 |_,.lst h ra,r=>by
  cases r;obtain ⟨its,rv,pl,hz⟩:=I.list h;obtain ⟨as,ha⟩:=RepAll.reads I ra rv;obtain ⟨o,e,c,n,dd⟩:=pl.isList;exact ⟨_,.list e c dd (by simpa using ha)⟩
 |_,.tup h ra,r=>by
  cases r;obtain ⟨its,rv,pl,hz⟩:=I.tuple h;obtain ⟨as,ha⟩:=RepAll.reads I ra rv;obtain ⟨o,e,c,n,dd⟩:=(show s.heap.IsTuple _ its.toArray from pl)
  exact ⟨_,.tuple e c dd (by simpa using ha)⟩
theorem RepAll.reads {X:Cx} {pins:List (Addr×Obj)} {σ:St} {H:Hp} {s:Shared} (I:Inv X pins σ H s) {vs:List V} {ds:List PyData}:∀{us:List Value},RepAll X.K H vs ds->Vals vs us->∃as,ReadsAll s.heap us ds as
 |_,.nil,.nil=>⟨_,.nil⟩
 |_,.cons h r,.cons q t=>by
  obtain ⟨as,ha⟩:=Rep.reads I h q;obtain ⟨bs,hb⟩:=RepAll.reads I r t;exact ⟨_,.cons ha hb⟩
end
noncomputable def GK (K:PySem.W.Frag):R2:=λx y H Q=>∃d e,Rep K H x d/\Rep K H y e/\SeqAt.shaped d=true/\SeqAt.shaped e=true/\Q (.bl (PyData.eqv d e)) H
noncomputable def EC (K:PySem.W.Frag):R2:=λx y H Q=>∃d e,Rep K H x d/\Rep K H y e/\SeqAt.shaped d=true/\SeqAt.shaped e=true/\Q (.bl (!PyData.eqv d e)) H
theorem DH {X:Cx} (hu:X.A.units+64<cLine):OpR X (compareOp .Eq) (GK X.K):=by
 intro pins s σ H x y v u Q I rx ry h;obtain ⟨d,e,h1,h2,s1,s2,q⟩:=h;obtain ⟨as,r1⟩:=h1.reads I rx;obtain ⟨bs,r2⟩:=h2.reads I ry;exact eq_dataH r1 r2 s1 s2 hu ⟨.bl _,H,I,rfl,q⟩
theorem Cp {X:Cx} (hu:X.A.units+64<cLine):OpR X (compareOp .NotEq) (EC X.K):=by
 intro pins s σ H x y v u Q I rx ry h;obtain ⟨d,e,h1,h2,s1,s2,q⟩:=h;obtain ⟨as,r1⟩:=h1.reads I rx;obtain ⟨bs,r2⟩:=h2.reads I ry;exact ne_dataH r1 r2 s1 s2 hu ⟨.bl _,H,I,rfl,q⟩
theorem k_:bootBuiltins "isinstance" = some (.builtin "isinstance"):=by decide +kernel
theorem uq {X:Cx} (hc:X.calm=true):fu X (.builtin "max") (λxs H Q=>∃(a:Addr) (ns:List Int),xs=[.ref a]/\SqL X.K H a (ns.map V.int)/\0<ns.length/\∀M,M∈ns->(∀z,z∈ns->z<=M)->Q (.int M) H):=by
 intro pins s σ H xs us Q I r h;obtain ⟨a,ns,rfl,hq,hl,q⟩:=h;obtain ⟨u,rfl,ru⟩:=Vals.one r;cases ru;obtain ⟨its,rv,pl,hz⟩:=I.list hq;have hi:IntsAre its ns:=intsAre_of rv;obtain ⟨ys,e⟩:=hi.allInts.items;have hns:ns=ys.toList.map (·.1):=by
  rw [<-hi.numsOf,<-nums_intItems,<-e]
 have hsz:0<ys.size:=by
  have h3:=hl;rw [hns,List.length_map,Array.length_toList]at h3;exact h3
 have hL:=pl.isList;rw [e]at hL;refine max_intList (I.ok.hd hc) hL hsz λv h' tk hv hk=>?_
 obtain ⟨t,rfl⟩:=intItems_at hv;obtain ⟨h1,h2⟩:=argBest_gt (numAt ys) (ys.size-1);refine ⟨.int _,H,I.kept hk,⟨t,rfl⟩,q _ ?_ λz hzz=>?_⟩
 ·rw [hns,numAt_eq]
  exact getD_mem (by rw [List.length_map,Array.length_toList];lia)
 ·rw [hns]at hzz
  obtain ⟨j,hj,rfl⟩:=mem_getD hzz;rw [List.length_map,Array.length_toList]at hj;rw [<-numAt_eq];exact h2 j (by lia)
theorem uo {X:Cx} (hc:X.calm=true):fu X (.builtin "min") (λxs H Q=>∃(a:Addr) (ns:List Int),xs=[.ref a]/\SqL X.K H a (ns.map V.int)/\0<ns.length/\∀M,M∈ns->(∀z,z∈ns->M<=z)->Q (.int M) H):=by
 intro pins s σ H xs us Q I r h;obtain ⟨a,ns,rfl,hq,hl,q⟩:=h;obtain ⟨u,rfl,ru⟩:=Vals.one r;cases ru;obtain ⟨its,rv,pl,hz⟩:=I.list hq;have hi:IntsAre its ns:=intsAre_of rv;obtain ⟨ys,e⟩:=hi.allInts.items;have hns:ns=ys.toList.map (·.1):=by
  rw [<-hi.numsOf,<-nums_intItems,<-e]
 have hsz:0<ys.size:=by
  have h3:=hl;rw [hns,List.length_map,Array.length_toList]at h3;exact h3
 have hL:=pl.isList;rw [e]at hL;refine min_intList (I.ok.hd hc) hL hsz λv h' tk hv hk=>?_
 obtain ⟨t,rfl⟩:=intItems_at hv;obtain ⟨h1,h2⟩:=argBest_lt (numAt ys) (ys.size-1);refine ⟨.int _,H,I.kept hk,⟨t,rfl⟩,q _ ?_ λz hzz=>?_⟩
 ·rw [hns,numAt_eq]
  exact getD_mem (by rw [List.length_map,Array.length_toList];lia)
 ·rw [hns]at hzz
  obtain ⟨j,hj,rfl⟩:=mem_getD hzz;rw [List.length_map,Array.length_toList]at hj;rw [<-numAt_eq];exact h2 j (by lia)
theorem vM {X:Cx}:MtR X "list.index" (λx vs H Q=>∃(a:Addr) (ns:List Int) (z:Int),x=.ref a/\vs=[.int z]/\SqL X.K H a (ns.map V.int)/\z∈ns/\Q (.int (ns.idxOf z:Nat)) H):=by
 intro pins s σ H x vs v us Q I rx rv h;obtain ⟨a,ns,z,rfl,rfl,hq,hm,q⟩:=h;cases rx;obtain ⟨u,rfl,t,rfl⟩:=Vals.one rv;obtain ⟨its,rs,pl,hz⟩:=I.list hq;have hi:IntsAre its ns:=intsAre_of rs;obtain ⟨⟨cls,dd,data,sl⟩,ho,hc,n,hd⟩:=pl.isList;simp only at hc hd;subst hc hd;have hlen:=hi.length;have hj:ns.idxOf z<ns.length:=List.idxOf_lt_length_iff.mpr hm;have hn:=j8;have hb:ns.length<=sizeLine:=by simpa using hz
 refine call_meets PySem.F.slot_list_index ⟨_,ho,rfl⟩ PySem.F.entry_list_index (PySem.F.args_list_index_2 _ _)
  (SeqAt.list_indexAt a its.toArray n dd sl (.int z t) (isInt z) (ns.idxOf z) (by simpa [hlen]using hj) (by lia) ?_ ?_) ⟨ho,λy hy=>(eq_isInt z t hi y (by simpa using hy)).at _ _,⟨.int _,H,I.tok _,⟨_,rfl⟩,q⟩⟩
 ·show isInt z its[ns.idxOf z]=true
  rw [isInt_at z hi _ (by lia) hj]
  simpa using List.getElem_idxOf hj
 ·intro j hjs hlt
  show isInt z its[j]=false
  rw [isInt_at z hi j (by simpa using hjs) (by lia)]
  exact ne_of_lt_idxOf hlt _
end L2
namespace L2
open PySem PySem.Spec PyProof.Rows
theorem GH {K:PySem.W.Frag} {a:Addr} {xs:List V} {g:TG} {tb:TS} {D:Ends} {σ:St} {H:Hp} (Pv:Nat->St->Hp->Prop) (h0:Pv 0 σ H) (hl:∀i σ H,i<=xs.length->Pv i σ H->SqL K H a xs)
  (hs:∀i x σ H T,xs[i]?=some x->Pv i σ H->H T=none->g (.ref T) σ (upd H T (.tup [.int i,x])) fun σ2 H2=>tb { D with nx:=Pv (i+1),ct:=Pv (i+1),bk:=D.nx } σ2 H2) (hd:∀σ H,Pv xs.length σ H->D.nx σ H) :
  ∃W:Nat->Nat->St->Hp->Prop,(∃m,W 0 m σ H)/\∀i m σ H,W i m σ H ->
   ((Ite K a).stop i H/\D.nx σ H)\/((Ite K a).go i H/\∃N:St->Hp->Prop,(∀σ' H',N σ' H'->∃m',m'<m/\W (i+1) m' σ' H')/\∀x H',(Ite K a).yld i H x H'->g x σ H' fun σ2 H2=>tb { D with nx:=N,ct:=N,bk:=D.nx } σ2 H2):=by
 refine ⟨λi m σ H=>m=xs.length-i/\i<=xs.length/\Pv i σ H,⟨xs.length,by simp,Nat.zero_le _,h0⟩,?_⟩
 rintro i m σ H ⟨rfl,hi,p⟩;have q:=hl i σ H hi p;by_cases hlt:i<xs.length
 ·refine .inr ⟨⟨xs,xs[i],q,by simp [hlt]⟩,Pv (i+1),fun σ' H' p'=>⟨xs.length-(i+1),by lia,rfl,hlt,p'⟩,λx H' y=>?_⟩
  obtain ⟨T,z,hT,rfl,rfl,e⟩:=y;exact hs i z σ H T (e xs q) p hT
 ·have e:i=xs.length:=by lia
  subst e;exact .inl ⟨⟨xs,q,Nat.le_refl _⟩,hd σ H p⟩
section
variable {g:TG} {tc:TT} {te:TE} {σ0:St} {D:Addr} {H1:Hp} {Q:Hp->Prop}
theorem vO {K:PySem.W.Frag} {a:Addr} {xs:List V} (Pv:Nat->List V->Hp->Prop) (h0:Pv 0 [] (upd H1 D (.lst []))) (hl:∀i acc H,i<=xs.length->Pv i acc H->SqL K H a xs)
  (hs:∀i x acc H,xs[i]?=some x->Pv i acc H->g x σ0 H (GA tc te σ0 D acc (Pv (i+1)))) (hd:∀acc H,Pv xs.length acc H->Q H):BP (Itl K a) g tc te σ0 D H1 Q:=by
 refine ⟨λi m acc H=>m=xs.length-i/\i<=xs.length/\Pv i acc H,⟨xs.length,by simp,Nat.zero_le _,h0⟩,?_⟩
 rintro i m acc H ⟨rfl,hi,p⟩;have q:=hl i acc H hi p;by_cases hlt:i<xs.length
 ·refine .inr ⟨⟨xs,xs[i],q,by simp [hlt]⟩,Pv (i+1),λacc' H' p'=>⟨xs.length-(i+1),by lia,rfl,hlt,p'⟩,λx H' y=>?_⟩
  obtain ⟨e,y⟩:=y;subst e;exact hs i x acc _ (y xs q) p
 ·have e:i=xs.length:=by lia
  subst e;exact .inl ⟨⟨xs,q,Nat.le_refl _⟩,hd acc H p⟩
end
noncomputable def PvM (H1:Hp) (D:Addr) (r:Nat->List V) (i:Nat) (acc:List V) (H:Hp):Prop:=acc=r i/\aP H1 H/\H D=some (.lst acc)
theorem PvM.start {H1:Hp} {D:Addr} {r:Nat->List V} (hD:H1 D=none) (h:r 0=[]):PvM H1 D r 0 [] (upd H1 D (.lst [])) :=
 ⟨h.symm,λb o e=>by rw [aL (aY e hD)];exact e,bB⟩
theorem PvM.yes {H1 H:Hp} {D:Addr} {r:Nat->List V} {i:Nat} {acc:List V} {y:V} (hD:H1 D=none) (p:PvM H1 D r i acc H) (e:r (i+1)=r i++[y]) (hl:(r i).length<sizeLine) :
  H D=some (.lst acc)/\acc.length<sizeLine/\PvM H1 D r (i+1) (acc++[y]) (upd H D (.lst (acc++[y]))) :=
 ⟨p.2.2,by rw [p.1];exact hl,by rw [p.1,e],λb u q=>by rw [aL (aY q hD)];exact p.2.1 b u q,bB⟩
structure Def (K:PySem.W.Frag) (mg:Str->Option Value) (x:Str) (st:Stmt) (ps:List Str) (f:Addr) (fd:FuncData):Prop where
 F:Fun K x x st f fd
 g:mg x=some (.ref f)
 b:Binds K fd ps []
theorem aP.upd {H H':Hp} {a:Addr} {o:HO} (e:aP H H') (h:H a=none):aP H (L2.upd H' a o):=λb u q=>by
 rw [aL (aY q h)];exact e b u q
section
variable {X:Cx}
theorem mH (K:PySem.W.Frag) (h:X.K=K):IxR X (qY K):=by
 subst h;exact ub
theorem w4 (K:PySem.W.Frag) (h:X.K=K) {tg l:Expr} {tl:TE} (hl:PE X l tl):PI X tg l (qR K tl):=by
 subst h;exact sG hl
noncomputable def zW (K:PySem.W.Frag):List V->Hp->VK->Prop:=λxs H Q=>∃(a:Addr) (ns:List Int),xs=[.ref a]/\SqL K H a (ns.map V.int)/\0<ns.length/\∀M,M∈ns->(∀z,z∈ns->z<=M)->Q (.int M) H
theorem gP (K:PySem.W.Frag) (h:X.K=K) (hc:X.calm=true):fu X (.builtin "max") (zW K):=by
 subst h;exact uq hc
noncomputable def zV (K:PySem.W.Frag):List V->Hp->VK->Prop:=λxs H Q=>∃(a:Addr) (ns:List Int),xs=[.ref a]/\SqL K H a (ns.map V.int)/\0<ns.length/\∀M,M∈ns->(∀z,z∈ns->M<=z)->Q (.int M) H
theorem jG (K:PySem.W.Frag) (h:X.K=K) (hc:X.calm=true):fu X (.builtin "min") (zV K):=by
 subst h;exact uo hc
end
end L2
namespace L2
open PySem PySem.Spec PyProof.Rows
end L2
namespace L2
open PySem PySem.Spec PyProof.Rows
section
variable {κ:Type} [DecidableEq κ]
end
section
variable {P:Program} {w:World} {H:Hp} {h:Heap} {a:Addr}
end
section
variable {X:Cx} {pins:List (Addr×Obj)} {σ:St} {H:Hp} {s:Shared} {a:Addr} {y v:V} {u r:Value} {o:Option V} {A:Around} {E:Value->Shared->Prop}
end
section
variable {X:Cx} {pins:List (Addr×Obj)} {σ:St} {H:Hp} {s:Shared} {a:Addr} {kvs:List (Key×V)} {k:Key} {u:Value} {A:Around} {E:Value->Shared->Prop}
end
section
variable {X:Cx} {o i e value:Expr} {pos pos' tpos:Pos} {td ty tv:TE}
end
section
variable {X:Cx} {pos:Pos}
end
end L2
namespace L3
open PySem L2 PySem.Spec PyProof.Rows
noncomputable abbrev St:=L2.St
noncomputable def RdK (K:PySem.W.Frag) (H:Hp) (a:Addr) (xs:List V):Prop :=
 Rd H a (.lst xs)\/∃(its:Array Value) (n:Nat),K.lookup a=some { cls:=.type "list",data:=.seq its n }/\its.size<=sizeLine/\Vals xs its.toList
theorem RdK.of {K:PySem.W.Frag} {H:Hp} {a:Addr} {xs:List V} (h:H a=some (.lst xs)):RdK K H a xs:=.inl (.inl h)
theorem RdK.sq {K:PySem.W.Frag} {H:Hp} {a:Addr} {xs:List V} (h:RdK K H a xs):SqL K H a xs:=by
 rcases h with h | ⟨its,n,hk,hz,r⟩
 ·exact .inl h
 ·exact .inr ⟨_,its,n,hk,rfl,rfl,rfl,hz,r⟩
theorem RdK.same {K:PySem.W.Frag} {H H':Hp} (e:aP H H') {a:Addr} {xs:List V} (h:RdK K H a xs):RdK K H' a xs:=by
 rcases h with (h | ⟨o,h⟩) | h
 ·exact .inl (.inl (e _ _ h))
 ·exact .inl (.inr ⟨o,e _ _ h⟩)
 ·exact .inr h
theorem RdK.obj {X:Cx} {pins:List (Addr×Obj)} {σ:St} {H:Hp} {s:Shared} {a:Addr} {xs:List V} (I:Inv X pins σ H s) (h:RdK X.K H a xs) :
  xs.length<=sizeLine/\∃(its:List Value) (n:Nat),Vals xs its/\xs.length=its.length/\s.heap.get? a=some { cls:=.type "list",data:=.seq its.toArray n }:=by
 rcases h with h | ⟨its,n,hk,hz,r⟩
 ·obtain ⟨z,its,n,r,e⟩:=h.ok I.hok
  exact ⟨z,its,n,r,r.length,e⟩
 ·have e:=r.length
  have e':=e;simp only [Array.length_toList]at e';exact ⟨by lia,its.toList,n,r,e,by simpa using I.kIn a _ hk⟩
end L3
namespace L3
open PySem L2
inductive OD where
 |sh (d:PyData)
 |ol (xs:List OD)
 |ot (xs:List OD)
 |od (kvs:List (Key×PyData))
noncomputable def kD:Key->PyData
 |.inl i=>.int i
 |.inr x=>.str x
noncomputable def dD (kvs:List (Key×PyData)):PyData:=.dict (kvs.map λp=>(kD p.1,p.2))
noncomputable def i6 (nm:Str) (ds:List (Str×PyData)):PyData:=.dict ((.none,.str nm) :: ds.map λp=>(.tuple [.str p.1],p.2))
mutual
noncomputable def OD.er:OD->PyData
 |.sh d=>d
 |.ol xs=>.list (OD.ers xs)
 |.ot xs=>.tuple (OD.ers xs)
 |.od kvs=>dD kvs
noncomputable def OD.ers:List OD->List PyData
 |[]=>[]
 |x :: xs=>x.er :: OD.ers xs
end
theorem mf:∀xs:List OD,OD.ers xs=xs.map OD.er
 |[]=>rfl
 |x :: xs=>by rw [OD.ers,List.map_cons,mf xs]
theorem eM (d:PyData):(OD.sh d).er=d:=by rw [OD.er]
theorem oj (xs:List OD):(OD.ol xs).er=.list (xs.map OD.er):=by rw [OD.er,mf]
theorem zN (xs:List OD):(OD.ot xs).er=.tuple (xs.map OD.er):=by rw [OD.er,mf]
theorem HD (kvs:List (Key×PyData)):(OD.od kvs).er=dD kvs:=by rw [OD.er]
theorem dk (ds:List PyData):(ds.map OD.sh).map OD.er=ds:=by
 rw [List.map_map];have:(OD.er ∘ OD.sh)=id:=funext λd=>eM d
 rw [this,List.map_id]
inductive R (α:Type) where
 |ok (a:α)
 |ex (c:Str)
 |bad
noncomputable def R.bind {α β:Type} (r:R α) (f:α->R β):R β:=match r with
 |.ok a=>f a
 |.ex c=>.ex c
 |.bad=>.bad
theorem gJ {α β:Type} (a:α) (f:α->R β):(R.ok a).bind f=f a:=rfl
noncomputable abbrev Env:=List (Option OD)
noncomputable abbrev Fe:=Env->R OD
noncomputable abbrev Fa:=Env->R (List OD)
noncomputable abbrev Ft:=Env->R Bool
noncomputable abbrev Fn:=List PyData->R OD
inductive Out where
 |nx (ρ:Env)
 |rt (x:OD)
 |bk (ρ:Env)
 |ct (ρ:Env)
noncomputable abbrev Fs:=Env->R Out
noncomputable abbrev Fi:=Env->R (List PyData)
noncomputable abbrev Fg:=OD->Env->R Env
noncomputable def BIG:Nat:=10000000
noncomputable def flat:PyData->Bool
 |.none=>true
 |.bool _=>true
 |.int _=>true
 |.str _=>true
 |_=>false
noncomputable def ae (i:Nat):Fe:=fun ρ=>match ρ[i]? with
 |some (some (.sh d))=>.ok (.sh d)
 |_=>.bad
noncomputable def eC (d:PyData):Fe:=λ_=>.ok (.sh d)
noncomputable def eOp (g:PyData->PyData->R OD) (a b:Fe):Fe:=fun ρ=>(a ρ).bind λx=>(b ρ).bind λy=>g x.er y.er
noncomputable def eUn (g:PyData->R OD) (a:Fe):Fe:=fun ρ=>(a ρ).bind λx=>g x.er
noncomputable def truth:PyData->R Bool
 |.bool b=>.ok b
 |_=>.bad
noncomputable def aW (a:Fe):Ft:=fun ρ=>(a ρ).bind λx=>truth x.er
noncomputable def mM (a b:Ft):Ft:=fun ρ=>(a ρ).bind λc=>if c=true then b ρ else .ok false
noncomputable def kg (a b:Ft):Ft:=fun ρ=>(a ρ).bind λc=>if c=true then .ok true else b ρ
noncomputable def gE (a:Ft):Ft:=fun ρ=>(a ρ).bind λc=>.ok (!c)
noncomputable def pV (a b:Fe):Fe:=fun ρ=>(a ρ).bind λx=>(truth x.er).bind λc=>if c=true then b ρ else .ok (.sh (.bool false))
noncomputable def eOr (a b:Fe):Fe:=fun ρ=>(a ρ).bind λx=>(truth x.er).bind λc=>if c=true then .ok (.sh (.bool true)) else b ρ
noncomputable def wV (a:Fe):Fe:=fun ρ=>(a ρ).bind λx=>(truth x.er).bind λc=>.ok (.sh (.bool (!c)))
noncomputable def eIf (t:Ft) (a b:Fe):Fe:=fun ρ=>(t ρ).bind λc=>if c=true then a ρ else b ρ
noncomputable def av:Fa:=λ_=>.ok []
noncomputable def af (a:Fe) (r:Fa):Fa:=fun ρ=>(a ρ).bind λx=>(r ρ).bind λxs=>.ok (x :: xs)
noncomputable def shs:List OD->Option (List PyData)
 |[]=>some []
 |.sh d :: r=>match shs r with
  |some ds=>some (d :: ds)
  |none=>none
 |_ :: _=>none
noncomputable def mkT (xs:List OD):OD:=match shs xs with
 |some ds=>.sh (.tuple ds)
 |none=>.ot xs
noncomputable def gk (a:Fa):Fe:=fun ρ=>(a ρ).bind λxs=>if xs.length<=BIG then .ok (mkT xs) else .bad
noncomputable def eSh (a:Fe):Fe:=fun ρ=>(a ρ).bind λx=>.ok (.sh x.er)
noncomputable def fJ (a:Fa):Fe:=fun ρ=>(a ρ).bind λxs=>if xs.length<=BIG then .ok (.ol xs) else .bad
noncomputable def aM (f:Fn) (a:Fa):Fe:=fun ρ=>(a ρ).bind λxs=>f (xs.map OD.er)
noncomputable def eB (g:List PyData->R OD) (a:Fa):Fe:=fun ρ=>(a ρ).bind λxs=>g (xs.map OD.er)
noncomputable def erase (ρ:Env):Env:=ρ.map λo=>o.map λx=>OD.sh x.er
noncomputable def p8 (a:Fe):Fe:=fun ρ=>(a (erase ρ)).bind λx=>if flat x.er=true then .ok (.sh x.er) else .bad
noncomputable def qr (a:Fe):Fe:=fun ρ=>(a (erase ρ)).bind λx=>match x with
 |.ol xs=>if xs.all (λy=>flat y.er)=true then .ok (.ol (xs.map λy=>.sh y.er)) else .bad
 |_=>.bad
noncomputable def yZ (a:Ft):Ft:=fun ρ=>a (erase ρ)
noncomputable abbrev Fo:=Env->R (Option Int)
noncomputable def ki:Fo:=λ_=>.ok none
noncomputable def jS (a:Fe):Fo:=fun ρ=>(a ρ).bind λx=>match x.er with
 |.int i=>.ok (some i)
 |_=>.bad
noncomputable def eSl (g:PyData->Option Int->Option Int->R OD) (a:Fe) (l h:Fo):Fe:=fun ρ=>(a ρ).bind λx=>(l ρ).bind λi=>(h ρ).bind λj=>g x.er i j
noncomputable def gS (a:Fe):Fi:=fun ρ=>(a ρ).bind λx=>match x.er with
 |.list ds=>.ok ds
 |_=>.bad
noncomputable def iTp (a:Fe):Fi:=fun ρ=>(a ρ).bind λx=>match x.er with
 |.tuple ds=>.ok ds
 |_=>.bad
noncomputable def jf (lo:Int) (n:Nat):List PyData:=(List.range n).map λk:Nat=>PyData.int (lo+k)
noncomputable def aI (i:Int):Bool:=decide (-(2 ^ 62)<=i) && decide (i<2 ^ 62)
noncomputable def iR1 (a:Fe):Fi:=fun ρ=>(a ρ).bind λx=>match x.er with
 |.int j=>if aI j=true then .ok (jf 0 j.toNat) else .bad
 |_=>.bad
noncomputable def iR2 (a b:Fe):Fi:=fun ρ=>(a ρ).bind λx=>(b ρ).bind λy=>match x.er,y.er with
 |.int i,.int j=>if (aI i && aI j)=true then .ok (jf i (j-i).toNat) else .bad
 |_,_=>.bad
noncomputable def fZ (ds:List PyData):List PyData:=ds.zipIdx.map λp=>PyData.tuple [.int (p.2:Nat),p.1]
noncomputable def lQ (ds es:List PyData):List PyData:=(ds.zip es).map λp=>PyData.tuple [p.1,p.2]
noncomputable def iEn (a:Fe):Fi:=fun ρ=>(a ρ).bind λx=>match x.er with
 |.list ds=>.ok (fZ ds)
 |_=>.bad
noncomputable def iZp (a b:Fe):Fi:=fun ρ=>(a ρ).bind λx=>(b ρ).bind λy=>match x.er,y.er with
 |.list ds,.list es=>.ok (lQ ds es)
 |_,_=>.bad
noncomputable def gNm (i:Nat):Fg:=λx ρ=>.ok (ρ.set i (some x))
noncomputable abbrev Fgs:=List OD->Env->R Env
noncomputable def iX:Fgs:=λxs ρ=>match xs with
 |[]=>.ok ρ
 |_=>.bad
noncomputable def cJ (g:Fg) (r:Fgs):Fgs:=λxs ρ=>match xs with
 |x :: xs=>(g x ρ).bind fun ρ'=>r xs ρ'
 |[]=>.bad
noncomputable def gTp (n:Nat) (r:Fgs):Fg:=λx ρ=>match x with
 |.ot xs=>if xs.length=n then r xs ρ else .bad
 |.sh (.tuple ds)=>if ds.length=n then r (ds.map OD.sh) ρ else .bad
 |_=>.bad
noncomputable def k6:Option (Option OD)->Option OD
 |some (some (.sh d))=>some (.sh d)
 |_=>none
noncomputable def sl3 (k:Nat) (outs:List Nat) (ρ:Env):Env:=List.replicate k none++outs.map λi=>k6 ρ[i]?
noncomputable def pK {α:Type}:R α->R α
 |.ok a=>.ok a
 |_=>.bad
noncomputable def bV (g:Fg) (t:Ft) (el:Fe) (ρ0:Env):List PyData->List OD->R (List OD)
 |[],acc=>.ok acc
 |d :: ds,acc=>(pK (g (.sh d) ρ0)).bind fun ρ=>(pK (t ρ)).bind λb=>if b=true then (pK (el ρ)).bind λy=>if acc.length<BIG then bV g t el ρ0 ds (acc++[y]) else .bad else bV g t el ρ0 ds acc
noncomputable def dr (it:Fi) (g:Fg) (t:Ft) (el:Fe) (k:Nat) (outs:List Nat):Fe:=fun ρ=>(it ρ).bind λds=>(bV g t el (sl3 k outs ρ) ds []).bind λxs=>.ok (.ol xs)
noncomputable def eN:Ft:=λ_=>.ok true
noncomputable def sNx:Fs:=fun ρ=>.ok (.nx ρ)
noncomputable def aF (a b:Fs):Fs:=fun ρ=>(a ρ).bind λo=>match o with
 |.nx ρ'=>b ρ'
 |o=>.ok o
noncomputable def yV (a:Fe) (g:Fg):Fs:=fun ρ=>(a ρ).bind λx=>(g x ρ).bind fun ρ'=>.ok (.nx ρ')
noncomputable def aR (i:Nat) (a:Fe):Fs:=fun ρ=>(a ρ).bind λx=>.ok (.nx (ρ.set i (some x)))
noncomputable def sQ (a:Fe):Fs:=fun ρ=>(a ρ).bind λ_=>.ok (.nx ρ)
noncomputable def bR (a:Fe):Fs:=fun ρ=>(a ρ).bind λx=>.ok (.rt x)
noncomputable def EY:Fs:=λ_=>.ok (.rt (.sh .none))
noncomputable def gD (i:Nat):Fs:=fun ρ=>match ρ[i]? with
 |some (some x)=>.ok (.rt x)
 |_=>.bad
noncomputable def sIf (t:Ft) (a b:Fs):Fs:=fun ρ=>(t ρ).bind λc=>if c=true then a ρ else b ρ
noncomputable def sBk:Fs:=fun ρ=>.ok (.bk ρ)
noncomputable def sCt:Fs:=fun ρ=>.ok (.ct ρ)
noncomputable def Dc:Fs:=λ_=>.bad
noncomputable def vG (i:Nat) (ρ:Env):Env:=match ρ[i]? with
 |some (some x)=>ρ.set i (some (.sh x.er))
 |_=>ρ
noncomputable def nT (i:Nat) (a:Fs):Fs:=fun ρ=>a (vG i ρ)
noncomputable def Ef (i:Nat) (g:PyData->PyData->R OD) (a:Fe):Fs:=fun ρ=>match ρ[i]? with
 |some (some (.sh d))=>(a ρ).bind λy=>(g d y.er).bind λz=>.ok (.nx (ρ.set i (some z)))
 |_=>.bad
noncomputable def ji (i:Nat) (a:Fe):Fs:=fun ρ=>match ρ[i]? with
 |some (some (.ol xs))=>(a ρ).bind λy=>if xs.length<BIG then .ok (.nx (ρ.set i (some (.ol (xs++[y]))))) else .bad
 |_=>.bad
noncomputable def G6 (i:Nat):Fs:=fun ρ=>match ρ[i]? with
 |some (some (.ol xs))=>.ok (.nx (ρ.set i (some (.ol xs.reverse))))
 |_=>.bad
noncomputable def Hq (i:Nat):Fs:=fun ρ=>match ρ[i]? with
 |some (some (.ol xs))=>.ok (.nx (ρ.set i (some (.ol []))))
 |_=>.bad
noncomputable def G0 (i:Nat) (g:Fg):Fs:=fun ρ=>match ρ[i]? with
 |some (some (.ol xs))=>match xs.getLast? with
  |some (.sh d)=>(g (.sh d) (ρ.set i (some (.ol xs.dropLast)))).bind fun ρ'=>.ok (.nx ρ')
  |_=>.bad
 |_=>.bad
noncomputable def Gq (i:Nat) (a:Fe):Fs:=fun ρ=>match ρ[i]? with
 |some (some (.ol xs))=>(a ρ).bind λy=>match y with
  |.ol ys=>if xs.length+ys.length<=BIG then .ok (.nx (ρ.set i (some (.ol (xs++ys))))) else .bad
  |_=>.bad
 |_=>.bad
noncomputable def pS (i:Nat) (k:Fe) (a:Fe):Fs:=fun ρ=>match ρ[i]? with
 |some (some (.ol xs))=>(a ρ).bind λy=>(k ρ).bind λz=>match z.er with
  |.int q=>match ixN xs.length q with
   |some j=>.ok (.nx (ρ.set i (some (.ol (xs.set j y)))))
   |none=>.bad
  |_=>.bad
 |_=>.bad
noncomputable def comps:OD->Option (Bool×List OD)
 |.ol xs=>some (true,xs)
 |.ot xs=>some (false,xs)
 |_=>none
noncomputable def wrap (l:Bool) (xs:List OD):OD:=if l=true then .ol xs else .ot xs
noncomputable def kZ (i:Nat) (k:Fe) (a:Fe):Fs:=fun ρ=>match ρ[i]? with
 |some (some (.ol xs))=>(k ρ).bind λz=>match z.er with
  |.int q=>match ixN xs.length q with
   |some j=>match xs[j]? with
    |some (.ol ys)=>(a ρ).bind λy=>if ys.length<BIG then .ok (.nx (ρ.set i (some (.ol (xs.set j (.ol (ys++[y]))))))) else .bad
    |_=>.bad
   |none=>.bad
  |_=>.bad
 |_=>.bad
noncomputable def br (g:Fg) (b:Fs):List PyData->Env->R Out
 |[],ρ=>.ok (.nx ρ)
 |d :: ds,ρ=>(g (.sh d) ρ).bind fun ρ1=>(b ρ1).bind λo=>match o with
  |.nx ρ2=>br g b ds ρ2
  |.ct ρ2=>br g b ds ρ2
  |.bk ρ2=>.ok (.nx ρ2)
  |.rt x=>.ok (.rt x)
noncomputable def eP (it:Fi) (g:Fg) (b:Fs):Fs:=fun ρ=>(it ρ).bind λds=>br g b ds ρ
open Classical in
noncomputable def lB (n:Nat) (ds:List PyData):Env:=(ds.map λd=>some (OD.sh d))++List.replicate (n-ds.length) none
noncomputable def cw (np n:Nat) (b:Fs):Fn:=λds=>if ds.length=np then (b (lB n ds)).bind λo=>match o with
 |.rt x=>.ok x
 |.nx _=>.ok (.sh .none)
 |_=>.bad else .bad
end L3
namespace L3
open PySem L2
mutual
inductive Rep (K:PySem.W.Frag) (H:Hp):V->PyData->Prop
 |non:Rep K H .non .none
 |bl (b:Bool):Rep K H (.bl b) (.bool b)
 |int (i:Int):Rep K H (.int i) (.int i)
 |str (x:Str):Rep K H (.str x) (.str x)
 |lst {a:Addr} {xs:List V} {ds:List PyData}:RdK K H a xs->RepAll K H xs ds->Rep K H (.ref a) (.list ds)
 |tup {a:Addr} {xs:List V} {ds:List PyData}:H a=some (.tup xs)->RepAll K H xs ds->Rep K H (.ref a) (.tuple ds)
 |dct {a:Addr} {kvs:List (Key×V)} {ds:List (Key×PyData)}:H a=some (.dK kvs)->kvs.map (·.1)=ds.map (·.1)->RepAll K H (kvs.map (·.2)) (ds.map (·.2))->Rep K H (.ref a) (dD ds)
 |ins {a C dx:Addr} {fs:List (Str×V)} {nm:Str} {ds:List (Str×PyData)}:PySem.W.nsIn K mainGlobals nm=some (some (.ref C))/\H a=some (.ins C dx fs)->fs.map (·.1)=ds.map (·.1)->RepAll K H (fs.map (·.2)) (ds.map (·.2))->Rep K H (.ref a) (i6 nm ds)
inductive RepAll (K:PySem.W.Frag) (H:Hp):List V->List PyData->Prop
 |nil:RepAll K H [] []
 |cons {v:V} {vs:List V} {d:PyData} {ds:List PyData}:Rep K H v d->RepAll K H vs ds->RepAll K H (v :: vs) (d :: ds)
end
mutual
theorem Rep.same {K:PySem.W.Frag} {H H':Hp} (e:aP H H') {v:V} {d:PyData}:Rep K H v d->Rep K H' v d
 |.non=>.non
 |.bl b=>.bl b
 |.int i=>.int i
 |.str x=>.str x
 |.lst h r=>.lst (h.same e) (RepAll.same e r)
 |.tup h r=>.tup (e _ _ h) (RepAll.same e r)
 |.dct h k r=>.dct (e _ _ h) k (RepAll.same e r)
 |.ins h k r=>.ins ⟨h.1,e _ _ h.2⟩ k (RepAll.same e r)
theorem RepAll.same {K:PySem.W.Frag} {H H':Hp} (e:aP H H') {vs:List V} {ds:List PyData}:RepAll K H vs ds->RepAll K H' vs ds
 |.nil=>.nil
 |.cons h r=>.cons (Rep.same e h) (RepAll.same e r)
end
mutual
inductive Own (K:PySem.W.Frag) (F H:Hp):V->OD->List Addr->Prop
 |sh {v:V} {d:PyData}:Rep K F v d->Own K F H v (.sh d) []
 |ol {a:Addr} {vs:List V} {xs:List OD} {f:List Addr}:H a=some (.lst vs)->OwnL K F H vs xs f->Own K F H (.ref a) (.ol xs) (a :: f)
 |ot {a:Addr} {vs:List V} {xs:List OD} {f:List Addr}:H a=some (.tup vs)->OwnL K F H vs xs f->Own K F H (.ref a) (.ot xs) (a :: f)
 |od {a:Addr} {kvs:List (Key×V)} {ds:List (Key×PyData)}:H a=some (.dK kvs)->kvs.map (·.1)=ds.map (·.1)->RepAll K F (kvs.map (·.2)) (ds.map (·.2))->Own K F H (.ref a) (.od ds) [a]
inductive OwnL (K:PySem.W.Frag) (F H:Hp):List V->List OD->List Addr->Prop
 |nil:OwnL K F H [] [] []
 |cons {v:V} {x:OD} {f:List Addr} {vs:List V} {xs:List OD} {g:List Addr}:Own K F H v x f->OwnL K F H vs xs g->OwnL K F H (v :: vs) (x :: xs) (f++g)
end
section
variable {K:PySem.W.Frag} {F H F' H':Hp}
mutual
theorem Own.mono (e:aP F F') {v:V} {x:OD} {f:List Addr}:(∀a∈f,∀o,H a=some o->H' a=some o)->Own K F H v x f->Own K F' H' v x f
 |_,.sh r=>.sh (r.same e)
 |k,.ol h r=>.ol (k _ List.mem_cons_self _ h) (OwnL.mono e (λa m=>k a (List.mem_cons_of_mem _ m)) r)
 |k,.ot h r=>.ot (k _ List.mem_cons_self _ h) (OwnL.mono e (λa m=>k a (List.mem_cons_of_mem _ m)) r)
 |k,.od h q r=>.od (k _ List.mem_cons_self _ h) q (RepAll.same e r)
theorem OwnL.mono (e:aP F F') {v:List V} {x:List OD} {f:List Addr}:(∀a∈f,∀o,H a=some o->H' a=some o)->OwnL K F H v x f->OwnL K F' H' v x f
 |_,.nil=>.nil
 |k,.cons h r=>.cons (Own.mono e (λa m=>k a (List.mem_append_left _ m)) h) (OwnL.mono e (λa m=>k a (List.mem_append_right _ m)) r)
end
mutual
theorem Own.dom {v:V} {x:OD} {f:List Addr}:Own K F H v x f->∀a∈f,∃o,H a=some o
 |.sh _,a,m=>by cases m
 |.ol h r,a,m=>by
  rcases List.mem_cons.mp m with rfl | m
  ·exact ⟨_,h⟩
  ·exact OwnL.dom r a m
 |.ot h r,a,m=>by
  rcases List.mem_cons.mp m with rfl | m
  ·exact ⟨_,h⟩
  ·exact OwnL.dom r a m
 |.od h q r,a,m=>by
  rcases List.mem_cons.mp m with rfl | m
  ·exact ⟨_,h⟩
  ·cases m
theorem OwnL.dom {v:List V} {x:List OD} {f:List Addr}:OwnL K F H v x f->∀a∈f,∃o,H a=some o
 |.nil,a,m=>by cases m
 |.cons h r,a,m=>by
  rcases List.mem_append.mp m with m | m
  ·exact Own.dom h a m
  ·exact OwnL.dom r a m
end
mutual
theorem Own.frz (e:aP F F') {v:V} {x:OD} {f:List Addr}:(∀a∈f,∀o,H a=some o->F' a=some o)->Own K F H v x f->Rep K F' v x.er
 |_,.sh r=>by rw [eM];exact r.same e
 |k,.ol h r=>by rw [OD.er];exact .lst (RdK.of (k _ List.mem_cons_self _ h)) (OwnL.frz e (λa m=>k a (List.mem_cons_of_mem _ m)) r)
 |k,.ot h r=>by rw [OD.er];exact .tup (k _ List.mem_cons_self _ h) (OwnL.frz e (λa m=>k a (List.mem_cons_of_mem _ m)) r)
 |k,.od h q r=>by rw [OD.er];exact .dct (k _ List.mem_cons_self _ h) q (r.same e)
theorem OwnL.frz (e:aP F F') {v:List V} {x:List OD} {f:List Addr}:(∀a∈f,∀o,H a=some o->F' a=some o)->OwnL K F H v x f->RepAll K F' v (OD.ers x)
 |_,.nil=>by rw [OD.ers];exact .nil
 |k,.cons h r=>by rw [OD.ers];exact .cons (Own.frz e (λa m=>k a (List.mem_append_left _ m)) h) (OwnL.frz e (λa m=>k a (List.mem_append_right _ m)) r)
end
theorem OwnL.len {v:List V} {x:List OD} {f:List Addr} (o:OwnL K F H v x f):v.length=x.length:=by
 induction x generalizing v f with
 |nil=>cases o;rfl
 |cons a r ih =>
  cases o with
  |cons h t=>exact congrArg (·+1) (ih t)
theorem OwnL.app {v w:List V} {x y:List OD} {f g:List Addr} (o:OwnL K F H v x f) (q:OwnL K F H w y g):OwnL K F H (v++w) (x++y) (f++g):=by
 induction x generalizing v f with
 |nil=>cases o;exact q
 |cons a r ih =>
  cases o with
  |cons h t =>
   rw [List.cons_append,List.cons_append,List.append_assoc];exact .cons h (ih t)
theorem OwnL.shs:∀{v:List V} {ds:List PyData},RepAll K F v ds->OwnL K F H v (ds.map OD.sh) []
 |_,_,.nil=>.nil
 |_,_,.cons h r=>.cons (f:=[]) (.sh h) (OwnL.shs r)
theorem RepAll.len:∀{v:List V} {ds:List PyData},RepAll K F v ds->v.length=ds.length
 |_,_,.nil=>rfl
 |_,_,.cons _ r=>by rw [List.length_cons,List.length_cons,RepAll.len r]
theorem RepAll.get:∀{v:List V} {ds:List PyData} {i:Nat} {d:PyData},RepAll K F v ds->ds[i]?=some d->∃x,v[i]?=some x/\Rep K F x d
 |_,_,_,_,.nil,e=>by simp at e
 |_,_,0,_,.cons h _,e=>by
  simp at e
  subst e;exact ⟨_,rfl,h⟩
 |_,_,i+1,_,.cons _ r,e=>by
  obtain ⟨x,h1,h2⟩:=RepAll.get (i:=i) r (by simpa using e)
  exact ⟨x,by simpa using h1,h2⟩
theorem RepAll.app:∀{v w:List V} {ds es:List PyData},RepAll K F v ds->RepAll K F w es->RepAll K F (v++w) (ds++es)
 |_,_,_,_,.nil,q=>q
 |_,_,_,_,.cons h r,q=>.cons h (RepAll.app r q)
theorem RepAll.take:∀{v:List V} {ds:List PyData} (n:Nat),RepAll K F v ds->RepAll K F (v.take n) (ds.take n)
 |_,_,0,_=>by rw [List.take_zero,List.take_zero];exact .nil
 |_,_,_+1,.nil=>.nil
 |_,_,n+1,.cons h r=>.cons h (RepAll.take n r)
theorem RepAll.drop:∀{v:List V} {ds:List PyData} (n:Nat),RepAll K F v ds->RepAll K F (v.drop n) (ds.drop n)
 |_,_,0,r=>r
 |_,_,_+1,.nil=>.nil
 |_,_,n+1,.cons h r=>RepAll.drop n r
theorem RepAll.toInts:∀{v:List V} {ns:List Int},RepAll K F v (ns.map PyData.int)->v=ns.map V.int
 |_,[],.nil=>rfl
 |_,n :: ns,.cons h r=>by
  cases h;rw [RepAll.toInts r];rfl
theorem RepAll.ofInts:∀(ns:List Int),RepAll K F (ns.map V.int) (ns.map PyData.int)
 |[]=>.nil
 |n :: ns=>.cons (.int n) (RepAll.ofInts ns)
end
structure Ext (F H F' H':Hp):Prop where
 ff:aP F F'
 hh:aP H H'
 fh:aP F' H'
 nw:∀a,H a≠none->F a=none->F' a=none
theorem cQ {α:Type} {o:Option α} {x:α} (h:o=some x):o≠none:=by
 rw [h];exact Option.some_ne_none x
theorem _root_.L2.aP.dom {H H':Hp} (e:aP H H') {a:Addr} (h:H a≠none):H' a≠none:=by
 cases q:H a with
 |none=>exact absurd q h
 |some o=>exact cQ (e a o q)
section
variable {F H F1 H1 F2 H2:Hp}
theorem Ext.refl (h:aP F H):Ext F H F H:=⟨aP.refl _,aP.refl _,h,λ_ _ z=>z⟩
theorem Ext.trans (a:Ext F H F1 H1) (b:Ext F1 H1 F2 H2):Ext F H F2 H2:=⟨a.ff.trans b.ff,a.hh.trans b.hh,b.fh,λx h n=>b.nw x (a.hh.dom h) (a.nw x h n)⟩
theorem Ext.alloc {p:Addr} {o:HO} (h:aP F H) (hp:H p=none):Ext F H F (upd H p o) :=
 ⟨aP.refl _,(aP.refl H).upd hp,(aP.upd h (h.free hp)),λ_ _ z=>z⟩
theorem Ext.allocF {p:Addr} {o:HO} (h:aP F H) (hp:H p=none):Ext F H (upd F p o) (upd H p o):=by
 refine ⟨(aP.refl F).upd (h.free hp),(aP.refl H).upd hp,λb u q=>?_,λa ha n=>?_⟩
 ·by_cases e:b=p
  ·subst e
   rw [bB]at q ⊢;exact q
  ·rw [aL e]at q ⊢
   exact h b u q
 ·have e:a≠p:=by
   rintro rfl;exact ha hp
  rw [aL e];exact n
end
structure Res (K:PySem.W.Frag) (F H:Hp) (v:V) (x:OD) (f:List Addr):Prop where
 own:Own K F H v x f
 nd:f.Nodup
 fr:∀a∈f,F a=none
structure ResL (K:PySem.W.Frag) (F H:Hp) (v:List V) (x:List OD) (f:List Addr):Prop where
 own:OwnL K F H v x f
 nd:f.Nodup
 fr:∀a∈f,F a=none
open Classical in
noncomputable def j0 (F H:Hp) (f:List Addr):Hp:=λa=>if a∈f then H a else F a
theorem kh {F H:Hp} {f:List Addr} {a:Addr} (h:a∈f):j0 F H f a=H a:=by unfold j0;rw [if_pos h]
theorem g6 {F H:Hp} {f:List Addr} {a:Addr} (h:a∉f):j0 F H f a=F a:=by unfold j0;rw [if_neg h]
section
variable {K:PySem.W.Frag} {F H F' H' F1 H1:Hp} {v:V} {x:OD} {f:List Addr} {vs:List V} {xs:List OD}
theorem gN (n:∀a∈f,F a=none):aP F (j0 F H f):=λa o q=>by
 rw [g6]
 ·exact q
 ·intro m
  rw [n a m]at q;cases q
theorem ph (h:aP F H):aP (j0 F H f) H:=λa o q=>by
 by_cases m:a∈f
 ·rw [kh m]at q
  exact q
 ·rw [g6 m]at q
  exact h a o q
theorem Res.ext (r:Res K F H v x f) (e:Ext F H F' H'):Res K F' H' v x f :=
 ⟨r.own.mono e.ff λa _ o q=>e.hh a o q,r.nd,λa m=>e.nw a (let ⟨_,q⟩:=r.own.dom a m;cQ q) (r.fr a m)⟩
theorem ResL.ext (r:ResL K F H vs xs f) (e:Ext F H F' H'):ResL K F' H' vs xs f :=
 ⟨r.own.mono e.ff λa _ o q=>e.hh a o q,r.nd,λa m=>e.nw a (let ⟨_,q⟩:=r.own.dom a m;cQ q) (r.fr a m)⟩
theorem sX (e:Ext F H F1 H1) (n:∀a∈f,F1 a=none) (w:∀a∈f,H a=none):Ext F H (j0 F1 H1 f) H1 :=
 ⟨e.ff.trans (gN n),e.hh,ph e.fh,λa h z=>by
  have m:a∉f:=λm=>h (w a m)
  rw [g6 m];exact e.nw a h z⟩
theorem Res.frz (e:Ext F H F1 H1) (r:Res K F1 H1 v x f) (w:∀a∈f,H a=none):∃G,Ext F H G H1/\Rep K G v x.er :=
 ⟨j0 F1 H1 f,sX e r.fr w,r.own.frz (gN r.fr) λa m o q=>by rw [kh m];exact q⟩
theorem ResL.frz (e:Ext F H F1 H1) (r:ResL K F1 H1 vs xs f) (w:∀a∈f,H a=none):∃G,Ext F H G H1/\RepAll K G vs (xs.map OD.er) :=
 ⟨j0 F1 H1 f,sX e r.fr w,by rw [<-mf];exact r.own.frz (gN r.fr) λa m o q=>by rw [kh m];exact q⟩
theorem Res.sh {d:PyData} (r:Rep K F v d):Res K F H v (.sh d) []:=⟨.sh r,List.nodup_nil,λ_ m=>by cases m⟩
theorem ResL.nil:ResL K F H [] [] []:=⟨.nil,List.nodup_nil,λ_ m=>by cases m⟩
theorem ResL.cons {f1:List Addr} (r:Res K F H v x f1) (q:ResL K F H vs xs f) (d:∀a∈f1,a∉f):ResL K F H (v :: vs) (x :: xs) (f1++f) :=
 ⟨.cons r.own q.own,List.nodup_append.mpr ⟨r.nd,q.nd,λa m b n e=>d a m (e▸n)⟩,λa m=>(List.mem_append.mp m).elim (r.fr a) (q.fr a)⟩
end
inductive OwnS (K:PySem.W.Frag) (F H:Hp):St->Env->List Addr->Prop
 |nil:OwnS K F H [] [] []
 |no {v:Option V} {σ:St} {ρ:Env} {g:List Addr}:OwnS K F H σ ρ g->OwnS K F H (v :: σ) (none :: ρ) g
 |yes {v:V} {x:OD} {f:List Addr} {σ:St} {ρ:Env} {g:List Addr}:Own K F H v x f->OwnS K F H σ ρ g->OwnS K F H (some v :: σ) (some x :: ρ) (f++g)
section
variable {K:PySem.W.Frag} {F H F' H':Hp}
theorem OwnS.mono (e:aP F F') {σ:St} {ρ:Env} {g:List Addr} (k:∀a∈g,∀o,H a=some o->H' a=some o) (S:OwnS K F H σ ρ g):OwnS K F' H' σ ρ g:=by
 induction S with
 |nil=>exact .nil
 |no r ih=>exact .no (ih k)
 |yes h r ih=>exact .yes (h.mono e λa m=>k a (List.mem_append_left _ m)) (ih λa m=>k a (List.mem_append_right _ m))
theorem OwnS.dom {σ:St} {ρ:Env} {g:List Addr} (S:OwnS K F H σ ρ g):∀a∈g,∃o,H a=some o:=by
 induction S with
 |nil=>exact λa m=>by cases m
 |no r ih=>exact ih
 |yes h r ih=>exact λa m=>(List.mem_append.mp m).elim (h.dom a) (ih a)
theorem OwnS.at {σ:St} {ρ:Env} {g:List Addr} (S:OwnS K F H σ ρ g):∀{i:Nat} {x:OD},ρ[i]?=some (some x) ->
  ∃v f g1 g2,σ[i]?=some (some v)/\Own K F H v x f/\g=g1++(f++g2)/\∀(F' H':Hp),aP F F'->(∀a∈g1++g2,∀o,H a=some o->H' a=some o)->∀v' x' f',Own K F' H' v' x' f'->OwnS K F' H' (σ.set i (some v')) (ρ.set i (some x')) (g1++(f'++g2)):=by
 induction S with
 |nil=>intro i x e;simp at e
 |no r ih =>
  intro i x e;cases i with
  |zero=>simp at e
  |succ i =>
   obtain ⟨v,f,g1,g2,h1,h2,h3,h4⟩:=ih (i:=i) (by simpa using e)
   exact ⟨v,f,g1,g2,by simpa using h1,h2,h3,λF' H' s k v' x' f' o=>.no (h4 F' H' s k v' x' f' o)⟩
 |@yes v0 x0 f0 σ0 ρ0 g0 h r ih =>
  intro i x e;cases i with
  |zero =>
   simp at e
   subst e;exact ⟨_,f0,[],g0,rfl,h,rfl,λF' H' s k v' x' f' o=>OwnS.yes (f:=f') (g:=g0) o (r.mono s k)⟩
  |succ i =>
   obtain ⟨v,f,g1,g2,h1,h2,h3,h4⟩:=ih (i:=i) (by simpa using e)
   refine ⟨v,f,f0++g1,g2,by simpa using h1,h2,by rw [h3,List.append_assoc],λF' H' s k v' x' f' o=>?_⟩
   rw [List.append_assoc];exact .yes (h.mono s λa m=>k a (List.mem_append_left _ (List.mem_append_left _ m))) (h4 F' H' s (λa m=>k a (by simp at m ⊢;rcases m with m | m <;> simp [m])) v' x' f' o)
theorem OwnS.put {σ:St} {ρ:Env} {g:List Addr} (S:OwnS K F H σ ρ g):∀{i:Nat},i<ρ.length ->
  ∃f g1 g2,g=g1++(f++g2)/\∀(F' H':Hp),aP F F'->(∀a∈g1++g2,∀o,H a=some o->H' a=some o)->∀v' x' f',Own K F' H' v' x' f'->OwnS K F' H' (σ.set i (some v')) (ρ.set i (some x')) (g1++(f'++g2)):=by
 induction S with
 |nil=>intro i e;simp at e
 |@no v0 σ0 ρ0 g0 r ih =>
  intro i e;cases i with
  |zero=>exact ⟨[],[],g0,rfl,λF' H' s k v' x' f' o=>OwnS.yes (f:=f') (g:=g0) o (r.mono s k)⟩
  |succ i =>
   obtain ⟨f,g1,g2,h3,h4⟩:=ih (i:=i) (by simpa using e)
   exact ⟨f,g1,g2,h3,λF' H' s k v' x' f' o=>.no (h4 F' H' s k v' x' f' o)⟩
 |@yes v0 x0 f0 σ0 ρ0 g0 h r ih =>
  intro i e;cases i with
  |zero=>exact ⟨f0,[],g0,rfl,λF' H' s k v' x' f' o=>OwnS.yes (f:=f') (g:=g0) o (r.mono s k)⟩
  |succ i =>
   obtain ⟨f,g1,g2,h3,h4⟩:=ih (i:=i) (by simpa using e)
   refine ⟨f,f0++g1,g2,by rw [h3,List.append_assoc],λF' H' s k v' x' f' o=>?_⟩
   rw [List.append_assoc];exact .yes (h.mono s λa m=>k a (List.mem_append_left _ (List.mem_append_left _ m))) (h4 F' H' s (λa m=>k a (by simp at m ⊢;rcases m with m | m <;> simp [m])) v' x' f' o)
theorem OwnS.erase (e:aP F H) {σ:St} {ρ:Env} {g:List Addr} (S:OwnS K F H σ ρ g):OwnS K H H σ (L3.erase ρ) []:=by
 induction S with
 |nil=>exact .nil
 |no r ih=>exact .no ih
 |yes h r ih=>exact .yes (f:=[]) (.sh (h.frz e λ_ _ _ q=>q)) ih
theorem OwnS.len {σ:St} {ρ:Env} {g:List Addr} (S:OwnS K F H σ ρ g):σ.length=ρ.length:=by
 induction S with
 |nil=>rfl
 |no r ih=>exact congrArg (·+1) ih
 |yes h r ih=>exact congrArg (·+1) ih
end
structure Stt (K:PySem.W.Frag) (n:Nat) (F H:Hp) (σ:St) (ρ:Env) (fp:List Addr):Prop where
 same:aP F H
 own:OwnS K F H σ ρ fp
 nd:fp.Nodup
 fr:∀a∈fp,F a=none
 len:ρ.length=n
structure Stp (F H:Hp) (fp:List Addr) (F' H':Hp) (fp':List Addr):Prop where
 ff:aP F F'
 keep:∀a o,H a=some o->a∉fp->H' a=some o
 new:∀a∈fp',a∈fp\/H a=none
 nw:∀a,H a≠none->a∉fp->F a=none->F' a=none
section
variable {K:PySem.W.Frag} {n:Nat} {F H F' H' F1 H1 F2 H2:Hp} {σ:St} {ρ:Env} {fp fp1 fp2:List Addr}
theorem Stt.ext (s:Stt K n F H σ ρ fp) (e:Ext F H F' H'):Stt K n F' H' σ ρ fp :=
 ⟨e.fh,s.own.mono e.ff λa _ o q=>e.hh a o q,s.nd,λa m=>e.nw a (let ⟨_,q⟩:=s.own.dom a m;cQ q) (s.fr a m),s.len⟩
theorem Stt.erase (s:Stt K n F H σ ρ fp):Stt K n H H σ (L3.erase ρ) [] :=
 ⟨aP.refl _,s.own.erase s.same,List.nodup_nil,(λ_ m=>by cases m),(by unfold L3.erase;rw [List.length_map];exact s.len)⟩
theorem Stp.refl:Stp F H fp F H fp:=⟨aP.refl _,λ_ _ h _=>h,λ_ m=>.inl m,λ_ _ _ z=>z⟩
theorem Ext.stp (e:Ext F H F' H'):Stp F H fp F' H' fp:=⟨e.ff,λa o h _=>e.hh a o h,λ_ m=>.inl m,λa h _ z=>e.nw a h z⟩
theorem Stp.out (s:Stp F H fp F1 H1 fp1) {a:Addr} (h:H a≠none) (m:a∉fp):a∉fp1:=λq=>(s.new a q).elim m h
theorem Stp.trans (s:Stp F H fp F1 H1 fp1) (t:Stp F1 H1 fp1 F2 H2 fp2):Stp F H fp F2 H2 fp2 where
 ff:=s.ff.trans t.ff
 keep a o h m:=t.keep a o (s.keep a o h m) (s.out (cQ h) m)
 new a m:=(t.new a m).elim (s.new a) λz=>by
  by_cases q:a∈fp
  ·exact .inl q
  ·refine .inr ?_
   cases w:H a with
   |none=>rfl
   |some o =>
    rw [s.keep a o w q]at z;cases z
 nw a h m z:=t.nw a (by
  cases w:H a with
  |none=>exact absurd w h
  |some o=>exact cQ (s.keep a o w m)) (s.out h m) (s.nw a h m z)
theorem Stt.set (s:Stt K n F H σ ρ fp) {i:Nat} (hi:i<n) {v:V} {x:OD} {fx:List Addr} (r:Res K F H v x fx) (d:∀a∈fx,a∉fp) :
  ∃fp',Stt K n F H (σ.set i (some v)) (ρ.set i (some x)) fp'/\∀a∈fp',a∈fp\/a∈fx:=by
 obtain ⟨f,g1,g2,e,k⟩:=s.own.put (i:=i) (by rw [s.len];exact hi)
 subst e;have nd:=s.nd;have sub:∀a∈g1++(fx++g2),a∈g1++(f++g2)\/a∈fx:=λa m=>by
  simp only [List.mem_append]at m ⊢;rcases m with m | m | m
  ·exact .inl (.inl m)
  ·exact .inr m
  ·exact .inl (.inr (.inr m))
 refine ⟨g1++(fx++g2),⟨s.same,k F H (aP.refl _) (λ_ _ _ q=>q) v x fx r.own,?_,λa m=>(sub a m).elim (s.fr a) (r.fr a),by rw [List.length_set];exact s.len⟩,sub⟩
 simp only [List.nodup_append,List.mem_append]at nd d ⊢;obtain ⟨n1,⟨n2,n3,n4⟩,n5⟩:=nd;refine ⟨n1,⟨r.nd,n3,λa ha b hb e=>d a ha (.inr (.inr (e▸hb)))⟩,λa ha b hb e=>?_⟩
 rcases hb with hb | hb
 ·exact d b hb (.inl (e▸ha))
 ·exact n5 a ha b (.inr hb) e
end
end L3
namespace L3
open PySem L2
structure Mx where
 K:PySem.W.Frag
 mg:Str->Option Value
 E:XK
noncomputable def XOk (M:Mx) (c:Str) (H:Hp) (fp:List Addr):Prop:=∃cv,M.mg c=some cv/\∀od H',(∀a o,H a=some o->a∉fp->H' a=some o)->M.E cv od H'
noncomputable def aE (M:Mx) (H:Hp) (fp:List Addr) {α:Type} (P:α->Prop):R α->Prop
 |.ok a=>P a
 |.ex c=>XOk M c H fp
 |.bad=>False
noncomputable def OkE (M:Mx) (F H:Hp) (Q:VK) (x:OD):Prop:=∀v F' H' fx,Ext F H F' H'->Res M.K F' H' v x fx->(∀a∈fx,H a=none)->Q v H'
noncomputable def OkL (M:Mx) (F H:Hp) (Q:List V->Hp->Prop) (x:List OD):Prop:=∀v F' H' fx,Ext F H F' H'->ResL M.K F' H' v x fx->(∀a∈fx,H a=none)->Q v H'
noncomputable def OkH (F H:Hp) {α:Type} (Q:α->Hp->Prop) (x:α):Prop:=∀F' H',Ext F H F' H'->Q x H'
section
variable {M:Mx} {F H F1 H1 F2 H2:Hp} {fp fp1:List Addr} {α β:Type} {P P':α->Prop} {r:R α}
theorem aE.bind {P:β->Prop} {g:α->R β} (h:aE M H fp P (r.bind g)):aE M H fp (λa=>aE M H fp P (g a)) r:=by
 cases r with
 |ok a=>exact h
 |ex c=>exact h
 |bad=>exact h
theorem aE.mono (h:aE M H fp P r) (k:∀a,P a->P' a):aE M H fp P' r:=by
 cases r with
 |ok a=>exact k a h
 |ex c=>exact h
 |bad=>exact h
theorem XOk.stp (s:Stp F H fp F1 H1 fp1) {c:Str} (h:XOk M c H fp):XOk M c H1 fp1 :=
 let ⟨cv,e,k⟩:=h
 ⟨cv,e,λod H' q=>k od H' λa o z m=>q a o (s.keep a o z m) (s.out (cQ z) m)⟩
theorem aE.stp (s:Stp F H fp F1 H1 fp1) (h:aE M H fp P r):aE M H1 fp1 P r:=by
 cases r with
 |ok a=>exact h
 |ex c=>exact XOk.stp s h
 |bad=>exact h
theorem aE.ext (e:Ext F H F1 H1) (h:aE M H fp P r):aE M H1 fp P r:=h.stp e.stp
theorem aE.nofp (h:aE M H fp P r):aE M H [] P r:=by
 cases r with
 |ok a=>exact h
 |ex c =>
  obtain ⟨cv,e,k⟩:=h;exact ⟨cv,e,λod H' q=>k od H' λa o z _=>q a o z (by simp)⟩
 |bad=>exact h
theorem OkE.pre {Q:VK} {x:OD} (e:Ext F H F1 H1) (h:OkE M F H Q x):OkE M F1 H1 Q x:=λv F' H' fx e' r w=>h v F' H' fx (e.trans e') r λa m=>e.hh.free (w a m)
theorem OkH.pre {Q:α->Hp->Prop} {x:α} (e:Ext F H F1 H1) (h:OkH F H Q x):OkH F1 H1 Q x:=λF' H' e'=>h F' H' (e.trans e')
theorem OkE.val {Q:VK} {d:PyData} {v:V} (s:aP F H) (h:OkE M F H Q (.sh d)) (r:Rep M.K F v d):Q v H:=h v F H [] (Ext.refl s) (Res.sh r) λ_ m=>by cases m
theorem OkE.lst {Q:VK} {xs:List OD} {vs:List V} {f:List Addr} {p:Addr} (s:aP F H) (h:OkE M F1 H1 Q (.ol xs)) (e:Ext F1 H1 F H) (r:ResL M.K F H vs xs f) (w:∀a∈f,H1 a=none) (hp:H p=none):Q (.ref p) (upd H p (.lst vs)):=by
 have np:p∉f:=λm=>by
  obtain ⟨o,q⟩:=r.own.dom p m;rw [hp]at q;cases q
 refine h (.ref p) F _ (p :: f) (e.trans (Ext.alloc s hp)) ⟨.ol bB (r.own.mono (aP.refl _) λa m o q=>?_),List.nodup_cons.mpr ⟨np,r.nd⟩,λa m=>?_⟩ λa m=>?_
 ·rw [aL (aY q hp)]
  exact q
 ·rcases List.mem_cons.mp m with rfl | m
  ·exact s.free hp
  ·exact r.fr a m
 ·rcases List.mem_cons.mp m with rfl | m
  ·exact e.hh.free hp
  ·exact w a m
theorem OkE.tup {Q:VK} {xs:List OD} {vs:List V} {f:List Addr} {p:Addr} (s:aP F H) (h:OkE M F1 H1 Q (.ot xs)) (e:Ext F1 H1 F H) (r:ResL M.K F H vs xs f) (w:∀a∈f,H1 a=none) (hp:H p=none):Q (.ref p) (upd H p (.tup vs)):=by
 have np:p∉f:=λm=>by
  obtain ⟨o,q⟩:=r.own.dom p m;rw [hp]at q;cases q
 refine h (.ref p) F _ (p :: f) (e.trans (Ext.alloc s hp)) ⟨.ot bB (r.own.mono (aP.refl _) λa m o q=>?_),List.nodup_cons.mpr ⟨np,r.nd⟩,λa m=>?_⟩ λa m=>?_
 ·rw [aL (aY q hp)]
  exact q
 ·rcases List.mem_cons.mp m with rfl | m
  ·exact s.free hp
  ·exact r.fr a m
 ·rcases List.mem_cons.mp m with rfl | m
  ·exact e.hh.free hp
  ·exact w a m
theorem OkE.lstD {Q:VK} {ds:List PyData} {vs:List V} {p:Addr} (s:aP F H) (h:OkE M F H Q (.ol (ds.map OD.sh))) (r:RepAll M.K F vs ds) (hp:H p=none):Q (.ref p) (upd H p (.lst vs)) :=
 OkE.lst s h (Ext.refl s) ⟨OwnL.shs r,List.nodup_nil,λ_ m=>by cases m⟩ (λ_ m=>by cases m) hp
theorem OkE.tupF {Q:VK} {ds:List PyData} {vs:List V} {p:Addr} (s:aP F H) (h:OkE M F1 H1 Q (.sh (.tuple ds))) (e:Ext F1 H1 F H) (r:RepAll M.K F vs ds) (hp:H p=none):Q (.ref p) (upd H p (.tup vs)) :=
 h (.ref p) (upd F p (.tup vs)) _ [] (e.trans (Ext.allocF s hp)) (Res.sh (.tup bB (r.same ((aP.refl F).upd (s.free hp))))) λ_ m=>by cases m
theorem OwnL.of_shs {K:PySem.W.Frag} {vs:List V} {xs:List OD} {f:List Addr} {ds:List PyData} (o:OwnL K F H vs xs f) (e:L3.shs xs=some ds):f=[]/\RepAll K F vs ds:=by
 induction xs generalizing vs f ds with
 |nil =>
  cases o;unfold L3.shs at e;cases e;exact ⟨rfl,.nil⟩
 |cons a0 r0 ih0 =>
 cases o with
 |cons h0 r =>
  have ih:=λds=>ih0 (ds:=ds) r
  cases h0 with
  |sh h =>
   unfold L3.shs at e;split at e
   ·rename_i es q
    cases e;obtain ⟨rfl,k⟩:=ih _ q;exact ⟨rfl,.cons h k⟩
   ·cases e
  |ol _ _ =>
   unfold L3.shs at e;cases e
  |ot _ _ =>
   unfold L3.shs at e;cases e
  |od _ _ _ =>
   unfold L3.shs at e;cases e
end
noncomputable def tD (M:Mx) (n:Nat) (f:Fe):TE:=fun σ H Q=>∃F ρ fp,Stt M.K n F H σ ρ fp/\aE M H fp (OkE M F H Q) (f ρ)
noncomputable def tA (M:Mx) (n:Nat) (f:Fa):TA:=fun σ H Q=>∃F ρ fp,Stt M.K n F H σ ρ fp/\aE M H fp (OkL M F H Q) (f ρ)
noncomputable def tT (M:Mx) (n:Nat) (f:Ft):TT:=fun σ H Q=>∃F ρ fp,Stt M.K n F H σ ρ fp/\aE M H fp (OkH F H Q) (f ρ)
noncomputable def tO (M:Mx) (n:Nat) (f:Fo):TO:=fun σ H Q=>∃F ρ fp,Stt M.K n F H σ ρ fp/\aE M H fp (OkH F H Q) (f ρ)
noncomputable def Ok2 (M:Mx) (r:R2) (g:PyData->PyData->R OD):Prop:=∀(x y:V) (dx dy:PyData) (F H:Hp) (fp:List Addr) (Q:VK),aP F H->Rep M.K F x dx->Rep M.K F y dy->aE M H fp (OkE M F H Q) (g dx dy)->r x y H Q
noncomputable def Ok1 (M:Mx) (r:V->Hp->VK->Prop) (g:PyData->R OD):Prop:=∀(x:V) (dx:PyData) (F H:Hp) (fp:List Addr) (Q:VK),aP F H->Rep M.K F x dx->aE M H fp (OkE M F H Q) (g dx)->r x H Q
noncomputable def OkC (M:Mx) (r:List V->Hp->VK->Prop) (g:List PyData->R OD):Prop:=∀(x:List V) (dx:List PyData) (F H:Hp) (fp:List Addr) (Q:VK),aP F H->RepAll M.K F x dx->aE M H fp (OkE M F H Q) (g dx)->r x H Q
noncomputable def OkS (M:Mx) (r:V->Option Int->Option Int->Hp->VK->Prop) (g:PyData->Option Int->Option Int->R OD):Prop:=∀(x:V) (i j:Option Int) (dx:PyData) (F H:Hp) (fp:List Addr) (Q:VK),aP F H->Rep M.K F x dx->aE M H fp (OkE M F H Q) (g dx i j)->r x i j H Q
section
variable {M:Mx} {n:Nat} {σ:St} {H:Hp} {Q:VK} {QB:Bool->Hp->Prop} {fa fb:Fe} {ta tb:Ft}
theorem E_ {i:Nat} (h:tD M n (ae i) σ H Q):jJ i σ H Q:=by
 obtain ⟨F,ρ,fp,S,p⟩:=h;unfold ae at p;split at p
 ·rename_i d e
  obtain ⟨v,f,g1,g2,h1,h2,h3,h4⟩:=S.own.at e;cases h2 with
  |sh r=>exact ⟨v,h1,OkE.val S.same p r⟩
 ·exact p.elim
theorem d_c {v:V} {d:PyData} (hr:∀K F,Rep K F v d) (h:tD M n (eC d) σ H Q):tC v σ H Q:=by
 obtain ⟨F,ρ,fp,S,p⟩:=h;exact OkE.val S.same p (hr _ _)
theorem zE {r:R2} {g:PyData->PyData->R OD} (hg:Ok2 M r g) (h:tD M n (eOp g fa fb) σ H Q):tOp r (tD M n fa) (tD M n fb) σ H Q:=by
 obtain ⟨F,ρ,fp,S,p⟩:=h;refine ⟨F,ρ,fp,S,(aE.bind p).mono λx px v F1 H1 fx e1 r1 w1=>?_⟩
 obtain ⟨G1,d1,k1⟩:=r1.frz e1 w1;refine ⟨G1,ρ,fp,S.ext d1,((aE.bind px).ext d1).mono λy py v2 F2 H2 fy e2 r2 w2=>?_⟩
 obtain ⟨G2,d2,k2⟩:=r2.frz e2 w2;exact hg v v2 x.er y.er G2 H2 fp Q d2.fh (k1.same d2.ff) k2 ((py.ext (d1.trans d2)).mono λz hz=>hz.pre (d1.trans d2))
theorem Io {r:V->Hp->VK->Prop} {g:PyData->R OD} (hg:Ok1 M r g) (h:tD M n (eUn g fa) σ H Q):tUn r (tD M n fa) σ H Q:=by
 obtain ⟨F,ρ,fp,S,p⟩:=h;refine ⟨F,ρ,fp,S,(aE.bind p).mono λx px v F1 H1 fx e1 r1 w1=>?_⟩
 obtain ⟨G1,d1,k1⟩:=r1.frz e1 w1;exact hg v x.er G1 H1 fp Q d1.fh k1 ((px.ext d1).mono λz hz=>hz.pre d1)
theorem kI {K:PySem.W.Frag} {F:Hp} {v:V} {d:PyData} {fp:List Addr} {P:Bool->Prop} (k:Rep K F v d) (p:aE M H fp P (truth d)):∃b,v=.bl b/\P b:=by
 cases d with
 |bool b =>
  cases k;exact ⟨b,rfl,p⟩
 |none=>exact p.elim
 |int _=>exact p.elim
 |str _=>exact p.elim
 |list _=>exact p.elim
 |tuple _=>exact p.elim
 |dict _=>exact p.elim
theorem vC (h:tT M n (aW fa) σ H QB):Ah (tD M n fa) σ H QB:=by
 obtain ⟨F,ρ,fp,S,p⟩:=h;refine ⟨F,ρ,fp,S,(aE.bind p).mono λx px v F1 H1 fx e1 r1 w1=>?_⟩
 obtain ⟨G1,d1,k1⟩:=r1.frz e1 w1;obtain ⟨b,rfl,q⟩:=kI k1 px;exact ⟨b,rfl,q G1 H1 d1⟩
theorem d_b (h:tT M n (aW fa) σ H QB):tB (tD M n fa) σ H QB:=vC h
theorem AJ (h:tT M n (mM ta tb) σ H QB):FQ (tT M n ta) (tT M n tb) σ H QB:=by
 obtain ⟨F,ρ,fp,S,p⟩:=h;refine ⟨F,ρ,fp,S,(aE.bind p).mono λc pc F1 H1 e1=>?_⟩
 cases c with
 |true =>
  rw [if_pos rfl]at pc ⊢;exact ⟨F1,ρ,fp,S.ext e1,(pc.ext e1).mono λb hb=>hb.pre e1⟩
 |false =>
  rw [if_neg Bool.false_ne_true]at pc ⊢;exact pc F1 H1 e1
theorem Hx (h:tT M n (kg ta tb) σ H QB):tOr (tT M n ta) (tT M n tb) σ H QB:=by
 obtain ⟨F,ρ,fp,S,p⟩:=h;refine ⟨F,ρ,fp,S,(aE.bind p).mono λc pc F1 H1 e1=>?_⟩
 cases c with
 |true =>
  rw [if_pos rfl]at pc ⊢;exact pc F1 H1 e1
 |false =>
  rw [if_neg Bool.false_ne_true]at pc ⊢;exact ⟨F1,ρ,fp,S.ext e1,(pc.ext e1).mono λb hb=>hb.pre e1⟩
theorem CU (h:tT M n (gE ta) σ H QB):FT (tT M n ta) σ H QB:=by
 obtain ⟨F,ρ,fp,S,p⟩:=h;exact ⟨F,ρ,fp,S,(aE.bind p).mono λc pc F1 H1 e1=>pc F1 H1 e1⟩
theorem G5 (h:tD M n (pV fa fb) σ H Q):Aw (tD M n fa) (tD M n fb) σ H Q:=by
 obtain ⟨F,ρ,fp,S,p⟩:=h;refine ⟨F,ρ,fp,S,(aE.bind p).mono λx px v F1 H1 fx e1 r1 w1=>?_⟩
 obtain ⟨G1,d1,k1⟩:=r1.frz e1 w1;obtain ⟨b,rfl,q⟩:=kI k1 (aE.bind px);refine ⟨b,rfl,?_⟩;cases b with
 |true =>
  rw [if_pos rfl]at q ⊢;exact ⟨G1,ρ,fp,S.ext d1,(q.ext d1).mono λz hz=>hz.pre d1⟩
 |false =>
  rw [if_neg Bool.false_ne_true]at q ⊢;exact OkE.val d1.fh (OkE.pre d1 q) (.bl _)
theorem Ih (h:tD M n (eOr fa fb) σ H Q):FU (tD M n fa) (tD M n fb) σ H Q:=by
 obtain ⟨F,ρ,fp,S,p⟩:=h;refine ⟨F,ρ,fp,S,(aE.bind p).mono λx px v F1 H1 fx e1 r1 w1=>?_⟩
 obtain ⟨G1,d1,k1⟩:=r1.frz e1 w1;obtain ⟨b,rfl,q⟩:=kI k1 (aE.bind px);refine ⟨b,rfl,?_⟩;cases b with
 |true =>
  rw [if_pos rfl]at q ⊢;exact OkE.val d1.fh (OkE.pre d1 q) (.bl _)
 |false =>
  rw [if_neg Bool.false_ne_true]at q ⊢;exact ⟨G1,ρ,fp,S.ext d1,(q.ext d1).mono λz hz=>hz.pre d1⟩
theorem Ek (h:tD M n (wV fa) σ H Q):Ad (tD M n fa) σ H Q:=by
 obtain ⟨F,ρ,fp,S,p⟩:=h;refine ⟨F,ρ,fp,S,(aE.bind p).mono λx px v F1 H1 fx e1 r1 w1=>?_⟩
 obtain ⟨G1,d1,k1⟩:=r1.frz e1 w1;obtain ⟨b,rfl,q⟩:=kI k1 (aE.bind px);exact ⟨b,rfl,OkE.val d1.fh (OkE.pre d1 q) (.bl _)⟩
theorem Ic (h:tD M n (eIf ta fa fb) σ H Q):tIf (tT M n ta) (tD M n fa) (tD M n fb) σ H Q:=by
 obtain ⟨F,ρ,fp,S,p⟩:=h;refine ⟨F,ρ,fp,S,(aE.bind p).mono λc pc F1 H1 e1=>?_⟩
 cases c with
 |true =>
  rw [if_pos rfl]at pc ⊢;exact ⟨F1,ρ,fp,S.ext e1,(pc.ext e1).mono λb hb=>hb.pre e1⟩
 |false =>
  rw [if_neg Bool.false_ne_true]at pc ⊢;exact ⟨F1,ρ,fp,S.ext e1,(pc.ext e1).mono λb hb=>hb.pre e1⟩
theorem nY (h:tD M n (eSh fa) σ H Q):tD M n fa σ H Q:=by
 obtain ⟨F,ρ,fp,S,p⟩:=h;refine ⟨F,ρ,fp,S,(aE.bind p).mono λx px v F1 H1 fx e1 r1 w1=>?_⟩
 obtain ⟨G1,d1,k1⟩:=r1.frz e1 w1;exact OkE.val d1.fh (OkE.pre d1 px) k1
theorem qL {K:PySem.W.Frag} {F G:Hp} {v:V} {d:PyData} (h:flat d=true) (r:Rep K F v d):Rep K G v d:=by
 cases r with
 |non=>exact .non
 |bl b=>exact .bl b
 |int i=>exact .int i
 |str x=>exact .str x
 |lst _ _=>cases h
 |tup _ _=>cases h
 |dct _ _ _=>cases h
 |ins _ _ _=>cases h
theorem GO (h:tD M n (p8 fa) σ H Q):tD M n fa σ H Q:=by
 obtain ⟨F,ρ,fp,S,p⟩:=h;refine ⟨H,erase ρ,[],S.erase,(aE.bind p).nofp.mono λx px v F1 H1 fx e1 r1 w1=>?_⟩
 by_cases hf:flat x.er=true
 ·rw [if_pos hf]at px
  obtain ⟨G1,d1,k1⟩:=r1.frz e1 w1;exact px v F H1 [] ⟨aP.refl _,d1.hh,S.same.trans d1.hh,λ_ _ z=>z⟩ (Res.sh (qL hf k1)) λ_ m=>by cases m
 ·rw [if_neg hf]at px
  exact px.elim
theorem CS (h:tT M n (yZ ta) σ H QB):tT M n ta σ H QB:=by
 obtain ⟨F,ρ,fp,S,p⟩:=h;refine ⟨H,erase ρ,[],S.erase,(show aE M H fp _ (ta (erase ρ)) from p).nofp.mono λb pb F1 H1 e1=>?_⟩
 exact pb F H1 ⟨aP.refl _,e1.hh,S.same.trans e1.hh,λ_ _ z=>z⟩
variable {QL:List V->Hp->Prop} {al:Fa}
theorem A0 (h:tA M n av σ H QL):rC σ H QL:=by
 obtain ⟨F,ρ,fp,S,p⟩:=h;exact p [] F H [] (Ext.refl S.same) ResL.nil λ_ m=>by cases m
theorem yj (h:tA M n (af fa al) σ H QL):lK (tD M n fa) (tA M n al) σ H QL:=by
 obtain ⟨F,ρ,fp,S,p⟩:=h;refine ⟨F,ρ,fp,S,(aE.bind p).mono λx px v F1 H1 fx e1 r1 w1=>?_⟩
 refine ⟨F1,ρ,fp,S.ext e1,((aE.bind px).ext e1).mono λxs pxs vs F2 H2 fxs e2 r2 w2=>?_⟩
 refine pxs (v :: vs) F2 H2 (fx++fxs) (e1.trans e2) (ResL.cons (r1.ext e2) r2 λa m q=>?_) λa m=>?_
 ·obtain ⟨o,z⟩:=r1.own.dom a m
  rw [w2 a q]at z;cases z
 ·rcases List.mem_append.mp m with m | m
  ·exact w1 a m
  ·exact e1.hh.free (w2 a m)
theorem i7 {k:Nat} (h:k<=BIG):k<=sizeLine:=Nat.le_trans h (by decide)
theorem pU {k:Nat} (h:k<BIG):k<sizeLine:=Nat.lt_of_lt_of_le h (by decide)
theorem GI (h:tD M n (fJ al) σ H Q):Gb (tA M n al) σ H Q:=by
 obtain ⟨F,ρ,fp,S,p⟩:=h;refine ⟨F,ρ,fp,S,(aE.bind p).mono λxs px vs F1 H1 fx e1 r1 w1=>?_⟩
 by_cases hl:xs.length<=BIG
 ·rw [if_pos hl]at px
  exact ⟨by rw [r1.own.len];exact i7 hl,λa ha=>OkE.lst e1.fh px e1 r1 w1 ha⟩
 ·rw [if_neg hl]at px
  exact px.elim
theorem EV (h:tD M n (gk al) σ H Q):Fl (tA M n al) σ H Q:=by
 obtain ⟨F,ρ,fp,S,p⟩:=h;refine ⟨F,ρ,fp,S,(aE.bind p).mono λxs px vs F1 H1 fx e1 r1 w1=>?_⟩
 by_cases hl:xs.length<=BIG
 ·rw [if_pos hl]at px
  refine ⟨by rw [r1.own.len];exact i7 hl,λa ha=>?_⟩
  unfold mkT at px;split at px
  ·rename_i ds q
   obtain ⟨_,k⟩:=OwnL.of_shs r1.own q;exact OkE.tupF e1.fh px e1 k ha
  ·exact OkE.tup e1.fh px e1 r1 w1 ha
 ·rw [if_neg hl]at px
  exact px.elim
noncomputable def sp3 (K:PySem.W.Frag) (mg:Str->Option Value) (f:Fn):Sp:=λvs H Q E=>∃F ds,aP F H/\RepAll K F vs ds/\aE ⟨K,mg,E⟩ H [] (OkE ⟨K,mg,E⟩ F H Q) (f ds)
theorem AA {f:Fn} (h:tD M n (aM f al) σ H Q):Ac (sp3 M.K M.mg f) [] M.E (tA M n al) σ H Q:=by
 obtain ⟨F,ρ,fp,S,p⟩:=h;refine ⟨F,ρ,fp,S,(aE.bind p).mono λxs px vs F1 H1 fx e1 r1 w1=>?_⟩
 obtain ⟨G1,d1,k1⟩:=r1.frz e1 w1;rw [List.append_nil];exact ⟨G1,xs.map OD.er,d1.fh,k1,(px.ext d1).nofp.mono λz hz=>hz.pre d1⟩
theorem Hu {r:List V->Hp->VK->Prop} {g:List PyData->R OD} (hg:OkC M r g) (h:tD M n (eB g al) σ H Q):tCB r (tA M n al) σ H Q:=by
 obtain ⟨F,ρ,fp,S,p⟩:=h;refine ⟨F,ρ,fp,S,(aE.bind p).mono λxs px vs F1 H1 fx e1 r1 w1=>?_⟩
 obtain ⟨G1,d1,k1⟩:=r1.frz e1 w1;exact hg vs (xs.map OD.er) G1 H1 fp Q d1.fh k1 ((px.ext d1).mono λz hz=>hz.pre d1)
variable {QO:Option Int->Hp->Prop} {lo hi:Fo}
theorem zy (h:tO M n ki σ H QO):sS σ H QO:=by
 obtain ⟨F,ρ,fp,S,p⟩:=h;exact p F H (Ext.refl S.same)
theorem zh (h:tO M n (jS fa) σ H QO):Aj (tD M n fa) σ H QO:=by
 obtain ⟨F,ρ,fp,S,p⟩:=h;refine ⟨F,ρ,fp,S,(aE.bind p).mono λx px v F1 H1 fx e1 r1 w1=>?_⟩
 obtain ⟨G1,d1,k1⟩:=r1.frz e1 w1;generalize x.er=d at px k1
 cases d with
 |int i =>
  cases k1;exact ⟨i,rfl,px G1 H1 d1⟩
 |none=>exact px.elim
 |bool _=>exact px.elim
 |str _=>exact px.elim
 |list _=>exact px.elim
 |tuple _=>exact px.elim
 |dict _=>exact px.elim
theorem HR {r:V->Option Int->Option Int->Hp->VK->Prop} {g:PyData->Option Int->Option Int->R OD} (hg:OkS M r g) (h:tD M n (eSl g fa lo hi) σ H Q):tSl r (tD M n fa) (tO M n lo) (tO M n hi) σ H Q:=by
 obtain ⟨F,ρ,fp,S,p⟩:=h;refine ⟨F,ρ,fp,S,(aE.bind p).mono λx px v F1 H1 fx e1 r1 w1=>?_⟩
 obtain ⟨G1,d1,k1⟩:=r1.frz e1 w1;refine ⟨G1,ρ,fp,S.ext d1,((aE.bind px).ext d1).mono λi pi F2 H2 e2=>?_⟩
 refine ⟨F2,ρ,fp,(S.ext d1).ext e2,((aE.bind pi).ext (d1.trans e2)).mono λj pj F3 H3 e3=>?_⟩
 have e:=(d1.trans e2).trans e3;exact hg v i j x.er F3 H3 fp Q e3.fh ((k1.same e2.ff).same e3.ff) ((pj.ext e).mono λz hz=>hz.pre e)
end
end L3
namespace L3
open PySem L2
noncomputable def ig (M:Mx) (n:Nat) (F H:Hp) (fp:List Addr) (D:Ends):Out->Prop
 |.nx ρ=>∀σ' F' H' fp',Stt M.K n F' H' σ' ρ fp'->Stp F H fp F' H' fp'->D.nx σ' H'
 |.bk ρ=>∀σ' F' H' fp',Stt M.K n F' H' σ' ρ fp'->Stp F H fp F' H' fp'->D.bk σ' H'
 |.ct ρ=>∀σ' F' H' fp',Stt M.K n F' H' σ' ρ fp'->Stp F H fp F' H' fp'->D.ct σ' H'
 |.rt x=>∀v F' H' fx,aP F' H'->Res M.K F' H' v x fx->Stp F H fp F' H' fx->D.rt v H'
noncomputable def tS (M:Mx) (n:Nat) (f:Fs):TS:=λD σ H=>∃F ρ fp,Stt M.K n F H σ ρ fp/\aE M H fp (ig M n F H fp D) (f ρ)
noncomputable def OkG (M:Mx) (n:Nat) (is:List Nat) (F H:Hp) (fp:List Addr) (σ:St) (Q:St->Hp->Prop) (ρ:Env):Prop :=
 ∀σ' F' H' fp',Stt M.K n F' H' σ' ρ fp'->Stp F H fp F' H' fp'->(∀j,j∉is->σ'[j]?=σ[j]?)->Q σ' H'
noncomputable def tG (M:Mx) (n:Nat) (is:List Nat) (f:Fg):TG:=λv σ H Q=>∃F ρ fp x fx,Stt M.K n F H σ ρ fp/\Res M.K F H v x fx/\(∀a∈fx,a∉fp)/\aE M H (fp++fx) (OkG M n is F H (fp++fx) σ Q) (f x ρ)
noncomputable def tGs (M:Mx) (n:Nat) (is:List Nat) (f:Fgs):TGs:=λvs σ H Q=>∃F ρ fp xs fx,Stt M.K n F H σ ρ fp/\ResL M.K F H vs xs fx/\(∀a∈fx,a∉fp)/\aE M H (fp++fx) (OkG M n is F H (fp++fx) σ Q) (f xs ρ)
section
variable {M:Mx} {n:Nat} {F H F1 H1 F2 H2:Hp} {fp fp1 fp2:List Addr} {σ:St} {ρ:Env} {D:Ends}
theorem ig.stp (s:Stp F H fp F1 H1 fp1) {o:Out} (h:ig M n F H fp D o):ig M n F1 H1 fp1 D o:=by
 cases o with
 |nx ρ=>exact fun σ' F' H' fp' a b=>h σ' F' H' fp' a (s.trans b)
 |bk ρ=>exact fun σ' F' H' fp' a b=>h σ' F' H' fp' a (s.trans b)
 |ct ρ=>exact fun σ' F' H' fp' a b=>h σ' F' H' fp' a (s.trans b)
 |rt x=>exact λv F' H' fx a b c=>h v F' H' fx a b (s.trans c)
theorem PostS.stp (s:Stp F H fp F1 H1 fp1) {r:R Out} (h:aE M H fp (ig M n F H fp D) r):aE M H1 fp1 (ig M n F1 H1 fp1 D) r:=(h.stp s).mono λo ho=>ho.stp s
theorem Ext.stpN {fx:List Addr} (e:Ext F H F1 H1) (w:∀a∈fx,H a=none):Stp F H fp F1 H1 (fp++fx) :=
 ⟨e.ff,λa o h _=>e.hh a o h,λa m=>(List.mem_append.mp m).elim .inl λm=>.inr (w a m),λa h _ z=>e.nw a h z⟩
theorem Stp.sub (s:Stp F H fp F1 H1 fp1) (h:∀a∈fp2,a∈fp1):Stp F H fp F1 H1 fp2:=⟨s.ff,s.keep,λa m=>s.new a (h a m),s.nw⟩
theorem CP (h:tS M n sNx D σ H):Ar D σ H:=by
 obtain ⟨F,ρ,fp,S,p⟩:=h;exact p σ F H fp S Stp.refl
theorem G7 {f g:Fs} (h:tS M n (aF f g) D σ H):EZ (tS M n f) (tS M n g) D σ H:=by
 obtain ⟨F,ρ,fp,S,p⟩:=h;refine ⟨F,ρ,fp,S,(aE.bind p).mono λo po=>?_⟩
 cases o with
 |nx ρ1=>exact fun σ' F' H' fp' S' st=>⟨F',ρ1,fp',S',PostS.stp st po⟩
 |bk ρ=>exact po
 |ct ρ=>exact po
 |rt x=>exact po
theorem GX (h:tS M n Dc D σ H):xM D σ H:=by
 obtain ⟨F,ρ,fp,S,p⟩:=h;exact p
theorem ID {t:Ft} {f g:Fs} (h:tS M n (sIf t f g) D σ H):Ff (tT M n t) (tS M n f) (tS M n g) D σ H:=by
 obtain ⟨F,ρ,fp,S,p⟩:=h;refine ⟨F,ρ,fp,S,(aE.bind p).mono λc pc F1 H1 e1=>?_⟩
 cases c with
 |true =>
  rw [if_pos rfl]at pc ⊢;exact ⟨F1,ρ,fp,S.ext e1,PostS.stp e1.stp pc⟩
 |false =>
  rw [if_neg Bool.false_ne_true]at pc ⊢;exact ⟨F1,ρ,fp,S.ext e1,PostS.stp e1.stp pc⟩
theorem Dx {a:Fe} (h:tS M n (sQ a) D σ H):oH (tD M n a) D σ H:=by
 obtain ⟨F,ρ,fp,S,p⟩:=h;exact ⟨F,ρ,fp,S,(aE.bind p).mono λx px v F1 H1 fx e1 r1 w1=>px σ F1 H1 fp (S.ext e1) e1.stp⟩
theorem ES {a:Fe} (h:tS M n (bR a) D σ H):BM (tD M n a) D σ H:=by
 obtain ⟨F,ρ,fp,S,p⟩:=h;exact ⟨F,ρ,fp,S,(aE.bind p).mono λx px v F1 H1 fx e1 r1 w1=>px v F1 H1 fx e1.fh r1 ((e1.stpN w1).sub λa m=>List.mem_append_right _ m)⟩
theorem AM {i:Nat} (h:tS M n (gD i) D σ H):BM (jJ i) D σ H:=by
 obtain ⟨F,ρ,fp,S,p⟩:=h;unfold gD at p;split at p
 ·rename_i x e
  obtain ⟨v,f,g1,g2,h1,h2,rfl,h4⟩:=S.own.at e;have sub:∀a∈f,a∈g1++(f++g2):=λa m=>List.mem_append_right _ (List.mem_append_left _ m)
  refine ⟨v,h1,p v F H f S.same ⟨h2,?_,λa m=>S.fr a (sub a m)⟩ (Stp.refl.sub sub)⟩
  have nd:=S.nd;simp only [List.nodup_append]at nd;exact nd.2.1.1
 ·exact p.elim
theorem FJ {a:Fe} {is:List Nat} {g:Fg} (h:tS M n (yV a g) D σ H):uI (tD M n a) (tG M n is g) D σ H:=by
 obtain ⟨F,ρ,fp,S,p⟩:=h;refine ⟨F,ρ,fp,S,(aE.bind p).mono λx px v F1 H1 fx e1 r1 w1=>?_⟩
 have st:=e1.stpN (fp:=fp) w1;refine ⟨F1,ρ,fp,x,fx,S.ext e1,r1,λa m q=>?_,((aE.bind px).stp st).mono fun ρ' hρ σ' F' H' fp' S' s' _=>hρ σ' F' H' fp' S' (st.trans s')⟩
 obtain ⟨o,z⟩:=S.own.dom a q;rw [w1 a m]at z;cases z
theorem vR {i:Nat} (hi:i<n) {v:V} {Q:St->Hp->Prop} (h:tG M n [i] (gNm i) v σ H Q):lD i v σ H Q:=by
 obtain ⟨F,ρ,fp,x,fx,S,r,d,p⟩:=h;obtain ⟨fp',S',sub⟩:=S.set hi r d;refine p _ F H fp' S' ⟨aP.refl _,λ_ _ h _=>h,λa m=>.inl (List.mem_append.mpr (sub a m)),λ_ _ _ z=>z⟩ λj hj=>?_
 have hne:i≠j:=by
  rintro rfl;exact hj (by simp)
 rw [List.getElem?_set_ne hne]
theorem Gm {vs:List V} {Q:St->Hp->Prop} (h:tGs M n [] iX vs σ H Q):GF vs σ H Q:=by
 obtain ⟨F,ρ,fp,xs,fx,S,r,d,p⟩:=h;cases xs with
 |nil =>
  cases r.own with
  |nil=>exact ⟨rfl,p σ F H fp S (Stp.refl.sub λa m=>List.mem_append_left _ m) λ_ _=>rfl⟩
 |cons x xs=>exact p.elim
theorem CK {vs:List V} {is js:List Nat} {g:Fg} {gs:Fgs} {Q:St->Hp->Prop} (h:tGs M n (is++js) (cJ g gs) vs σ H Q):Am (tG M n is g) (tGs M n js gs) vs σ H Q:=by
 obtain ⟨F,ρ,fp,xs,fx,S,r,d,p⟩:=h;cases xs with
 |nil=>exact p.elim
 |cons x xs =>
  obtain ⟨ro,rn,rf⟩:=r;cases ro with
  |@cons v _ f vs _ g' h1 h2 =>
   have nd:=rn;simp only [List.nodup_append]at nd;refine ⟨v,vs,rfl,F,ρ,fp,x,f,S,⟨h1,nd.1,λa m=>rf a (List.mem_append_left _ m)⟩,λa m=>d a (List.mem_append_left _ m),?_⟩
   have p':aE M H (fp++(f++g')) _ ((g x ρ).bind fun ρ'=>gs xs ρ'):=p
   have s0:Stp F H (fp++(f++g')) F H (fp++f):=Stp.refl.sub λa m=>by
    simp only [List.mem_append]at m ⊢;rcases m with m | m
    ·exact .inl m
    ·exact .inr (.inl m)
   refine ((aE.bind p').stp s0).mono fun ρ1 p1 σ1 F1 H1 fp1 S1 s1 t1=>?_
   have gd:∀a∈g',a∉fp++f:=λa m q=>by
    rcases List.mem_append.mp q with q | q
    ·exact d a (List.mem_append_right _ m) q
    ·exact nd.2.2 a q a m rfl
   have hd:∀a∈g',H a≠none:=λa m=>let ⟨_,q⟩:=h2.dom a m;cQ q
   have k1:∀a∈g',∀o,H a=some o->H1 a=some o:=λa m o q=>s1.keep a o q (gd a m)
   have out:∀a∈g',a∉fp1:=λa m=>s1.out (hd a m) (gd a m)
   have s2:Stp F H (fp++(f++g')) F1 H1 (fp1++g'):=⟨s1.ff,λa o q m=>s1.keep a o q (λz=>m (by simp only [List.mem_append]at z ⊢;rcases z with z | z <;> simp [z])),λa m=>by
    rcases List.mem_append.mp m with m | m
    ·rcases s1.new a m with z | z
     ·exact .inl (by simp only [List.mem_append]at z ⊢;rcases z with z | z <;> simp [z])
     ·exact .inr z
    ·exact .inl (by simp [m]),λa q m z=>s1.nw a q (λw=>m (by simp only [List.mem_append]at w ⊢;rcases w with w | w <;> simp [w])) z⟩
   refine ⟨F1,ρ1,fp1,xs,g',S1,⟨h2.mono s1.ff k1,nd.2.1,λa m=>s1.nw a (hd a m) (gd a m) (rf a (List.mem_append_right _ m))⟩,out,(p1.stp s2).mono fun ρ' hρ σ' F' H' fp' S' s' t'=>hρ σ' F' H' fp' S' (s2.trans s') λj hj=>?_⟩
   have hj1:j∉is:=λz=>hj (List.mem_append_left _ z)
   have hj2:j∉js:=λz=>hj (List.mem_append_right _ z)
   rw [t' j hj2,t1 j hj1]
theorem Hy {k:Nat} {v:V} {is:List Nat} {gs:Fgs} {Q:St->Hp->Prop} (h:tG M n is (gTp k gs) v σ H Q):EU M.K k (tGs M n is gs) v σ H Q:=by
 obtain ⟨F,ρ,fp,x,fx,S,r,d,p⟩:=h;unfold gTp at p;split at p
 ·rename_i xs
  obtain ⟨ro,rn,rf⟩:=r;cases ro with
  |@ot a vs _ f h1 h2 =>
   by_cases hl:xs.length=k
   ·rw [if_pos hl]at p
    have nd:=List.nodup_cons.mp rn;have s0:Stp F H (fp++(a :: f)) F H (fp++f):=Stp.refl.sub λb m=>by
     simp only [List.mem_append,List.mem_cons]at m ⊢;rcases m with m | m <;> simp [m]
    exact ⟨a,vs,rfl,SqT.of h1,by rw [h2.len];exact hl,F,ρ,fp,xs,f,S,⟨h2,nd.2,λb m=>rf b (List.mem_cons_of_mem _ m)⟩,λb m=>d b (List.mem_cons_of_mem _ m),(p.stp s0).mono fun ρ' hρ σ' F' H' fp' S' s' t'=>hρ σ' F' H' fp' S' (s0.trans s') t'⟩
   ·rw [if_neg hl]at p
    exact p.elim
 ·rename_i ds
  obtain ⟨ro,rn,rf⟩:=r;cases ro with
  |sh q =>
   by_cases hl:ds.length=k
   ·rw [if_pos hl]at p
    cases q with
    |@tup a vs _ h1 h2 =>
     exact ⟨a,vs,rfl,SqT.of (S.same _ _ h1),by rw [RepAll.len h2];exact hl,F,ρ,fp,ds.map OD.sh,[],S,⟨OwnL.shs h2,List.nodup_nil,λ_ m=>by cases m⟩,(λ_ m=>by cases m),p⟩
   ·rw [if_neg hl]at p
    exact p.elim
 ·exact p.elim
theorem xi {a:Fe} {i:Nat} (hi:i<n) (h:tS M n (aR i a) D σ H):uI (tD M n a) (lD i) D σ H:=by
 have h':tS M n (yV a (gNm i)) D σ H:=h;obtain ⟨F,ρ,fp,S,p⟩:=FJ (is:=[i]) h';exact ⟨F,ρ,fp,S,p.mono λx px v F1 H1 fx e1 r1 w1=>vR hi (px v F1 H1 fx e1 r1 w1)⟩
theorem Fb {f:Fs} {i:Nat} (h:tS M n (nT i f) D σ H):tS M n f D σ H:=by
 obtain ⟨F,ρ,fp,S,p⟩:=h;unfold nT vG at p;split at p
 ·rename_i x e
  obtain ⟨v,f,g1,g2,h1,h2,rfl,h4⟩:=S.own.at e;have ff:∀a∈f,F a=none:=λa m=>S.fr a (List.mem_append_right _ (List.mem_append_left _ m))
  have o:=h4 (j0 F H f) H (gN ff) (λ_ _ _ q=>q) v (.sh x.er) [] (.sh (h2.frz (gN ff) λa m o q=>by rw [kh m];exact q))
  have hs:σ.set i (some v)=σ:=by
   apply List.ext_getElem?
   intro j;by_cases hj:i=j
   ·subst hj
    rw [h1,List.getElem?_set_self (List.getElem?_eq_some_iff.mp h1).1]
   ·rw [List.getElem?_set_ne hj]
  rw [hs]at o;have nd:=S.nd;simp only [List.nodup_append,List.mem_append]at nd;obtain ⟨n1,⟨n2,n3,n4⟩,n5⟩:=nd;have sub:∀a∈g1++([]++g2),a∈g1++(f++g2)/\a∉f:=λa m=>by
   simp only [List.nil_append,List.mem_append]at m ⊢;rcases m with m | m
   ·exact ⟨.inl m,λz=>n5 a m a (.inl z) rfl⟩
   ·exact ⟨.inr (.inr m),λz=>n4 a z a m rfl⟩
  have st:Stp F H (g1++(f++g2)) (j0 F H f) H (g1++([]++g2)):=⟨gN ff,λ_ _ h _=>h,λa m=>.inl (sub a m).1,λa h m z=>by
   rw [g6 λw=>m (List.mem_append_right _ (List.mem_append_left _ w))]
   exact z⟩
  refine ⟨j0 F H f,_,_,⟨ph S.same,o,?_,λa m=>?_,by rw [List.length_set];exact S.len⟩,PostS.stp st p⟩
  ·simp only [List.nil_append,List.nodup_append]
   exact ⟨n1,n3,λa ha b hb=>n5 a ha b (.inr hb)⟩
  ·rw [g6 (sub a m).2]
   exact S.fr a (sub a m).1
 ·exact ⟨F,ρ,fp,S,p⟩
end
noncomputable def Walks (K:PySem.W.Frag) (F:Hp) (J:It) (ds:List PyData):Prop:=∀i G H,aP F G->aP G H ->
 (∀d,ds[i]?=some d->J.go i H/\∀x H',J.yld i H x H'->∃G',Ext G H G' H'/\Rep K G' x d)/\(ds.length<=i->J.stop i H)
noncomputable def OkI (K:PySem.W.Frag) (F H:Hp) (R:It->Hp->Prop) (ds:List PyData):Prop:=∀J F' H',Ext F H F' H'->Walks K F' J ds->R J H'
noncomputable def tI (M:Mx) (n:Nat) (f:Fi):TI:=fun σ H R=>∃F ρ fp,Stt M.K n F H σ ρ fp/\aE M H fp (OkI M.K F H R) (f ρ)
section
variable {M:Mx} {n:Nat} {F H:Hp} {σ:St} {D:Ends} {R':It->Hp->Prop}
theorem BB {a:Fe} (h:tI M n (gS a) σ H R'):qR M.K (tD M n a) σ H R':=by
 obtain ⟨F,ρ,fp,S,p⟩:=h;refine ⟨F,ρ,fp,S,(aE.bind p).mono λx px v F1 H1 fx e1 r1 w1=>?_⟩
 obtain ⟨G1,d1,k1⟩:=r1.frz e1 w1;generalize x.er=d at px k1
 cases k1 with
 |@lst a vs ds h1 h2 =>
  refine ⟨a,rfl,⟨vs,(h1.same d1.fh).sq⟩,px _ G1 H1 d1 λi G H' s1 s2=>?_⟩
  have hq:=(h1.same (s1.trans s2)).sq;refine ⟨λd hd=>?_,λhl=>⟨vs,hq,by rw [RepAll.len h2];exact hl⟩⟩
  obtain ⟨u,hu,ru⟩:=RepAll.get h2 hd;refine ⟨⟨vs,u,hq,hu⟩,λx H2 y=>?_⟩
  obtain ⟨rfl,y⟩:=y;have hx:=y vs hq;rw [hu]at hx;cases hx;exact ⟨G,Ext.refl s2,ru.same s1⟩
 |non=>exact px.elim
 |bl _=>exact px.elim
 |int _=>exact px.elim
 |str _=>exact px.elim
 |dct _ _ _=>exact px.elim
 |ins _ _ _=>exact px.elim
 |tup _ _=>exact px.elim
theorem F9 {a:Fe} (h:tI M n (iTp a) σ H R'):Er M.K (tD M n a) σ H R':=by
 obtain ⟨F,ρ,fp,S,p⟩:=h;refine ⟨F,ρ,fp,S,(aE.bind p).mono λx px v F1 H1 fx e1 r1 w1=>?_⟩
 obtain ⟨G1,d1,k1⟩:=r1.frz e1 w1;generalize x.er=d at px k1
 cases k1 with
 |@tup a vs ds h1 h2 =>
  refine ⟨a,rfl,⟨vs,SqT.of (d1.fh _ _ h1)⟩,px _ G1 H1 d1 λi G H' s1 s2=>?_⟩
  have hq:SqT M.K H' a vs:=SqT.of ((s1.trans s2) _ _ h1);refine ⟨λd hd=>?_,λhl=>⟨vs,hq,by rw [RepAll.len h2];exact hl⟩⟩
  obtain ⟨u,hu,ru⟩:=RepAll.get h2 hd;refine ⟨⟨vs,u,hq,hu⟩,λx H2 y=>?_⟩
  obtain ⟨rfl,y⟩:=y;have hx:=y vs hq;rw [hu]at hx;cases hx;exact ⟨G,Ext.refl s2,ru.same s1⟩
 |non=>exact px.elim
 |bl _=>exact px.elim
 |int _=>exact px.elim
 |str _=>exact px.elim
 |dct _ _ _=>exact px.elim
 |ins _ _ _=>exact px.elim
 |lst _ _=>exact px.elim
theorem mY {K:PySem.W.Frag} (lo:Int) (k:Nat):Walks K F (Itr lo k) (jf lo k):=by
 intro i G H s1 s2;unfold jf;refine ⟨λd hd=>?_,λhl=>(show k<=i by simpa using hl)⟩
 rw [List.getElem?_map]at hd;obtain ⟨j,hj,rfl⟩:=Option.map_eq_some_iff.mp hd;obtain ⟨h1,h2⟩:=List.getElem?_eq_some_iff.mp hj;have h3:i=j:=by simpa using h2
 subst h3;refine ⟨(show i<k by simpa using h1),λx H' y=>?_⟩
 obtain ⟨rfl,rfl⟩:=y;exact ⟨G,Ext.refl s2,.int _⟩
theorem fk {i:Int}:aI i=true ↔ -(2 ^ 62)<=i/\i<2 ^ 62:=by
 unfold aI;rw [Bool.and_eq_true,decide_eq_true_eq,decide_eq_true_eq]
theorem HI {a:Fe} (h:tI M n (iR1 a) σ H R'):Au (tA M n (af a av)) σ H R':=by
 obtain ⟨F,ρ,fp,S,p⟩:=h;refine ⟨F,ρ,fp,S,?_⟩;have p1:=aE.bind p;show aE M H fp _ ((a ρ).bind λx=>R.ok [x])
 cases ha:a ρ with
 |bad=>rw [ha]at p1;exact p1
 |ex c=>rw [ha]at p1;exact p1
 |ok x =>
  rw [ha]at p1;intro vs F1 H1 fx e1 r1 w1;obtain ⟨G1,d1,k1⟩:=r1.frz e1 w1;cases k1 with
  |@cons v _ _ _ k1 k2 =>
   cases k2;have p2:aE M H fp (OkI M.K F H R') (match x.er with | .int j=>if aI j=true then .ok (jf 0 j.toNat) else .bad | _=>.bad):=p1
   generalize x.er=d at p2 k1
   cases k1 with
   |int j =>
    by_cases hs:aI j=true
    ·have hs':=fk.mp hs
     have p3:aE M H fp (OkI M.K F H R') (if aI j=true then .ok (jf 0 j.toNat) else .bad):=p2
     rw [if_pos hs]at p3;exact ⟨j,rfl,hs'.1,hs'.2,p3 _ G1 H1 d1 (mY _ _)⟩
    ·have p3:aE M H fp (OkI M.K F H R') (if aI j=true then .ok (jf 0 j.toNat) else .bad):=p2
     rw [if_neg hs]at p3;exact p3.elim
   |non=>exact p2.elim
   |bl _=>exact p2.elim
   |str _=>exact p2.elim
   |dct _ _ _=>exact p2.elim
   |ins _ _ _=>exact p2.elim
   |lst _ _=>exact p2.elim
   |tup _ _=>exact p2.elim
theorem qv {a b:Fe} {g:PyData->PyData->R (List PyData)} {ρ:Env} {fp:List Addr} {QL:List V->Hp->Prop}
  (p:aE M H fp (OkI M.K F H R') ((a ρ).bind λx=>(b ρ).bind λy=>g x.er y.er))
  (k:∀v w dx dy G H1,Ext F H G H1->Rep M.K G v dx->Rep M.K G w dy->aE M H fp (OkI M.K F H R') (g dx dy)->QL [v,w] H1) :
  aE M H fp (OkL M F H QL) (af a (af b av) ρ):=by
 show aE M H fp _ ((a ρ).bind λx=>((b ρ).bind λy=>R.ok [y]).bind λxs=>R.ok (x :: xs))
 have p1:=aE.bind p;cases ha:a ρ with
 |bad=>rw [ha]at p1;exact p1
 |ex c=>rw [ha]at p1;exact p1
 |ok x =>
  rw [ha]at p1;have p2:aE M H fp _ (b ρ):=aE.bind p1;show aE M H fp _ (((b ρ).bind λy=>R.ok [y]).bind λxs=>R.ok (x :: xs))
  cases hb:b ρ with
  |bad=>rw [hb]at p2;exact p2
  |ex c=>rw [hb]at p2;exact p2
  |ok y =>
   rw [hb]at p2;intro vs F1 H1 fx e1 r1 w1;obtain ⟨G1,d1,k1⟩:=r1.frz e1 w1;cases k1 with
   |@cons v _ _ _ k1 k2 =>
    cases k2 with
    |@cons w _ _ _ k2 k3 =>
     cases k3;exact k v w x.er y.er G1 H1 d1 k1 k2 p2
noncomputable def r2F (x y:PyData):R (List PyData):=match x,y with
 |.int i,.int j=>if (aI i && aI j)=true then .ok (jf i (j-i).toNat) else .bad
 |_,_=>.bad
theorem Ik {a b:Fe} (h:tI M n (iR2 a b) σ H R'):zT (tA M n (af a (af b av))) σ H R':=by
 obtain ⟨F,ρ,fp,S,p⟩:=h;refine ⟨F,ρ,fp,S,qv (g:=r2F) (by unfold iR2 at p;exact p) λv w dx dy G H1 e rv rw' q=>?_⟩
 unfold r2F at q;split at q
 ·rename_i i j
  cases rv;cases rw';by_cases hs:(aI i && aI j)=true
  ·rw [if_pos hs]at q
   rw [Bool.and_eq_true]at hs;have h1:=fk.mp hs.1;have h2:=fk.mp hs.2;exact ⟨i,j,rfl,⟨h1.1,h1.2,h2.1,h2.2⟩,q _ G H1 e (mY _ _)⟩
  ·rw [if_neg hs]at q
   exact q.elim
 ·exact q.elim
theorem oh {ds:List PyData} {i:Nat} {d:PyData} (h:(fZ ds)[i]?=some d):∃e,ds[i]?=some e/\d=.tuple [.int i,e]:=by
 unfold fZ at h;rw [List.getElem?_map]at h;obtain ⟨p,hp,rfl⟩:=Option.map_eq_some_iff.mp h;rw [List.getElem?_zipIdx]at hp;obtain ⟨e,he,rfl⟩:=Option.map_eq_some_iff.mp hp;exact ⟨e,he,by simp⟩
theorem DU {a:Fe} (h:tI M n (iEn a) σ H R'):zL M.K (tA M n (af a av)) σ H R':=by
 obtain ⟨F,ρ,fp,S,p⟩:=h;refine ⟨F,ρ,fp,S,?_⟩;have p1:=aE.bind p;show aE M H fp _ ((a ρ).bind λx=>R.ok [x])
 cases ha:a ρ with
 |bad=>rw [ha]at p1;exact p1
 |ex c=>rw [ha]at p1;exact p1
 |ok x =>
  rw [ha]at p1;intro vs F1 H1 fx e1 r1 w1;obtain ⟨G1,d1,k1⟩:=r1.frz e1 w1;cases k1 with
  |@cons v _ _ _ k1 k2 =>
   cases k2;have p2:aE M H fp (OkI M.K F H R') (match x.er with | .list ds=>.ok (fZ ds) | _=>.bad):=p1
   generalize x.er=d at p2 k1
   cases k1 with
   |@lst a vs ds h1 h2 =>
    have p3:OkI M.K F H R' (fZ ds):=p2;refine ⟨a,rfl,⟨vs,(h1.same d1.fh).sq⟩,p3 _ G1 H1 d1 λi G H' s1 s2=>?_⟩
    have hq:=(h1.same (s1.trans s2)).sq;refine ⟨λd hd=>?_,λhl=>⟨vs,hq,by rw [RepAll.len h2];unfold fZ at hl;simpa using hl⟩⟩
    obtain ⟨e,he,rfl⟩:=oh hd;obtain ⟨u,hu,ru⟩:=RepAll.get h2 he;refine ⟨⟨vs,u,hq,hu⟩,λx H2 y=>?_⟩
    obtain ⟨T,z,hT,rfl,rfl,hz⟩:=y;have hx:=hz vs hq;rw [hu]at hx;cases hx;exact ⟨upd G T _,Ext.allocF s2 hT,.tup bB (.cons (.int _) (.cons ((ru.same s1).same ((aP.refl G).upd (s2.free hT))) .nil))⟩
   |int j=>exact p2.elim
   |non=>exact p2.elim
   |bl _=>exact p2.elim
   |str _=>exact p2.elim
   |dct _ _ _=>exact p2.elim
   |ins _ _ _=>exact p2.elim
   |tup _ _=>exact p2.elim
noncomputable def yF (x y:PyData):R (List PyData):=match x,y with
 |.list ds,.list es=>.ok (lQ ds es)
 |_,_=>.bad
theorem qy {ds es:List PyData} {i:Nat} {d:PyData} (h:(lQ ds es)[i]?=some d):∃x y,ds[i]?=some x/\es[i]?=some y/\d=.tuple [x,y]:=by
 unfold lQ at h;rw [List.getElem?_map]at h;obtain ⟨p,hp,rfl⟩:=Option.map_eq_some_iff.mp h;rw [List.getElem?_zip_eq_some]at hp;exact ⟨p.1,p.2,hp.1,hp.2,rfl⟩
theorem Gk {a b:Fe} (h:tI M n (iZp a b) σ H R'):Gz M.K (tA M n (af a (af b av))) σ H R':=by
 obtain ⟨F,ρ,fp,S,p⟩:=h;refine ⟨F,ρ,fp,S,qv (g:=yF) (by unfold iZp at p;exact p) λv w dx dy G1 H1 d1 rv rw' q=>?_⟩
 unfold yF at q;split at q
 ·rename_i ds es
  cases rv with
  |@lst a vs _ h1 h2 =>
   cases rw' with
   |@lst b ws _ h3 h4 =>
    refine ⟨a,b,rfl,⟨vs,(h1.same d1.fh).sq⟩,⟨ws,(h3.same d1.fh).sq⟩,q _ G1 H1 d1 λi G H' s1 s2=>?_⟩
    have hq:=(h1.same (s1.trans s2)).sq;have hq':=(h3.same (s1.trans s2)).sq;refine ⟨λd hd=>?_,λhl=>⟨vs,ws,hq,hq',?_⟩⟩
    ·obtain ⟨x,y,hx,hy,rfl⟩:=qy hd
     obtain ⟨u,hu,ru⟩:=RepAll.get h2 hx;obtain ⟨u',hu',ru'⟩:=RepAll.get h4 hy;refine ⟨⟨vs,u,ws,u',hq,hu,hq',hu'⟩,λx H2 y=>?_⟩
     obtain ⟨T,z,z',hT,rfl,rfl,hz,hz'⟩:=y;have e1:=hz vs hq;have e2:=hz' ws hq';rw [hu]at e1;rw [hu']at e2;cases e1;cases e2;have sg:aP G (upd G T (.tup [u,u'])):=(aP.refl G).upd (s2.free hT);exact ⟨upd G T _,Ext.allocF s2 hT,.tup bB (.cons ((ru.same s1).same sg) (.cons ((ru'.same s1).same sg) .nil))⟩
    ·rw [RepAll.len h2,RepAll.len h4]
     unfold lQ at hl;rw [List.length_map,List.length_zip]at hl
     lia
 ·exact q.elim
theorem Ha {it:Fi} {is:List Nat} {g:Fg} {b:Fs} (h:tS M n (eP it g b) D σ H):F8 (tI M n it) (tG M n is g) (tS M n b) D σ H:=by
 obtain ⟨F,ρ,fp,S,p⟩:=h;refine ⟨F,ρ,fp,S,(aE.bind p).mono λds pd J F1 H1 e1 wk=>?_⟩
 refine ⟨λi m σ' H'=>m=ds.length-i/\i<=ds.length/\∃F' ρ' fp',Stt M.K n F' H' σ' ρ' fp'/\aP F1 F'/\aE M H' fp' (ig M n F' H' fp' D) (br g b (ds.drop i) ρ'),⟨ds.length,by simp,Nat.zero_le _,F1,ρ,fp,S.ext e1,aP.refl _,PostS.stp e1.stp pd⟩,?_⟩
 rintro i m σ' H' ⟨rfl,hi,F',ρ',fp',S',s',p'⟩;obtain ⟨w1,w2⟩:=wk i F' H' s' S'.same;by_cases hlt:i<ds.length
 ·obtain ⟨d,hd⟩:∃d,ds[i]?=some d:=⟨ds[i],by simp [hlt]⟩
  obtain ⟨g1,g2⟩:=w1 d hd;have e:ds.drop i=d :: ds.drop (i+1):=by
   rw [List.drop_eq_getElem_cons hlt];congr 1
   have:=(List.getElem?_eq_some_iff.mp hd).2;exact this
  rw [e]at p';refine .inr ⟨g1,fun σ2 H2=>∃F2 ρ2 fp2,Stt M.K n F2 H2 σ2 ρ2 fp2/\aP F1 F2/\aE M H2 fp2 (ig M n F2 H2 fp2 D) (br g b (ds.drop (i+1)) ρ2),fun σ2 H2 q=>⟨ds.length-(i+1),by lia,rfl,hlt,q⟩,λx H2 y=>?_⟩
  obtain ⟨G2,e2,rx⟩:=g2 x H2 y;have p2:aE M H' fp' _ ((g (.sh d) ρ').bind fun ρ1=>(b ρ1).bind λo=>match o with
   |.nx ρ2=>br g b (ds.drop (i+1)) ρ2
   |.ct ρ2=>br g b (ds.drop (i+1)) ρ2
   |.bk ρ2=>.ok (.nx ρ2)
   |.rt x=>.ok (.rt x)):=p'
  have st:Stp F' H' fp' G2 H2 (fp'++[]):=by
   rw [List.append_nil];exact e2.stp
  refine ⟨G2,ρ',fp',.sh d,[],S'.ext e2,Res.sh rx,(λ_ m=>by cases m),((aE.bind p2).stp st).mono fun ρ1 p1 σ3 F3 H3 fp3 S3 s3 _=>?_⟩
  have s4:=st.trans s3;refine ⟨F3,ρ1,fp3,S3,((aE.bind p1).stp s4).mono λo po=>?_⟩
  cases o with
  |nx ρ2=>exact fun σ5 F5 H5 fp5 S5 s5=>⟨F5,ρ2,fp5,S5,(s'.trans s4.ff).trans s5.ff,PostS.stp (s4.trans s5) po⟩
  |ct ρ2=>exact fun σ5 F5 H5 fp5 S5 s5=>⟨F5,ρ2,fp5,S5,(s'.trans s4.ff).trans s5.ff,PostS.stp (s4.trans s5) po⟩
  |bk ρ2=>exact fun σ5 F5 H5 fp5 S5 s5=>po σ5 F5 H5 fp5 S5 (s4.trans s5)
  |rt x=>exact λv F5 H5 fx a r s5=>po v F5 H5 fx a r (s4.trans s5)
 ·have e:i=ds.length:=by lia
  subst e;refine .inl ⟨w2 (Nat.le_refl _),?_⟩;rw [List.drop_length]at p';exact p' σ' F' H' fp' S' Stp.refl
end
end L3
namespace L3
open PySem L2
section
variable {M:Mx} {n:Nat} {F H F1 H1:Hp} {σ:St} {ρ:Env} {fp:List Addr} {D:Ends} {K:PySem.W.Frag}
theorem OwnS.nones {K:PySem.W.Frag}:∀(k:Nat) {σ:St} {ρ:Env} {g:List Addr},OwnS K F H σ ρ g->OwnS K F H (List.replicate k none++σ) (List.replicate k none++ρ) g
 |0,_,_,_,h=>h
 |k+1,_,_,_,h=>by
  rw [List.replicate_succ,List.replicate_succ];exact .no (OwnS.nones k h)
theorem OwnS.one (S:OwnS K F H σ ρ fp) (i:Nat):∃f,(∀a∈f,a∈fp)/\(fp.Nodup->f.Nodup)/\∀{σ':St} {ρ':Env} {g:List Addr},OwnS K F H σ' ρ' g->OwnS K F H ((σ[i]?).join :: σ') ((ρ[i]?).join :: ρ') (f++g):=by
 cases e:ρ[i]? with
 |none=>exact ⟨[],(λ_ m=>by cases m),λ_=>List.nodup_nil,λh=>.no h⟩
 |some o =>
  cases o with
  |none=>exact ⟨[],(λ_ m=>by cases m),λ_=>List.nodup_nil,λh=>.no h⟩
  |some x =>
   obtain ⟨v,f,g1,g2,h1,h2,rfl,h4⟩:=S.at e;refine ⟨f,λa m=>List.mem_append_right _ (List.mem_append_left _ m),λnd=>?_,λh=>?_⟩
   ·simp only [List.nodup_append]at nd
    exact nd.2.1.1
   ·rw [h1]
    exact .yes h2 h
noncomputable def shE (ρ:Env):Env:=ρ.map λo=>match o with
 |some (.sh d)=>some (.sh d)
 |_=>none
theorem OwnS.shE {σ:St} {ρ:Env} {g:List Addr} (S:OwnS K F H σ ρ g):OwnS K F H σ (L3.shE ρ) []:=by
 induction S with
 |nil=>exact .nil
 |no r ih=>exact .no ih
 |yes h r ih =>
  cases h with
  |sh h=>exact .yes (f:=[]) (.sh h) ih
  |ol _ _=>exact .no ih
  |ot _ _=>exact .no ih
  |od _ _ _=>exact .no ih
theorem OwnS.pick3:∀(is:List Nat) {σ:St} {ρ:Env},OwnS K F H σ ρ []->OwnS K F H (is.map λi=>(σ[i]?).join) (is.map λi=>(ρ[i]?).join) []
 |[],_,_,_=>.nil
 |i :: is,_,_,S=>by
  obtain ⟨f,h1,_,h3⟩:=S.one i;have hf:f=[]:=by
   cases f with
   |nil=>rfl
   |cons a f=>exact absurd (h1 a List.mem_cons_self) (by simp)
  subst hf;exact h3 (OwnS.pick3 is S)
theorem qj:∀(k:Nat) {σ0 σ2:St},σ2.length=k+σ0.length->(∀j,k<=j->σ2[j]?=(List.replicate k none++σ0)[j]?)->hV (List.replicate k none++σ0) σ2
 |0,σ0,σ2,hl,h=>by
  have e:σ2=σ0:=List.ext_getElem? λj=>by simpa using h j (Nat.zero_le _)
  subst e;show hV σ2 σ2
  clear h hl
  induction σ2 with
  |nil=>trivial
  |cons x r ih =>
   cases x with
   |none=>exact ih
   |some v=>exact ⟨rfl,ih⟩
 |k+1,σ0,[],hl,h=>by simp at hl;lia
 |k+1,σ0,x :: σ2,hl,h=>by
  rw [List.replicate_succ];refine qj k (by simp at hl;lia) λj hj=>?_
  have:=h (j+1) (by lia)
  simpa [List.replicate_succ]using this
theorem sV (ρ:Env):∀(is:List Nat),(is.map λi=>((shE ρ)[i]?).join)=is.map λi=>k6 ρ[i]?
 |[]=>rfl
 |i :: is=>by
  rw [List.map_cons,List.map_cons,sV ρ is];congr 1
  unfold shE;rw [List.getElem?_map];cases ρ[i]? with
  |none=>rfl
  |some o =>
   cases o with
   |none=>rfl
   |some x=>cases x <;> rfl
theorem Stt.block (S:Stt K n F H σ ρ fp) (k:Nat) (outs:List (Nat×Str)):Stt K (k+outs.length) F H (slots k outs σ) (sl3 k (outs.map (·.1)) ρ) []:=by
 refine ⟨S.same,?_,List.nodup_nil,(λ_ m=>by cases m),by unfold sl3;simp⟩
 have h:=OwnS.nones k (OwnS.pick3 (outs.map (·.1)) S.own.shE);rw [sV,List.map_map]at h;exact h
theorem pD {α:Type} {r:R α} {P:α->Prop} {β:Type} {g:α->R β} {PP:β->Prop} (p:aE M H fp PP ((pK r).bind g)):∃a,r=.ok a/\aE M H fp PP (g a):=by
 cases r with
 |ok a=>exact ⟨a,rfl,p⟩
 |ex c=>exact p.elim
 |bad=>exact p.elim
theorem vm {it:Fi} {g:Fg} {t:Ft} {el:Fe} {k:Nat} {is:List Nat} {outs:List (Nat×Str)} {Q:VK} (hk:∀j∈is,j<k) (h:tD M n (dr it g t el k (outs.map (·.1))) σ H Q) :
  sH (tI M n it) (tG M (k+outs.length) is g) (tT M (k+outs.length) t) (tD M (k+outs.length) el) k outs σ H Q:=by
 obtain ⟨F,ρ,fp,S,p⟩:=h;refine ⟨F,ρ,fp,S,(aE.bind p).mono λds pd J F1 H1 e1 wk D hD=>?_⟩
 have SB:=(S.ext e1).block k outs;have fD:F1 D=none:=e1.fh.free hD;refine ⟨λi m acc H'=>m=ds.length-i/\i<=ds.length/\∃F' xs fx,H' D=some (.lst acc)/\F' D=none/\Ext F1 H1 F' H'/\ResL M.K F' H' acc xs fx/\(∀a∈fx,H1 a=none/\a≠D) /\
  aE M H fp (OkE M F H Q) ((bV g t el (sl3 k (outs.map (·.1)) ρ) (ds.drop i) xs).bind λxs=>.ok (.ol xs)),⟨ds.length,by simp,Nat.zero_le _,F1,[],[],bB,fD,Ext.alloc e1.fh hD,ResL.nil,(λ_ m=>by cases m),pd⟩,?_⟩
 rintro i m acc H' ⟨rfl,hi,F',xs,fx,hacc,fD',e',rx,wx,p'⟩;have S':=SB.ext e';obtain ⟨w1,w2⟩:=wk i F' H' e'.ff e'.fh;by_cases hlt:i<ds.length
 ·obtain ⟨d,hd⟩:∃d,ds[i]?=some d:=⟨ds[i],by simp [hlt]⟩
  obtain ⟨g1,g2⟩:=w1 d hd;have e:ds.drop i=d :: ds.drop (i+1):=by
   rw [List.drop_eq_getElem_cons hlt];congr 1
   exact (List.getElem?_eq_some_iff.mp hd).2
  rw [e]at p';have p2:aE M H fp (OkE M F H Q) (((pK (g (.sh d) (sl3 k (outs.map (·.1)) ρ))).bind fun ρ1=>(pK (t ρ1)).bind λb=>if b=true then (pK (el ρ1)).bind λy=>if xs.length<BIG then bV g t el (sl3 k (outs.map (·.1)) ρ) (ds.drop (i+1)) (xs++[y]) else .bad else bV g t el (sl3 k (outs.map (·.1)) ρ) (ds.drop (i+1)) xs).bind λxs=>.ok (.ol xs)):=p'
  have assoc:∀{α β γ:Type} (r:R α) (f:α->R β) (h:β->R γ),(r.bind f).bind h=r.bind λa=>(f a).bind h:=λr f h=>by cases r <;> rfl
  rw [assoc]at p2;obtain ⟨ρ1,hρ1,p3⟩:=pD (P:=λ_=>True) p2
  rw [assoc]at p3;obtain ⟨b,hb,p4⟩:=pD (P:=λ_=>True) p3
  refine .inr ⟨g1,λacc' H2=>∃F2 xs2 fx2,H2 D=some (.lst acc')/\F2 D=none/\Ext F1 H1 F2 H2/\ResL M.K F2 H2 acc' xs2 fx2/\(∀a∈fx2,H1 a=none/\a≠D) /\
   aE M H fp (OkE M F H Q) ((bV g t el (sl3 k (outs.map (·.1)) ρ) (ds.drop (i+1)) xs2).bind λxs=>.ok (.ol xs)),λacc' H2 q=>⟨ds.length-(i+1),by lia,rfl,hlt,q⟩,λx H2 y=>?_⟩
  obtain ⟨G2,e2,rx2⟩:=g2 x H2 y;refine ⟨G2,sl3 k (outs.map (·.1)) ρ,[],.sh d,[],S'.ext e2,Res.sh rx2,(λ_ m=>by cases m),?_⟩
  rw [hρ1];intro σ3 F3 H3 fp3 S3 s3 t3;have e3:Ext G2 H2 F3 H3:=⟨s3.ff,λa o q=>s3.keep a o q (by simp),S3.same,λa q z=>s3.nw a q (by simp) z⟩
  refine ⟨qj k (by rw [S3.own.len,S3.len];simp) λj hj=>t3 j λz=>by have:=hk j z;lia,F3,ρ1,fp3,S3,?_⟩
  rw [hb];intro F4 H4 e4;have e24:Ext F' H' F4 H4:=(e2.trans e3).trans e4;cases b with
  |true =>
   rw [if_pos rfl]at p4 ⊢;rw [assoc]at p4;obtain ⟨y,hy,p5⟩:=pD (P:=λ_=>True) p4
   refine ⟨F4,ρ1,fp3,S3.ext e4,?_⟩;rw [hy];intro v F5 H5 fy e5 r5 w5;by_cases hl:xs.length<BIG
   ·rw [if_pos hl]at p5
    have e25:=e24.trans e5;have hD5:H5 D=some (.lst acc):=e25.hh _ _ hacc;have fD5:F5 D=none:=e25.nw D (cQ hacc) fD';have yD:∀a∈fy,a≠D:=λa m=>by
     rintro rfl;have:=e24.hh _ _ hacc;rw [w5 _ m]at this;cases this
    have rx5:=rx.ext e25;refine ⟨hD5,by rw [rx.own.len];exact pU hl,F5,xs++[y],fx++fy,bB,fD5,⟨e'.ff.trans e25.ff,λa o q=>?_,λa o q=>?_,λa q z=>e25.nw a (e'.hh.dom q) (e'.nw a q z)⟩,⟨?_,?_,?_⟩,?_,p5⟩
    ·rw [aL (aY q hD)]
     exact e25.hh _ _ (e'.hh _ _ q)
    ·rw [aL (aY q fD5)]
     exact e5.fh _ _ q
    ·have q1:OwnL M.K F5 (upd H5 D (.lst (acc++[v]))) acc xs fx:=rx5.own.mono (aP.refl _) λa m o q=>by
      rw [aL (wx a m).2];exact q
     have q2:Own M.K F5 (upd H5 D (.lst (acc++[v]))) v y fy:=r5.own.mono (aP.refl _) λa m o q=>by
      rw [aL (yD a m)];exact q
     have q3:=OwnL.app q1 (OwnL.cons q2 .nil);rw [List.append_nil]at q3;exact q3
    ·refine List.nodup_append.mpr ⟨rx.nd,r5.nd,λa m b m' z=>?_⟩
     subst z;obtain ⟨o,q⟩:=rx.own.dom a m;have:=e24.hh _ _ q;rw [w5 a m']at this;cases this
    ·intro a m
     rcases List.mem_append.mp m with m | m
     ·exact rx5.fr a m
     ·exact r5.fr a m
    ·intro a m
     rcases List.mem_append.mp m with m | m
     ·exact wx a m
     ·exact ⟨(e'.trans e24).hh.free (w5 a m),yD a m⟩
   ·rw [if_neg hl]at p5
    exact p5.elim
  |false =>
   rw [if_neg Bool.false_ne_true]at p4 ⊢;exact ⟨F4,xs,fx,e24.hh _ _ hacc,e24.nw D (cQ hacc) fD',e'.trans e24,rx.ext e24,wx,p4⟩
 ·have e:i=ds.length:=by lia
  subst e;rw [List.drop_length]at p';have q:OkE M F H Q (.ol xs):=p';refine .inl ⟨w2 (Nat.le_refl _),q (.ref D) F' H' (D :: fx) (e1.trans e') ⟨.ol hacc rx.own,List.nodup_cons.mpr ⟨λm=>(wx D m).2 rfl,rx.nd⟩,λa m=>?_⟩ λa m=>?_⟩
  ·rcases List.mem_cons.mp m with rfl | m
   ·exact fD'
   ·exact rx.fr a m
  ·rcases List.mem_cons.mp m with rfl | m
   ·exact e1.hh.free hD
   ·exact e1.hh.free (wx a m).1
theorem we {vs:List V} {xs:List OD} {f:List Addr} {G:Hp} (o:OwnL K F H vs xs f) (e:xs.all (λy=>flat y.er)=true):OwnL K G H1 vs (xs.map λy=>.sh y.er) []:=by
 induction xs generalizing vs f with
 |nil=>cases o;exact .nil
 |cons x r0 ih =>
 cases o with
 |cons h r =>
  rw [List.all_cons,Bool.and_eq_true]at e;rw [List.map_cons];refine .cons (f:=[]) (g:=[]) (.sh ?_) (ih r e.2);cases h with
  |sh q =>
   rw [eM]at e ⊢;exact qL e.1 q
  |ol _ _ =>
   rw [oj]at e;exact absurd e.1 (by simp [flat])
  |ot _ _ =>
   rw [zN]at e;exact absurd e.1 (by simp [flat])
  |od _ _ _ =>
   rw [HD]at e;exact absurd e.1 (by simp [flat,dD])
theorem x4 {fa:Fe} {Q:VK} (h:tD M n (qr fa) σ H Q):tD M n fa σ H Q:=by
 obtain ⟨F,ρ,fp,S,p⟩:=h;refine ⟨H,erase ρ,[],S.erase,(aE.bind p).nofp.mono λx px v F1 H1 fx e1 r1 w1=>?_⟩
 cases x with
 |sh d=>exact px.elim
 |ot xs=>exact px.elim
 |od xs=>exact px.elim
 |ol xs =>
  have px':aE M H fp (OkE M F H Q) (if xs.all (λy=>flat y.er)=true then .ok (.ol (xs.map λy=>.sh y.er)) else .bad):=px
  by_cases hf:xs.all (λy=>flat y.er)=true
  ·rw [if_pos hf]at px'
   obtain ⟨ro,rn,rf⟩:=r1;cases ro with
   |@ol a vs _ f h1 h2 =>
    have na:H a=none:=w1 a List.mem_cons_self;refine px' (.ref a) F H1 [a] ⟨aP.refl _,e1.hh,S.same.trans e1.hh,λ_ _ z=>z⟩ ⟨.ol h1 (we h2 hf),by simp,λb m=>?_⟩ λb m=>?_
    ·have:b=a:=by simpa using m
     rw [this];exact S.same.free na
    ·have:b=a:=by simpa using m
     rw [this];exact na
  ·rw [if_neg hf]at px'
   exact px'.elim
end
end L3
namespace L3
open PySem L2
section
variable {M:Mx} {n:Nat} {F H F1 H1:Hp} {σ:St} {ρ:Env} {fp:List Addr} {D:Ends} {K:PySem.W.Frag}
theorem jY {p f q f':List Addr} (h:(p++(f++q)).Nodup) (h':f'.Nodup) (s:∀c∈f',c∈f\/c∉p++(f++q)):(p++(f'++q)).Nodup:=by
 simp only [List.nodup_append,List.mem_append]at h s ⊢;obtain ⟨n1,⟨n2,n3,n4⟩,n5⟩:=h;refine ⟨n1,⟨h',n3,λa ha b hb e=>?_⟩,λa ha b hb e=>?_⟩
 ·subst e
  rcases s a ha with z | z
  ·exact n4 a z a hb rfl
  ·exact z (.inr (.inr hb))
 ·subst e
  rcases hb with hb | hb
  ·rcases s a hb with z | z
   ·exact n5 a ha a (.inl z) rfl
   ·exact z (.inl ha)
  ·exact n5 a ha a (.inr hb) rfl
theorem OwnL.at:∀{vs:List V} {xs:List OD} {g:List Addr} {i:Nat} {x:OD},OwnL K F H vs xs g->xs[i]?=some x ->
  ∃v f g1 g2,vs[i]?=some v/\Own K F H v x f/\g=g1++(f++g2)/\∀(F' H':Hp),aP F F'->(∀a∈g1++g2,∀o,H a=some o->H' a=some o)->∀v' x' f',Own K F' H' v' x' f'->OwnL K F' H' (vs.set i v') (xs.set i x') (g1++(f'++g2))
 |_,_,_,_,_,.nil,e=>by simp at e
 |_,_,_,0,x,.cons (f:=f) (g:=g) h r,e=>by
  simp at e
  subst e;exact ⟨_,f,[],g,rfl,h,rfl,λF' H' s k v' x' f' o=>OwnL.cons (f:=f') (g:=g) o (r.mono s k)⟩
 |_,_,_,i+1,x,.cons (f:=f0) h r,e=>by
  obtain ⟨v,f,g1,g2,h1,h2,h3,h4⟩:=OwnL.at (i:=i) r (by simpa using e)
  refine ⟨v,f,f0++g1,g2,by simpa using h1,h2,by rw [h3,List.append_assoc],λF' H' s k v' x' f' o=>?_⟩
  rw [List.append_assoc];exact .cons (h.mono s λa m=>k a (List.mem_append_left _ (List.mem_append_left _ m))) (h4 F' H' s (λa m=>k a (by simp at m ⊢;rcases m with m | m <;> simp [m])) v' x' f' o)
theorem mX {σ:St} {i:Nat} {v:V} (h1:σ[i]?=some (some v)):σ.set i (some v)=σ:=by
 apply List.ext_getElem?
 intro j;by_cases hj:i=j
 ·subst hj
  rw [h1,List.getElem?_set_self (List.getElem?_eq_some_iff.mp h1).1]
 ·rw [List.getElem?_set_ne hj]
theorem Stt.write (S:Stt K n F H σ ρ fp) {i:Nat} {xs:List OD} (hx:ρ[i]?=some (some (.ol xs))) :
  ∃a vs f,σ[i]?=some (some (.ref a))/\H a=some (.lst vs)/\OwnL K F H vs xs f/\f.Nodup/\(∀b∈f,F b=none) /\
   ∀F1 H1 vs' xs' f',Ext F H F1 H1->OwnL K F1 H1 vs' xs' f'->f'.Nodup->(∀b∈f',b∈f\/H b=none)->(∀b∈f',F1 b=none) ->
    ∃fp',Stt K n F1 (upd H1 a (.lst vs')) σ (ρ.set i (some (.ol xs'))) fp'/\Stp F H fp F1 (upd H1 a (.lst vs')) fp'/\(∀b∈fp',b∈fp\/b∈f'):=by
 obtain ⟨v,f0,g1,g2,h1,h2,rfl,h4⟩:=S.own.at hx;cases h2 with
 |@ol a vs _ f ha hv =>
  have nd:=S.nd;have nd':=nd;simp only [List.nodup_append,List.mem_append,List.cons_append,List.nodup_cons,List.mem_cons]at nd';obtain ⟨n1,⟨na,n2,n3,n4⟩,n5⟩:=nd';refine ⟨a,vs,f,h1,ha,hv,n2,λb m=>S.fr b (by simp [m]),λF1 H1 vs' xs' f' e o nf sub ff=>?_⟩
  have fa:F1 a=none:=e.nw a (cQ ha) (S.fr a (by simp))
  have hne:∀b∈f',b≠a:=λb m=>by
   rintro rfl;rcases sub b m with z | z
   ·exact na (.inl z)
   ·rw [ha]at z
    cases z
  have hs:∀c∈f',c∈f\/c∉(g1++[a])++(f++g2):=λc m=>by
   rcases sub c m with z | z
   ·exact .inl z
   ·refine .inr λw=>?_
    obtain ⟨o,q⟩:=S.own.dom c (by simp at w ⊢;exact w)
    rw [z]at q;cases q
  have nd2:=jY (p:=g1++[a]) (f:=f) (q:=g2) (f':=f') (by simpa using nd) nf hs
  have own:=h4 F1 (upd H1 a (.lst vs')) e.ff (λb m o q=>by
   have:b≠a:=by
    rintro rfl;rcases List.mem_append.mp m with m | m
    ·exact n5 b m b (.inl rfl) rfl
    ·exact na (.inr m)
   rw [aL this];exact e.hh _ _ q) (.ref a) (.ol xs') (a :: f') (.ol bB (o.mono (aP.refl _) λb m o q=>by rw [aL (hne b m)];exact q))
  rw [mX h1]at own;have frs:∀b∈g1++(a :: f++g2),F1 b=none:=λb m=>let ⟨_,q⟩:=S.own.dom b m;e.nw b (cQ q) (S.fr b m)
  refine ⟨g1++(a :: f'++g2),⟨?_,own,by simpa using nd2,λb m=>?_,by rw [List.length_set];exact S.len⟩,⟨e.ff,λb o q m=>?_,λb m=>?_,λb q m z=>e.nw b q z⟩,λb m=>?_⟩
  ·intro b o q
   rw [aL (aY q fa)];exact e.fh _ _ q
  ·simp only [List.mem_append,List.mem_cons]at m
   rcases m with m | (rfl | m) | m
   ·exact frs b (by simp [m])
   ·exact fa
   ·exact ff b m
   ·exact frs b (by simp [m])
  ·have:b≠a:=by
    rintro rfl;exact m (by simp)
   rw [aL this];exact e.hh _ _ q
  ·simp only [List.mem_append,List.mem_cons]at m ⊢
   rcases m with m | (m | m) | m
   ·exact .inl (.inl m)
   ·exact .inl (.inr (.inl (.inl m)))
   ·rcases sub b m with z | z
    ·exact .inl (.inr (.inl (.inr z)))
    ·exact .inr z
   ·exact .inl (.inr (.inr m))
  ·simp only [List.mem_append,List.mem_cons]at m ⊢
   rcases m with m | (m | m) | m <;> simp [m]
theorem OwnL.snoc {vs:List V} {xs:List OD} {f g:List Addr} {v:V} {y:OD} (h:OwnL K F H vs xs f) (o:Own K F H v y g):OwnL K F H (vs++[v]) (xs++[y]) (f++g):=by
 have:=OwnL.app h (OwnL.cons o .nil);rw [List.append_nil]at this;exact this
theorem ET {i:Nat} {a:Fe} (h:tS M n (ji i a) D σ H):oH (tBM M.K "list" pF (jJ i) (lK (tD M n a) rC)) D σ H:=by
 obtain ⟨F,ρ,fp,S,p⟩:=h;unfold ji at p;split at p
 ·rename_i xs e
  obtain ⟨l,vs,f,h1,h2,h3,nf,ff,wr⟩:=S.write e;refine ⟨_,h1,.inl ⟨rfl,vs,SqL.of h2⟩,F,ρ,fp,S,(aE.bind p).mono λy py v F1 H1 fy e1 r1 w1=>?_⟩
  by_cases hl:xs.length<BIG
  ·rw [if_pos hl]at py
   refine ⟨l,vs,v,rfl,rfl,e1.hh _ _ h2,by rw [h3.len];exact pU hl,?_⟩
   have o:OwnL M.K F1 H1 (vs++[v]) (xs++[y]) (f++fy):=(h3.mono e1.ff λb _ o q=>e1.hh _ _ q).snoc r1.own
   obtain ⟨fp',S',st,_⟩:=wr F1 H1 _ _ _ e1 o (List.nodup_append.mpr ⟨nf,r1.nd,λb m c m' z=>by
    subst z;obtain ⟨o,q⟩:=h3.dom b m;rw [w1 b m']at q;cases q⟩) (λb m=>(List.mem_append.mp m).elim .inl λm=>.inr (w1 b m)) (λb m=>(List.mem_append.mp m).elim (λm=>let ⟨_,q⟩:=h3.dom b m;e1.nw b (cQ q) (ff b m)) (r1.fr b))
   exact py σ F1 _ fp' S' st
  ·rw [if_neg hl]at py
   exact py.elim
 ·exact p.elim
theorem CT {k:Nat} {q:Int} {j:Nat} (h:ixN k q=some j):j<k:=by
 unfold ixN at h;split at h
 ·split at h
  ·cases h
   lia
  ·cases h
 ·split at h
  ·cases h
   lia
  ·cases h
theorem Hw {i:Nat} {a k:Fe} (h:tS M n (pS i k a) D σ H):uI (tD M n a) (Fd (jJ i) (tD M n k) Ak) D σ H:=by
 obtain ⟨F,ρ,fp,S,p⟩:=h;unfold pS at p;split at p
 ·rename_i xs e
  refine ⟨F,ρ,fp,S,(aE.bind p).mono λy py v F1 H1 fy e1 r1 w1=>?_⟩
  obtain ⟨l,vs,f,h1,h2,h3,nf,ff,wr⟩:=S.write e;refine ⟨_,h1,F1,ρ,fp,S.ext e1,((aE.bind py).ext e1).mono λz pz u F2 H2 fz e2 r2 w2=>?_⟩
  obtain ⟨G2,d2,k2⟩:=r2.frz e2 w2;generalize z.er=dz at pz k2
  cases dz with
  |int q =>
   cases k2;have pz':aE M H fp (ig M n F H fp D) (match ixN xs.length q with | some j=>.ok (.nx (ρ.set i (some (.ol (xs.set j y))))) | none=>.bad):=pz
   cases hj:ixN xs.length q with
   |none =>
    rw [hj]at pz';exact pz'.elim
   |some j =>
    rw [hj]at pz';have e12:=e1.trans d2;have hjl:=CT hj;refine ⟨l,vs,q,j,rfl,rfl,e12.hh _ _ h2,by rw [h3.len];exact hj,?_⟩
    obtain ⟨x,hx⟩:∃x,xs[j]?=some x:=⟨xs[j],by simp [hjl]⟩
    obtain ⟨v0,f0,g1,g2,b1,b2,b3,b4⟩:=h3.at hx;subst b3;have o:=b4 G2 H2 e12.ff (λb m o q=>e12.hh _ _ q) v y fy (r1.ext d2).own
    have sub:∀b∈g1++(fy++g2),b∈g1++(f0++g2)\/H b=none:=λb m=>by
     simp only [List.mem_append]at m ⊢;rcases m with m | m | m
     ·exact .inl (.inl m)
     ·exact .inr (w1 b m)
     ·exact .inl (.inr (.inr m))
    obtain ⟨fp',S',st,_⟩:=wr G2 H2 _ _ _ e12 o (jY nf r1.nd λc m=>.inr λw=>by
     obtain ⟨o,q⟩:=h3.dom c w;rw [w1 c m]at q;cases q) sub (λb m=>by
      simp only [List.mem_append]at m;rcases m with m | m | m
      ·exact let ⟨_,q⟩:=h3.dom b (by simp [m]);e12.nw b (cQ q) (ff b (by simp [m]))
      ·exact (r1.ext d2).fr b m
      ·exact let ⟨_,q⟩:=h3.dom b (by simp [m]);e12.nw b (cQ q) (ff b (by simp [m])))
    exact pz' σ G2 _ fp' S' st
  |none=>exact pz.elim
  |bool _=>exact pz.elim
  |str _=>exact pz.elim
  |list _=>exact pz.elim
  |tuple _=>exact pz.elim
  |dict _=>exact pz.elim
 ·exact p.elim
theorem Stt.write2 (S:Stt K n F H σ ρ fp) {i:Nat} {o:OD} {l:Bool} {xs:List OD} {j:Nat} {ys:List OD} (hx:ρ[i]?=some (some o)) (hc:comps o=some (l,xs)) (hj:xs[j]?=some (.ol ys)) :
  ∃a vs b ws f,σ[i]?=some (some (.ref a))/\H a=some (if l=true then .lst vs else .tup vs)/\vs.length=xs.length/\vs[j]?=some (.ref b)/\H b=some (.lst ws)/\OwnL K F H ws ys f/\f.Nodup/\(∀c∈f,F c=none) /\
   ∀F1 H1 ws' ys' f',Ext F H F1 H1->OwnL K F1 H1 ws' ys' f'->f'.Nodup->(∀c∈f',c∈f\/H c=none)->(∀c∈f',F1 c=none) ->
    ∃fp',Stt K n F1 (upd H1 b (.lst ws')) σ (ρ.set i (some (wrap l (xs.set j (.ol ys'))))) fp'/\Stp F H fp F1 (upd H1 b (.lst ws')) fp':=by
 obtain ⟨v,f0,g1,g2,h1,h2,rfl,h4⟩:=S.own.at hx;obtain ⟨a,vs,g,ha,hv,rfl,rfl,mk⟩:∃a vs g,H a=some (if l=true then .lst vs else .tup vs)/\OwnL K F H vs xs g/\v=.ref a/\f0=a :: g/\∀F' H' vs' xs' g',H' a=some (if l=true then .lst vs' else .tup vs')->OwnL K F' H' vs' xs' g'->Own K F' H' (.ref a) (wrap l xs') (a :: g'):=by
  cases h2 with
  |sh r =>
   cases hc
  |od _ _ _ =>
   cases hc
  |@ol a vs _ g ha hv =>
   cases hc;exact ⟨a,vs,g,ha,hv,rfl,rfl,λF' H' vs' xs' g' q r=>.ol q r⟩
  |@ot a vs _ g ha hv =>
   cases hc;exact ⟨a,vs,g,ha,hv,rfl,rfl,λF' H' vs' xs' g' q r=>.ot q r⟩
 obtain ⟨u,f1,k1,k2,b1,b2,b3,b4⟩:=hv.at hj;cases b2 with
 |@ol b ws _ f hb hw =>
  subst b3;have nd:((g1++(a :: (k1++[b])))++(f++(k2++g2))).Nodup:=by simpa using S.nd
  have nd':=nd;simp only [List.nodup_append,List.mem_append,List.cons_append,List.nodup_cons,List.mem_cons,List.append_assoc,List.nil_append,List.not_mem_nil,or_false]at nd';have inL:∀c,c∈(g1++(a :: (k1++[b])))++(f++(k2++g2)) ↔ c∈g1++(a :: (k1++(b :: f++k2))++g2):=λc=>by simp
  refine ⟨a,vs,b,ws,f,h1,ha,hv.len,b1,hb,hw,?_,λc m=>S.fr c (by simp [m]),λF1 H1 ws' ys' f' e o nf sub ff=>?_⟩
  ·simp only [List.nodup_append]at nd
   exact nd.2.1.1
  have hs:∀c∈f',c∈f\/c∉(g1++(a :: (k1++[b])))++(f++(k2++g2)):=λc m=>by
   rcases sub c m with z | z
   ·exact .inl z
   ·refine .inr λw=>?_
    obtain ⟨o,q⟩:=S.own.dom c ((inL c).mp w);rw [z]at q;cases q
  have nd2:=jY nd nf hs;have eq2:(g1++(a :: (k1++[b])))++(f'++(k2++g2))=g1++(a :: (k1++(b :: f'++k2))++g2):=by simp
  have frs:∀c∈g1++(a :: (k1++(b :: f++k2))++g2),F1 c=none:=λc m=>let ⟨_,q⟩:=S.own.dom c m;e.nw c (cQ q) (S.fr c m)
  have fb:F1 b=none:=frs b (by simp)
  have nb:∀c,c∈g1\/c=a\/c∈k1\/c∈f'\/c∈k2\/c∈g2->c≠b:=λc hc=>by
   rintro rfl;have nd3:=nd2;simp only [List.append_assoc,List.cons_append,List.nil_append]at nd3;have q:(g1++a :: (k1++c :: (f'++(k2++g2))))=(g1++a :: k1)++c :: (f'++(k2++g2)):=by simp
   rw [q,List.nodup_append]at nd3;obtain ⟨_,y2,y3⟩:=nd3;rw [List.nodup_cons]at y2;have y4:∀d,d∈g1++a :: k1->d≠c:=λd hd z=>y3 d hd d (by rw [z];exact List.mem_cons_self) rfl
   rcases hc with h | h | h | h | h | h
   ·exact y4 c (by simp [h]) rfl
   ·exact y4 a (by simp) h.symm
   ·exact y4 c (by simp [h]) rfl
   ·exact y2.1 (by simp [h])
   ·exact y2.1 (by simp [h])
   ·exact y2.1 (by simp [h])
  have hkeep:∀c o,c≠b->H c=some o->upd H1 b (.lst ws') c=some o:=λc o hc q=>by
   rw [aL hc];exact e.hh _ _ q
  have o1:Own K F1 (upd H1 b (.lst ws')) (.ref b) (.ol ys') (b :: f'):=.ol bB (o.mono (aP.refl _) λc m o q=>by rw [aL (nb c (by simp [m]))];exact q)
  have o2:=b4 F1 (upd H1 b (.lst ws')) e.ff (λc m o q=>hkeep c o (nb c (by simp only [List.mem_append]at m;rcases m with m | m <;> simp [m])) q) _ _ _ o1
  have vb:vs.set j (.ref b)=vs:=by
   apply List.ext_getElem?
   intro t;by_cases ht:j=t
   ·subst ht
    rw [b1,List.getElem?_set_self (List.getElem?_eq_some_iff.mp b1).1]
   ·rw [List.getElem?_set_ne ht]
  rw [vb]at o2;have o3:=mk F1 (upd H1 b (.lst ws')) vs _ _ (hkeep a _ (nb a (by simp)) ha) o2
  have own:=h4 F1 (upd H1 b (.lst ws')) e.ff (λc m o q=>hkeep c o (nb c (by simp only [List.mem_append]at m;rcases m with m | m <;> simp [m])) q) _ _ _ o3
  rw [mX h1]at own;refine ⟨_,⟨?_,own,by rw [<-eq2];exact nd2,λc m=>?_,by rw [List.length_set];exact S.len⟩,⟨e.ff,λc o q m=>?_,λc m=>?_,λc q m z=>e.nw c q z⟩⟩
  ·intro c o q
   rw [aL (aY q fb)];exact e.fh _ _ q
  ·simp only [List.mem_append,List.mem_cons]at m
   rcases m with m | (m | m | (m | m) | m) | m
   ·exact frs c (by simp [m])
   ·exact frs c (by simp [m])
   ·exact frs c (by simp [m])
   ·exact frs c (by simp [m])
   ·exact ff c m
   ·exact frs c (by simp [m])
   ·exact frs c (by simp [m])
  ·have:c≠b:=by
    rintro rfl;exact m (by simp)
   exact hkeep c o this q
  ·simp only [List.mem_append,List.mem_cons]at m ⊢
   rcases m with m | (m | m | (m | m) | m) | m
   ·simp [m]
   ·simp [m]
   ·simp [m]
   ·simp [m]
   ·rcases sub c m with z | z
    ·simp [z]
    ·exact .inr z
   ·simp [m]
   ·simp [m]
theorem yM {i:Nat} {k a:Fe} (h:tS M n (kZ i k a) D σ H):oH (tBM M.K "list" pF (tOp (qY M.K) (jJ i) (tD M n k)) (lK (tD M n a) rC)) D σ H:=by
 obtain ⟨F,ρ,fp,S,p⟩:=h;unfold kZ at p;split at p
 ·rename_i xs e
  have hc:comps (.ol xs)=some (true,xs):=rfl;obtain ⟨v0,_,_,_,h0,own0,_,_⟩:=S.own.at e;refine ⟨v0,h0,F,ρ,fp,S,(aE.bind p).mono λz pz u F1 H1 fz e1 r1 w1=>?_⟩
  obtain ⟨G1,d1,k1⟩:=r1.frz e1 w1;generalize z.er=dz at pz k1
  cases dz with
  |int q =>
   cases k1;have pz':aE M H fp (ig M n F H fp D) (match ixN xs.length q with
    |some j=>match xs[j]? with
     |some (.ol ys)=>(a ρ).bind λy=>if ys.length<BIG then .ok (.nx (ρ.set i (some (.ol (xs.set j (.ol (ys++[y]))))))) else .bad
     |_=>.bad
    |none=>.bad):=pz
   cases hj:ixN xs.length q with
   |none =>
    rw [hj]at pz';exact pz'.elim
   |some j =>
    rw [hj]at pz';have pz2:aE M H fp (ig M n F H fp D) (match xs[j]? with
     |some (.ol ys)=>(a ρ).bind λy=>if ys.length<BIG then .ok (.nx (ρ.set i (some (.ol (xs.set j (.ol (ys++[y]))))))) else .bad
     |_=>.bad):=pz'
    split at pz2
    ·rename_i ys hy
     obtain ⟨b0,vs,b,ws,f,h1,ha,hl,hb1,hb,hw,nf,ff,wr⟩:=(S.ext d1).write2 e hc hy;rw [h0]at h1;cases h1;have at1:atI vs q=some (.ref b):=by
      unfold atI;rw [hl,hj];exact hb1
     refine ⟨b0,vs,q,.ref b,rfl,rfl,SqL.of ha,at1,.inl ⟨rfl,ws,SqL.of hb⟩,G1,ρ,fp,S.ext d1,((aE.bind pz2).ext d1).mono λy py v F2 H2 fy e2 r2 w2=>?_⟩
     by_cases hlt:ys.length<BIG
     ·rw [if_pos hlt]at py
      refine ⟨b,ws,v,rfl,rfl,e2.hh _ _ hb,by rw [hw.len];exact pU hlt,?_⟩
      have o:OwnL M.K F2 H2 (ws++[v]) (ys++[y]) (f++fy):=(hw.mono e2.ff λc _ o q=>e2.hh _ _ q).snoc r2.own
      obtain ⟨fp',S',st⟩:=wr F2 H2 _ _ _ e2 o (List.nodup_append.mpr ⟨nf,r2.nd,λc m d m' z=>by
       subst z;obtain ⟨o,q⟩:=hw.dom c m;rw [w2 c m']at q;cases q⟩) (λc m=>(List.mem_append.mp m).elim .inl λm=>.inr (w2 c m)) (λc m=>(List.mem_append.mp m).elim (λm=>let ⟨_,q⟩:=hw.dom c m;e2.nw c (cQ q) (ff c m)) (r2.fr c))
      exact py σ F2 _ fp' S' (d1.stp.trans st)
     ·rw [if_neg hlt]at py
      exact py.elim
    ·exact pz2.elim
  |none=>exact pz.elim
  |bool _=>exact pz.elim
  |str _=>exact pz.elim
  |list _=>exact pz.elim
  |tuple _=>exact pz.elim
  |dict _=>exact pz.elim
 ·exact p.elim
end
end L3
namespace L3
open PySem L2 PySem.Spec PyProof.Rows
noncomputable def DE (M:Mx) (X:Cx) (e:Expr) (f:Fe):Prop:=X.K=M.K->X.mg=M.mg->PE X e (tD M X.N.length f)
noncomputable def DT (M:Mx) (X:Cx) (e:Expr) (f:Ft):Prop:=X.K=M.K->X.mg=M.mg->PT X e (tT M X.N.length f)
noncomputable def DW (M:Mx) (X:Cx) (e:Expr) (f:Ft):Prop:=X.K=M.K->X.mg=M.mg->PW X e (tT M X.N.length f)
noncomputable def DA (M:Mx) (X:Cx) (e:List Expr) (f:Fa):Prop:=X.K=M.K->X.mg=M.mg->PA X e (tA M X.N.length f)
noncomputable def DO (M:Mx) (X:Cx) (e:Option Expr) (f:Fo):Prop:=X.K=M.K->X.mg=M.mg->PO X e (tO M X.N.length f)
noncomputable def DI (M:Mx) (X:Cx) (tg e:Expr) (f:Fi):Prop:=X.K=M.K->X.mg=M.mg->PI X tg e (tI M X.N.length f)
noncomputable def DG (M:Mx) (X:Cx) (tg:Expr) (is:List Nat) (f:Fg):Prop:=X.K=M.K->X.mg=M.mg->PG X tg (tG M X.N.length is f)
noncomputable def DGs (M:Mx) (X:Cx) (tg:List Expr) (is:List Nat) (f:Fgs):Prop:=X.K=M.K->X.mg=M.mg->PGs X tg (tGs M X.N.length is f)
noncomputable def DF (M:Mx) (X:Cx) (e:List Expr) (f:Ft):Prop:=X.K=M.K->X.mg=M.mg->PF X e (tT M X.N.length f)
noncomputable def DS (M:Mx) (X:Cx) (st:Stmt) (f:Fs):Prop:=X.K=M.K->X.mg=M.mg->PS X st (tS M X.N.length f)
noncomputable def DSs (M:Mx) (X:Cx) (st:List Stmt) (f:Fs):Prop:=X.K=M.K->X.mg=M.mg->PSs X st (tS M X.N.length f)
section
variable {M:Mx} {X:Cx} {e a b c:Expr} {es:List Expr} {pos:Pos} {fa fb:Fe} {ta tb:Ft} {al:Fa}
theorem peI {t t':TE} (h:PE X e t) (k:∀σ H Q,t' σ H Q->t σ H Q):PE X e t':=λpins s σ H Q I q=>h pins s σ H Q I (k σ H Q q)
theorem ptI {t t':TT} (h:PT X e t) (k:∀σ H Q,t' σ H Q->t σ H Q):PT X e t':=λpins s σ H Q I q=>h pins s σ H Q I (k σ H Q q)
theorem pwI {t t':TT} (h:PW X e t) (k:∀σ H Q,t' σ H Q->t σ H Q):PW X e t':=λw pins s σ H Q I q=>h w pins s σ H Q I (k σ H Q q)
theorem paI {t t':TA} (h:PA X es t) (k:∀σ H Q,t' σ H Q->t σ H Q):PA X es t':=λps pins s σ H Q I q=>h ps pins s σ H Q I (k σ H Q q)
theorem poI {o:Option Expr} {t t':TO} (h:PO X o t) (k:∀σ H Q,t' σ H Q->t σ H Q):PO X o t':=λpins s σ H Q I q=>h pins s σ H Q I (k σ H Q q)
theorem psI {st:Stmt} {t t':TS} (h:PS X st t) (k:∀D σ H,t' D σ H->t D σ H):PS X st t':=λpins s σ H D I q=>h pins s σ H D I (k D σ H q)
theorem Ho {st:List Stmt} {t t':TS} (h:PSs X st t) (k:∀D σ H,t' D σ H->t D σ H):PSs X st t':=λpins s σ H D I q=>h pins s σ H D I (k D σ H q)
theorem aa (i:Nat) {x:Str} (hN:X.N[i]?=some x:=by rfl) (hv:Vis X.env.scope x:=by first | exact Or.inl rfl | exact Or.inr (Or.inl rfl) | exact Or.inr (Or.inr rfl)) (hd:(x == ("__debug__" : Str))=false:=by decide)
  (hcd:(x == ("__classdict__" : Str))=false:=by decide):DE M X (.Name x pos) (ae i):=λ_ _=>peI (gm hN hv hd hcd) λ_ _ _ h=>E_ h
theorem ah {i:Int} {j}:DE M X (.Constant (.int i) j pos) (eC (.int i)):=λ_ _=>peI BR λ_ _ _ h=>d_c (λ_ _=>.int i) h
theorem ee {i:Bool} {j}:DE M X (.Constant (.bool i) j pos) (eC (.bool i)):=λ_ _=>peI GS λ_ _ _ h=>d_c (λ_ _=>.bl i) h
theorem vo {x:Str} {j}:DE M X (.Constant (.str x) j pos) (eC (.str x)):=λ_ _=>peI Dd λ_ _ _ h=>d_c (λ_ _=>.str x) h
theorem dX {x:Str} {i:Int} (hg:Gl X x) (hm:∃t,X.mg x=some (.int i t)) (hd:(x == ("__debug__" : Str))=false:=by decide):DE M X (.Name x pos) (eC (.int i)):=λ_ _ =>
 let ⟨t,e⟩:=hm
 peI (yC (v:=.int i) hg e ⟨t,rfl⟩ hd) λ_ _ _ h=>d_c (λ_ _=>.int i) h
theorem cS (h:DE M X e fa):DE M X e (eSh fa):=λhK hM=>peI (h hK hM) λ_ _ _ q=>nY q
theorem k9 (h:DE M X e fa):DE M X e (p8 fa):=λhK hM=>peI (h hK hM) λ_ _ _ q=>GO q
theorem CV (h:DT M X e ta):DT M X e (yZ ta):=λhK hM=>ptI (h hK hM) λ_ _ _ q=>CS q
theorem ay {op:Operator} {r:R2} {g:PyData->PyData->R OD} (ho:OpR X (binaryOp op) r) (hg:X.K=M.K->Ok2 M r g) (ha:DE M X a fa) (hb:DE M X b fb):DE M X (.BinOp a op b pos) (eOp g fa fb):=λhK hM =>
 peI (Hc ho (ha hK hM) (hb hK hM)) λ_ _ _ q=>zE (hg hK) q
theorem hG {op:UnaryOp} {r:V->Hp->VK->Prop} {g:PyData->R OD} (ho:UnR X (unaryOp op) r) (hg:X.K=M.K->Ok1 M r g) (ha:DE M X a fa):DE M X (.UnaryOp op a pos) (eUn g fa):=λhK hM =>
 peI (Gu ho (ha hK hM)) λ_ _ _ q=>Io (hg hK) q
theorem eR {op:CmpOp} {r:R2} {g:PyData->PyData->R OD} (ho:OpR X (compareOp op) r) (hg:X.K=M.K->Ok2 M r g) (ha:DE M X a fa) (hb:DE M X b fb) (hm:behindInMarks op b=false):DE M X (.Compare a [op] [b] pos) (eOp g fa fb):=λhK hM =>
 peI (yf ho (ha hK hM) (hb hK hM) hm) λ_ _ _ q=>zE (hg hK) q
theorem b5 {op:CmpOp} {r:R2} {g:PyData->PyData->R OD} (ho:OpR X (compareOp op) r) (hg:X.K=M.K->Ok2 M r g) (ha:DE M X a fa) (hb:DE M X b fb) (hm:behindInMarks op b=false):DT M X (.Compare a [op] [b] pos) (aW (eOp g fa fb)):=λhK hM =>
 ptI (zq ho (ha hK hM) (hb hK hM) hm) fun σ H Q q=>by
  obtain ⟨F,ρ,fp,S,p⟩:=vC q;exact zE (hg hK) ⟨F,ρ,fp,S,p⟩
theorem dh (h:DE M X e fa) (he:∀whole,isTrue e X.env whole=(do let v <-whole;standAt e.pos;holding [v] (truthy v)):=by intro _;rfl):DT M X e (aW fa):=λhK hM=>ptI (BZ (h hK hM) he) λ_ _ _ q=>d_b q
theorem fK (h:DT M X a ta):DT M X (.UnaryOp .Not a pos) (gE ta):=λhK hM=>ptI (Bp (h hK hM)) λ_ _ _ q=>CU q
theorem tZ (h:DT M X a ta):DW M X (.BoolOp .And [a] pos) ta:=λhK hM=>zF (h hK hM)
theorem ip (h:DT M X a ta):DW M X (.BoolOp .Or [a] pos) ta:=λhK hM=>BG (h hK hM)
theorem q_ {rest:List Expr} (h:DT M X a ta) (k:DW M X (.BoolOp .And (b :: rest) pos) tb):DW M X (.BoolOp .And (a :: b :: rest) pos) (mM ta tb):=λhK hM=>pwI (BD (h hK hM) (k hK hM)) λ_ _ _ q=>AJ q
theorem jO {rest:List Expr} (h:DT M X a ta) (k:DW M X (.BoolOp .Or (b :: rest) pos) tb):DW M X (.BoolOp .Or (a :: b :: rest) pos) (kg ta tb):=λhK hM=>pwI (Eg (h hK hM) (k hK hM)) λ_ _ _ q=>Hx q
theorem lU (h:DW M X e ta):DT M X e ta:=λhK hM=>(h hK hM).pt
theorem kU {op} (h:DE M X a fa):DE M X (.BoolOp op [a] pos) fa:=λhK hM=>Bc (h hK hM)
theorem nh {rest:List Expr} (h:DE M X a fa) (k:DE M X (.BoolOp .And (b :: rest) pos) fb):DE M X (.BoolOp .And (a :: b :: rest) pos) (pV fa fb):=λhK hM=>peI (BJ (h hK hM) (k hK hM)) λ_ _ _ q=>G5 q
theorem vi {rest:List Expr} (h:DE M X a fa) (k:DE M X (.BoolOp .Or (b :: rest) pos) fb):DE M X (.BoolOp .Or (a :: b :: rest) pos) (eOr fa fb):=λhK hM=>peI (GG (h hK hM) (k hK hM)) λ_ _ _ q=>Ih q
theorem Du (h:DE M X a fa):DE M X (.UnaryOp .Not a pos) (wV fa):=λhK hM=>peI (BI (h hK hM)) λ_ _ _ q=>Ek q
theorem Ag (h:DT M X c ta) (ha:DE M X a fa) (hb:DE M X b fb):DE M X (.IfExp c a b pos) (eIf ta fa fb):=λhK hM=>peI (vP (h hK hM) (ha hK hM) (hb hK hM)) λ_ _ _ q=>Ic q
theorem aj:DA M X [] av:=λ_ _=>paI pN λ_ _ _ q=>A0 q
theorem ab (h:DE M X e fa) (r:DA M X es al) (hs:starEach (e :: es) X.env=(false,eval e X.env) :: starEach es X.env:=by rfl):DA M X (e :: es) (af fa al):=λhK hM=>paI (ko (h hK hM) (r hK hM) hs) λ_ _ _ q=>yj q
theorem dw {x1} (h:DA M X es al):DE M X (.Tuple es x1 pos) (gk al):=λhK hM=>peI (Bh (h hK hM)) λ_ _ _ q=>EV q
theorem cT (h:DA M X es al):DE M X (.List es pos) (fJ al):=λhK hM=>peI (Az (h hK hM)) λ_ _ _ q=>GI q
theorem jC:DO M X none ki:=λ_ _=>poI yW λ_ _ _ q=>zy q
theorem jE (h:DE M X e fa):DO M X (some e) (jS fa):=λhK hM=>poI (yd (h hK hM)) λ_ _ _ q=>zh q
theorem oM {r:V->Option Int->Option Int->Hp->VK->Prop} {g:PyData->Option Int->Option Int->R OD} {lo hi:Option Expr} {fl fh:Fo} {p2:Pos} (hr:SlR X r) (hg:X.K=M.K->OkS M r g) (h:DE M X e fa) (hl:DO M X lo fl) (hh:DO M X hi fh) :
  DE M X (.Subscript e (.Slice lo hi none p2) pos) (eSl g fa fl fh):=λhK hM=>peI (vT hr (h hK hM) (hl hK hM) (hh hK hM)) λ_ _ _ q=>HR (hg hK) q
theorem au {r:R2} {g:PyData->PyData->R OD} (hr:IxR X r) (hg:X.K=M.K->Ok2 M r g) (ha:DE M X a fa) (hb:DE M X b fb) (hs:me b):DE M X (.Subscript a b pos) (eOp g fa fb):=λhK hM =>
 peI (t5 hr (ha hK hM) (hb hK hM) hs) λ_ _ _ q=>zE (hg hK) q
theorem a_ {id:String} {x:Str} {p:Pos} {r:List V->Hp->VK->Prop} {g:List PyData->R OD} (hc:fu X (.builtin id) r) (ho:X.K=M.K->OkC M r g) (hg:Gl X x) (hm:X.mg x=none) (hv:bootBuiltins x=some (.builtin id)) (ha:DA M X (e :: es) al)
  (hn:x ≠ "__name__" := by decide) (hdb:(x == ("__debug__" : Str))=false:=by decide) (he:starEach (e :: es) X.env=(false,eval e X.env) :: starEach es X.env:=by rfl) (hpl:(backTo pos (starEach es X.env)).any (·.1)=false:=by rfl) :
  DE M X (.Call (.Name x p) (e :: es) [] pos) (eB g al):=λhK hM=>peI (qg hc hg hm hv (ha hK hM) hn hdb he hpl) λ_ _ _ q=>Hu (ho hK) q
theorem EE {T:String} {x:Str} {p:Pos} {r:List V->Hp->VK->Prop} {g:List PyData->R OD} (hc:fu X (.type T) r) (ho:X.K=M.K->OkC M r g) (hg:Gl X x) (hm:X.mg x=none) (hv:bootBuiltins x=some (.type T)) (ha:DA M X (e :: es) al)
  (hn:x ≠ "__name__" := by decide) (hdb:(x == ("__debug__" : Str))=false:=by decide) (he:starEach (e :: es) X.env=(false,eval e X.env) :: starEach es X.env:=by rfl) (hpl:(backTo pos (starEach es X.env)).any (·.1)=false:=by rfl) :
  DE M X (.Call (.Name x p) (e :: es) [] pos) (eB g al):=λhK hM=>peI (uV hc hg hm hv (ha hK hM) hn hdb he hpl) λ_ _ _ q=>Hu (ho hK) q
theorem az {CX:CXT} {k:Nat} {f:Addr} {fd:FuncData} {ps:List Str} {x:Str} {p:Pos} {fn:Fn} (F:FnOk X.prog X.w M.K M.mg X.base CX k f fd ps (sp3 M.K M.mg fn)) (hr:Room k X.A) (hg:Gl X x) (hm:M.mg x=some (.ref f)) (hk:PySem.W.keepIn M.K (.ref f)=true)
  (hb:Binds M.K fd ps []) (hx:Passes CX X M.E) (ha:DA M X (e :: es) al)
  (hdb:(x == ("__debug__" : Str))=false:=by decide) (he:starEach (e :: es) X.env=(false,eval e X.env) :: starEach es X.env:=by rfl) (hpl:(backTo pos (starEach es X.env)).any (·.1)=false:=by rfl) :
  DE M X (.Call (.Name x p) (e :: es) [] pos) (aM fn al):=λhK hM=>by
 have F':FnOk X.prog X.w X.K X.mg X.base CX k f fd ps (sp3 M.K M.mg fn):=by
  rw [hK,hM];exact F
 exact peI (zb F' hr hg (by rw [hM];exact hm) (by rw [hK];exact hk) (by rw [hK];exact hb) .nil hx (ha hK hM) hdb he hpl) λ_ _ _ q=>AA q
theorem cP {tg:Expr} (h:DE M X e fa):DI M X tg e (gS fa):=λhK hM=>by
 have q:=sG (tg:=tg) (h hK hM);rw [hK]at q;exact λpins s σ H R' I z=>q pins s σ H R' I (BB z)
theorem wC {tg:Expr} (h:DE M X e fa):DI M X tg e (iTp fa):=λhK hM=>by
 have q:=DD (tg:=tg) (h hK hM);rw [hK]at q;exact λpins s σ H R' I z=>q pins s σ H R' I (F9 z)
theorem iZ {tg:Expr} {p:Pos} (hg:Gl X "range") (hm:X.mg "range" = none) (h:DE M X a fa) (hs1:starEach [a] X.env=(false,eval a X.env) :: starEach [] X.env:=by rfl) (hs:starEach [a] X.env=[(false,eval a X.env)]:=by rfl):DI M X tg (.Call (.Name "range" p) [a] [] pos) (iR1 fa):=λhK hM =>
 λpins s σ H R' I z=>uz hg hm ((ab h aj hs1) hK hM) hs pins s σ H R' I (HI z)
theorem ou {tg:Expr} {p:Pos} (hg:Gl X "range") (hm:X.mg "range" = none) (h:DE M X a fa) (k:DE M X b fb) (hs1:starEach [a,b] X.env=(false,eval a X.env) :: starEach [b] X.env:=by rfl) (hs0:starEach [b] X.env=(false,eval b X.env) :: starEach [] X.env:=by rfl)
  (hs:starEach [a,b] X.env=[(false,eval a X.env),(false,eval b X.env)]:=by rfl) (hs2:starEach [b] X.env=[(false,eval b X.env)]:=by rfl):DI M X tg (.Call (.Name "range" p) [a,b] [] pos) (iR2 fa fb):=λhK hM =>
 λpins s σ H R' I z=>u_ hg hm ((ab h (ab k aj hs0) hs1) hK hM) hs hs2 pins s σ H R' I (Ik z)
theorem o5 {ts:List Expr} {tk:Nat} {p tpos:Pos} (hg:Gl X "enumerate") (hm:X.mg "enumerate" = none) (h:DE M X a fa) (hs1:starEach [a] X.env=(false,eval a X.env) :: starEach [] X.env:=by rfl) (hs:starEach [a] X.env=[(false,eval a X.env)]:=by rfl) :
  DI M X (.Tuple ts tk tpos) (.Call (.Name "enumerate" p) [a] [] pos) (iEn fa):=λhK hM=>by
 have q:=y_ (es:=ts) (k:=tk) (tpos:=tpos) (p:=p) (pos:=pos) hg hm ((ab h aj hs1) hK hM) hs;rw [hK]at q;exact λpins s σ H R' I z=>q pins s σ H R' I (DU z)
theorem o7 {ts:List Expr} {tk:Nat} {p tpos:Pos} (hg:Gl X "zip") (hm:X.mg "zip" = none) (h:DE M X a fa) (k:DE M X b fb) (hs1:starEach [a,b] X.env=(false,eval a X.env) :: starEach [b] X.env:=by rfl) (hs0:starEach [b] X.env=(false,eval b X.env) :: starEach [] X.env:=by rfl)
  (hs:starEach [a,b] X.env=[(false,eval a X.env),(false,eval b X.env)]:=by rfl) (hs2:starEach [b] X.env=[(false,eval b X.env)]:=by rfl):DI M X (.Tuple ts tk tpos) (.Call (.Name "zip" p) [a,b] [] pos) (iZp fa fb):=λhK hM=>by
 have q:=Cw (es:=ts) (k:=tk) (tpos:=tpos) (p:=p) (pos:=pos) hg hm ((ab h (ab k aj hs0) hs1) hK hM) hs hs2;rw [hK]at q;exact λpins s σ H R' I z=>q pins s σ H R' I (Gk z)
theorem tR {α:Type} {N:List α} {i:Nat} {x:α} (h:N[i]?=some x):i<N.length:=(List.getElem?_eq_some_iff.mp h).1
theorem pgI {tg:Expr} {t t':TG} (h:PG X tg t) (k:∀v σ H Q,t' v σ H Q->t v σ H Q):PG X tg t':=λpins s σ H v u Q I r q=>h pins s σ H v u Q I r (k _ _ _ _ q)
theorem EN {tg:List Expr} {t t':TGs} (h:PGs X tg t) (k:∀v σ H Q,t' v σ H Q->t v σ H Q):PGs X tg t':=λpins s σ H v u Q I r q=>h pins s σ H v u Q I r (k _ _ _ _ q)
theorem aA {i:Nat} {x:Str} (hN:X.N.Nodup) (hi:X.N[i]?=some x) (hx:Loc X.env.scope x) (hf:X.fn x=true\/X.env.scope.names.lookup x=some .local:=by first | exact .inl rfl | exact .inr rfl | assumption):DG M X (.Name x pos) [i] (gNm i):=λ_ _ =>
 pgI (ud hN hi hx hf) λ_ _ _ _ q=>vR (tR hi) q
theorem hR:DGs M X [] [] iX:=λ_ _=>EN yy λ_ _ _ _ q=>Gm q
theorem bX {is js:List Nat} {g:Fg} {gs:Fgs} (h:DG M X e is g) (k:DGs M X es js gs)
  (hs:(assignEach (e :: es) X.env).map (·.2)=assign e X.env :: (assignEach es X.env).map (·.2):=by rfl):DGs M X (e :: es) (is++js) (cJ g gs):=λhK hM =>
 EN (wY (h hK hM) (k hK hM) hs) λ_ _ _ _ q=>CK q
theorem i_ {is:List Nat} {gs:Fgs} {k n:Nat} (hc:X.calm=true) (h:DGs M X es is gs) (hn:(assignEach es X.env).length=n:=by rfl) (hst:(assignEach es X.env).findIdx? (·.1)=none:=by rfl):DG M X (.Tuple es k pos) is (gTp n gs):=λhK hM=>by
 have q:=Cv (pos:=pos) (k:=k) hc (h hK hM) hn hst;rw [hK]at q;exact pgI q λ_ _ _ _ z=>Hy z
variable {st:Stmt} {rest sa sb:List Stmt} {f g:Fs}
theorem a9:DSs M X [] sNx:=λ_ _=>Ho yN λ_ _ _ q=>CP q
theorem ai (h:DS M X st f) (k:DSs M X rest g):DSs M X (st :: rest) (aF f g):=λhK hM=>Ho (vY (h hK hM) (k hK hM)) λ_ _ _ q=>G7 q
theorem aq (h:DS M X st f):DSs M X [st] f:=λhK hM=>tV (h hK hM)
theorem xm:DS M X st Dc:=λ_ _=>psI wW λ_ _ _ q=>GX q
theorem zJ (h:DE M X e fa) (hs:swapsWith e none pos.line X.env=pure false:=by rfl):DS M X (.Expr e pos) (sQ fa):=λhK hM=>psI (tu (h hK hM) hs) λ_ _ _ q=>Dx q
theorem aJ (h:DE M X e fa):DS M X (.Return (some e) pos) (bR fa):=λhK hM=>psI (xg (h hK hM)) λ_ _ _ q=>ES q
theorem ft (i:Nat) {x:Str} {p:Pos} (hN:X.N[i]?=some x:=by rfl) (hv:Vis X.env.scope x:=by first | exact Or.inl rfl | exact Or.inr (Or.inl rfl) | exact Or.inr (Or.inr rfl)) (hd:(x == ("__debug__" : Str))=false:=by decide)
  (hcd:(x == ("__classdict__" : Str))=false:=by decide):DS M X (.Return (some (.Name x p)) pos) (gD i):=λ_ _=>psI (xg (gm hN hv hd hcd)) λ_ _ _ q=>AM q
theorem c8 (h:DT M X c ta) (ha:DSs M X sa f) (hb:DSs M X sb g):DS M X (.If c sa sb pos) (sIf ta f g):=λhK hM=>psI (GJ (h hK hM) (ha hK hM) (hb hK hM)) λ_ _ _ q=>ID q
theorem pH (i:Nat) (h:DS M X st f):DS M X st (nT i f):=λhK hM=>psI (h hK hM) λ_ _ _ q=>Fb q
theorem aC {i:Nat} {x:Str} {p:Pos} (hN:X.N.Nodup) (hi:X.N[i]?=some x) (hx:Loc X.env.scope x) (h:DE M X e fa) (hs:swapsWith e (some (.Name x p)) pos.line X.env=pure false:=by rfl)
  (hf:X.fn x=true\/X.env.scope.names.lookup x=some .local:=by first | exact .inl rfl | exact .inr rfl | assumption):DS M X (.Assign [.Name x p] e pos) (aR i fa):=λhK hM =>
 psI (Ck hN hi hx (h hK hM) hs hf) λ_ _ _ q=>xi (tR hi) q
theorem b6 {tg iter:Expr} {it:Fi} {is:List Nat} {gg:Fg} {body:List Stmt} (hc:X.calm=true) (hp:PassesOwn (model X.prog X.w) X.A X.env X.xe) (hi:DI M X tg iter it) (hg:DG M X tg is gg) (hb:DSs M X body f) (hs:∀x,foldedSetIterable iter X.env x=pure x:=by intro _;rfl):DS M X (.For tg iter body [] pos) (eP it gg f):=λhK hM =>
 psI (B_ hp hc (hi hK hM) (hg hK hM) (hb hK hM) hs) λ_ _ _ q=>Ha q
variable {x:Str} {p ap cp:Pos}
theorem AW {o:Expr} {to:TE} {t:TA} {name:Str} {id:String} {r:V->List V->Hp->VK->Prop} (slot:Slot "list" name id) (hty:typeOf (.builtin id)=pure (.type "method_descriptor")) (hm:MtR X id r) (ho:PE X o to) (ha:PA X [e] t) (k:∀D σ H,tS M X.N.length f D σ H->oH (tBM M.K "list" r to t) D σ H)
  (hbase:attributeBase o name X.env (eval o X.env)=eval o X.env)
  (hfew:((backTo cp (starEach [e] X.env)).all (λx=>!x.1) && (backToKw cp (keywordEach [] X.env)).all (λx=>x.1.isSome) && decide (([e]:List Expr).length+([]:List Keyword).length+(if ([]:List Keyword).isEmpty then 0 else 1)<30))=true)
  (hline:(ap.endLine == cp.line)=true) (hs:starEach [e] X.env=(false,eval e X.env) :: starEach [] X.env) (hplain:(backTo cp (starEach [] X.env)).any (·.1)=false)
  (hsw:swapsWith (.Call (.Attribute o name ap) [e] [] cp) none pos.line X.env=pure false) (hK:X.K=M.K):PS X (.Expr (.Call (.Attribute o name ap) [e] [] cp) pos) (tS M X.N.length f):=by
 have q:=Ao (apos:=ap) (cpos:=cp) PySem.F.plainAttrs_list slot hty hm ho ha hbase hfew hline hs hplain;rw [hK]at q;exact psI (tu q hsw) k
theorem Cb (h:DE M X e fa) (hs:starEach [e] X.env=(false,eval e X.env) :: starEach [] X.env) (hK:X.K=M.K) (hM:X.mg=M.mg):PA X [e] (lK (tD M X.N.length fa) rC):=ko (h hK hM) pN hs
theorem gh (i:Nat) (h:DE M X e fa) (hN:X.N[i]?=some x:=by rfl) (hv:Vis X.env.scope x:=by first | exact Or.inl rfl | exact Or.inr (Or.inl rfl) | exact Or.inr (Or.inr rfl)) (hd:(x == ("__debug__" : Str))=false:=by decide) (hcd:(x == ("__classdict__" : Str))=false:=by decide)
  (hbase:attributeBase (.Name x p) "append" X.env (eval (.Name x p) X.env)=eval (.Name x p) X.env:=by rfl)
  (hfew:((backTo cp (starEach [e] X.env)).all (λx=>!x.1) && (backToKw cp (keywordEach [] X.env)).all (λx=>x.1.isSome) && decide (([e]:List Expr).length+([]:List Keyword).length+(if ([]:List Keyword).isEmpty then 0 else 1)<30))=true:=by rfl)
  (hline:(ap.endLine == cp.line)=true:=by rfl) (hs:starEach [e] X.env=(false,eval e X.env) :: starEach [] X.env:=by rfl) (hplain:(backTo cp (starEach [] X.env)).any (·.1)=false:=by rfl)
  (hsw:swapsWith (.Call (.Attribute (.Name x p) "append" ap) [e] [] cp) none pos.line X.env=pure false:=by rfl):DS M X (.Expr (.Call (.Attribute (.Name x p) "append" ap) [e] [] cp) pos) (ji i fa):=λhK hM =>
 AW PySem.F.slot_list_append PySem.F.type_list_append lg (gm hN hv hd hcd) (Cb h hs hK hM) (λ_ _ _ q=>ET q) hbase hfew hline hs hplain hsw hK
theorem xp {p2:Pos} (i:Nat) (hb:DE M X b fb) (h:DE M X e fa) (hix:me b) (hN:X.N[i]?=some x:=by rfl) (hv:Vis X.env.scope x:=by first | exact Or.inl rfl | exact Or.inr (Or.inl rfl) | exact Or.inr (Or.inr rfl)) (hd:(x == ("__debug__" : Str))=false:=by decide) (hcd:(x == ("__classdict__" : Str))=false:=by decide)
  (hbase:attributeBase (.Subscript (.Name x p) b p2) "append" X.env (eval (.Subscript (.Name x p) b p2) X.env)=eval (.Subscript (.Name x p) b p2) X.env:=by rfl)
  (hfew:((backTo cp (starEach [e] X.env)).all (λx=>!x.1) && (backToKw cp (keywordEach [] X.env)).all (λx=>x.1.isSome) && decide (([e]:List Expr).length+([]:List Keyword).length+(if ([]:List Keyword).isEmpty then 0 else 1)<30))=true:=by rfl)
  (hline:(ap.endLine == cp.line)=true:=by rfl) (hs:starEach [e] X.env=(false,eval e X.env) :: starEach [] X.env:=by rfl) (hplain:(backTo cp (starEach [] X.env)).any (·.1)=false:=by rfl)
  (hsw:swapsWith (.Call (.Attribute (.Subscript (.Name x p) b p2) "append" ap) [e] [] cp) none pos.line X.env=pure false:=by rfl):DS M X (.Expr (.Call (.Attribute (.Subscript (.Name x p) b p2) "append" ap) [e] [] cp) pos) (kZ i fb fa):=λhK hM =>
 AW PySem.F.slot_list_append PySem.F.type_list_append lg (t5 (mH M.K hK) (gm hN hv hd hcd) (hb hK hM) hix) (Cb h hs hK hM) (λ_ _ _ q=>yM q) hbase hfew hline hs hplain hsw hK
theorem rH {p2:Pos} (i:Nat) (hb:DE M X b fb) (h:DE M X e fa) (hN:X.N[i]?=some x:=by rfl) (hv:Vis X.env.scope x:=by first | exact Or.inl rfl | exact Or.inr (Or.inl rfl) | exact Or.inr (Or.inr rfl)) (hd:(x == ("__debug__" : Str))=false:=by decide) (hcd:(x == ("__classdict__" : Str))=false:=by decide)
  (hs:swapsWithSole [.Subscript (.Name x p) b p2] e pos.line X.env=pure false:=by rfl) (hw:swappedStores [.Subscript (.Name x p) b p2] e X.env=pure none:=by rfl)
  (ha:∀v,assign (.Subscript (.Name x p) b p2) X.env v=(do
   let ov <-holding [v] (eval (.Name x p) X.env)
   let iv <-holding [v,ov] (eval b X.env)
   standAt p2
   holding [v,ov,iv] (setItem ov iv v)
   release [v,ov,iv] []):=by intro _;rfl) (h1:(assignEach [.Subscript (.Name x p) b p2] X.env).map (·.2)=[assign (.Subscript (.Name x p) b p2) X.env]:=by rfl):DS M X (.Assign [.Subscript (.Name x p) b p2] e pos) (pS i fb fa):=λhK hM =>
 psI (Cr (h hK hM) (Dr (gm hN hv hd hcd) (hb hK hM) set_list ha) hs hw h1) λ_ _ _ q=>Hw q
variable {sc scope:Scope} {outs:List (Nat×Str)} {elt tg iter:Expr} {ifs:List Expr} {it:Fi} {gg:Fg} {is:List Nat} {el:Fe}
theorem eA:DF M X [] eN:=λ_ _=>λpins s σ H Q I q=>vW pins s σ H Q I (by
 obtain ⟨F,ρ,fp,S,p⟩:=q;exact p F H (Ext.refl S.same))
theorem pY (h:DT M X c ta):DF M X [c] ta:=λhK hM=>DV (h hK hM)
theorem k5 (own:List Str) (s:Shared) (H:Hp) (C:Addr) (ex:List Addr) (pins:List (Addr×Obj)):(cxB X (own++outs.map (·.2)) scope s H C ex pins).N.length=own.length+outs.length:=by
 show (own++outs.map (·.2)).length=_
 rw [List.length_append,List.length_map]
theorem eF (own:List Str) (B:Blk X sc scope outs) (hcalm:X.calm=true) (hk:∀j∈is,j<own.length) (hi:DI M X tg iter it)
  (hg:∀s H C ex pins,DG M (cxB X (own++outs.map (·.2)) scope s H C ex pins) tg is gg) (hc:∀s H C ex pins,DF M (cxB X (own++outs.map (·.2)) scope s H C ex pins) ifs ta) (he:∀s H C ex pins,DE M (cxB X (own++outs.map (·.2)) scope s H C ex pins) elt el)
  (hs:∀x,foldedSetIterable iter X.env x=pure x:=by intro _;rfl):DE M X (.ListComp elt [⟨tg,iter,ifs,0⟩] scope pos) (dr it gg ta el own.length (outs.map (·.1))):=λhK hM =>
 peI (zw (wi:=tI M X.N.length it) (g:=tG M (own.length+outs.length) is gg) (tc:=tT M (own.length+outs.length) ta) (te:=tD M (own.length+outs.length) el) own B hcalm (hi hK hM)
  (λs H C ex pins=>by have q:=hg s H C ex pins hK hM;rw [k5]at q;exact q) (λs H C ex pins=>by have q:=hc s H C ex pins hK hM;rw [k5]at q;exact q) (λs H C ex pins=>by have q:=he s H C ex pins hK hM;rw [k5]at q;exact q) hs) λ_ _ _ q=>vm hk q
theorem hZ {fe:Fe} {i:Nat} {spos:Pos} (own:List Str) (w:∀σ H Q,tD M X.N.length fe σ H Q->tD M X.N.length (dr it gg ta el own.length (outs.map (·.1))) σ H Q) (hN:X.N.Nodup) (hix:X.N[i]?=some x) (hx:Loc X.env.scope x) (B:Blk X sc scope outs) (hcalm:X.calm=true) (hk:∀j∈is,j<own.length) (hi:DI M X tg iter it)
  (hg:∀s H C ex pins,DG M (cxB X (own++outs.map (·.2)) scope s H C ex pins) tg is gg) (hc:∀s H C ex pins,DF M (cxB X (own++outs.map (·.2)) scope s H C ex pins) ifs ta) (he:∀s H C ex pins,DE M (cxB X (own++outs.map (·.2)) scope s H C ex pins) elt el)
  (hsw:swapsWith (.ListComp elt [⟨tg,iter,ifs,0⟩] scope pos) (some (.Name x p)) spos.line X.env=pure true:=by rfl)
  (hs:∀x,foldedSetIterable iter X.env x=pure x:=by intro _;rfl) (hf:X.fn x=true\/X.env.scope.names.lookup x=some .local:=by first | exact .inl rfl | exact .inr rfl | assumption) :
  DS M X (.Assign [.Name x p] (.ListComp elt [⟨tg,iter,ifs,0⟩] scope pos) spos) (aR i fe):=λhK hM =>
 psI (t_ (wi:=tI M X.N.length it) (g:=tG M (own.length+outs.length) is gg) (tc:=tT M (own.length+outs.length) ta) (te:=tD M (own.length+outs.length) el) own hN hix hx B hcalm (hi hK hM)
  (λs H C ex pins=>by have q:=hg s H C ex pins hK hM;rw [k5]at q;exact q) (λs H C ex pins=>by have q:=hc s H C ex pins hK hM;rw [k5]at q;exact q) (λs H C ex pins=>by have q:=he s H C ex pins hK hM;rw [k5]at q;exact q) hsw hs hf) λD σ H q=>by
  have q':=xi (tR hix) q;exact vm hk (w _ _ _ q')
end
end L3
namespace L3
open PySem L2 PySem.Spec PyProof.Rows
noncomputable def oI (i:Int):R OD:=.ok (.sh (.int i))
noncomputable def oB (b:Bool):R OD:=.ok (.sh (.bool b))
noncomputable def oD (d:PyData):R OD:=.ok (.sh d)
noncomputable def dJ:PyData->PyData->R OD
 |.int i,.int j=>oI (i+j)
 |.str x,.str y=>if x.length+y.length<=BIG then oD (.str (x++y)) else .bad
 |.list xs,.list ys=>if xs.length+ys.length<=BIG then .ok (.ol ((xs++ys).map OD.sh)) else .bad
 |_,_=>.bad
noncomputable def dF:PyData->PyData->R OD
 |.int i,.int j=>oI (i-j)
 |_,_=>.bad
noncomputable def iq (i j:Int):Bool:=(decide (-(2 ^ 64)<i) && decide (i<2 ^ 64)) || (decide (-(2 ^ 64)<j) && decide (j<2 ^ 64))
noncomputable def eh:PyData->PyData->R OD
 |.int i,.int j=>if iq i j=true then oI (i * j) else .bad
 |.list xs,.int k=>if (decide (-(2 ^ 63)<=k) && decide (k<2 ^ 63) && decide (xs.length * k.toNat<=BIG))=true then .ok (.ol ((List.replicate k.toNat xs).flatten.map OD.sh)) else .bad
 |_,_=>.bad
noncomputable def g8:PyData->PyData->R OD
 |.int i,.int j=>if 0<j then oI (i % j) else .bad
 |_,_=>.bad
noncomputable def lS:PyData->PyData->R OD
 |.int i,.int j=>if 0<j/\j<1073741824 then oI (i / j) else .bad
 |_,_=>.bad
noncomputable def xZ:PyData->PyData->R OD
 |.int i,.int j=>if 0<=j/\j<=1000000/\i.natAbs<2 ^ 64 then oI (i ^ j.toNat) else .bad
 |_,_=>.bad
noncomputable def gG:PyData->R OD
 |.int i=>oI (-i)
 |_=>.bad
noncomputable def gLt:PyData->PyData->R OD
 |.int i,.int j=>oB (decide (i<j))
 |_,_=>.bad
noncomputable def gLe:PyData->PyData->R OD
 |.int i,.int j=>oB (decide (i<=j))
 |_,_=>.bad
noncomputable def gGt:PyData->PyData->R OD
 |.int i,.int j=>oB (decide (j<i))
 |_,_=>.bad
noncomputable def gGe:PyData->PyData->R OD
 |.int i,.int j=>oB (decide (j<=i))
 |_,_=>.bad
noncomputable def jr (x y:PyData):R Bool:=if (SeqAt.shaped x && SeqAt.shaped y)=true then .ok (PyData.eqv x y) else .bad
noncomputable def eqD:PyData->PyData->R Bool
 |.int i,.int j=>.ok (decide (i=j))
 |.str x,.str y=>.ok (decide (x=y))
 |.bool x,.bool y=>.ok (decide (x=y))
 |x,y=>jr x y
noncomputable def gEq (x y:PyData):R OD:=(eqD x y).bind λb=>oB b
noncomputable def gNe (x y:PyData):R OD:=(eqD x y).bind λb=>oB (!b)
noncomputable def jU (o:Option PyData):R OD:=match o with
 |some d=>oD d
 |none=>.bad
noncomputable def gIx:PyData->PyData->R OD
 |.list xs,.int i=>jU (atI xs i)
 |.tuple xs,.int i=>jU (atI xs i)
 |.str z,.int i=>if z.length<=BIG then jU ((atI z.cps.toList i).map λc=>.str ⟨#[c]⟩) else .bad
 |_,_=>.bad
noncomputable def cutD (xs:List PyData) (lo hi:Option Int):List PyData:=(xs.drop (HT.sIx xs.length 0 lo)).take (HT.sIx xs.length xs.length hi-HT.sIx xs.length 0 lo)
noncomputable def so (x:PyData) (lo hi:Option Int):R OD:=match x with
 |.list xs=>.ok (.ol ((cutD xs lo hi).map OD.sh))
 |_=>.bad
noncomputable def dP:List PyData->R OD
 |[.list xs]=>oI xs.length
 |[.tuple xs]=>oI xs.length
 |[.str x]=>if x.length<=BIG then oI x.length else .bad
 |_=>.bad
noncomputable def lF:List PyData->R OD
 |[.int i,.int j]=>oI (if j<i then j else i)
 |_=>.bad
noncomputable def mP:List PyData->R OD
 |[.int i,.int j]=>oI (if i<j then j else i)
 |_=>.bad
noncomputable def eK:List PyData->Option (List Int)
 |[]=>some []
 |.int i :: r=>(eK r).map (i :: ·)
 |_ :: _=>none
theorem g_:∀ns:List Int,eK (ns.map PyData.int)=some ns
 |[]=>rfl
 |n :: ns=>by rw [List.map_cons,eK,g_ ns];rfl
theorem j9:∀{ds:List PyData} {ns:List Int},eK ds=some ns->ds=ns.map PyData.int
 |[],ns,h=>by cases h;rfl
 |.int i :: r,ns,h=>by
  rw [eK]at h;obtain ⟨ms,h1,rfl⟩:=Option.map_eq_some_iff.mp h;rw [j9 h1];rfl
 |.none :: _,_,h=>by cases h
 |.bool _ :: _,_,h=>by cases h
 |.str _ :: _,_,h=>by cases h
 |.list _ :: _,_,h=>by cases h
 |.tuple _ :: _,_,h=>by cases h
 |.dict _ :: _,_,h=>by cases h
noncomputable def fX:Int->List Int->Int
 |m,[]=>m
 |m,n :: ns=>fX (if m<n then n else m) ns
noncomputable def kE:Int->List Int->Int
 |m,[]=>m
 |m,n :: ns=>kE (if n<m then n else m) ns
noncomputable def i4:List PyData->R OD
 |[.list ds]=>match eK ds with
  |some (n :: ns)=>oI (fX n ns)
  |_=>.bad
 |_=>.bad
noncomputable def jq:List PyData->R OD
 |[.list ds]=>match eK ds with
  |some (n :: ns)=>oI (kE n ns)
  |_=>.bad
 |_=>.bad
noncomputable def zg:List PyData->R OD
 |[.list ds]=>.ok (.ol (ds.map OD.sh))
 |[.tuple ds]=>.ok (.ol (ds.map OD.sh))
 |_=>.bad
noncomputable def uW:List PyData->R OD
 |[.int i]=>oI i
 |[.bool b]=>oI (if b then 1 else 0)
 |_=>.bad
noncomputable def oV (ds:List PyData) (y:PyData):R OD:=match y with
 |.int z=>match eK ds with
  |some ns=>if z∈ns then oI (ns.idxOf z:Nat) else .bad
  |none=>.bad
 |_=>.bad
noncomputable def zS:PyData->Option String
 |.int _=>some "int"
 |.bool _=>some "bool"
 |.str _=>some "str"
 |.list _=>some "list"
 |.tuple _=>some "tuple"
 |.none=>some "NoneType"
 |.dict _=>none
noncomputable def zm (T:String) (d:PyData):Option Bool:=match zS d with
 |some U=>if T = "int" \/ T = "bool" \/ T = "str" \/ T = "list" \/ T = "tuple" then some (decide (T=U\/(U = "bool" /\ T = "int"))) else none
 |none=>none
noncomputable def iN (T:String) (x:PyData):R OD:=match zm T x with
 |some b=>oB b
 |none=>.bad
section
variable {M:Mx} {X:Cx}
theorem okI {F H:Hp} {fp:List Addr} {Q:VK} {i:Int} (s:aP F H) (p:aE M H fp (OkE M F H Q) (oI i)):Q (.int i) H:=OkE.val s p (.int i)
theorem okB {F H:Hp} {fp:List Addr} {Q:VK} {i:Bool} (s:aP F H) (p:aE M H fp (OkE M F H Q) (oB i)):Q (.bl i) H:=OkE.val s p (.bl i)
noncomputable def zY (K:PySem.W.Frag):R2:=λx y H Q=>∃l b xs zs,x=.ref l/\y=.ref b/\RdK K H l xs/\RdK K H b zs/\xs.length+zs.length<=sizeLine/\∀p,H p=none->Q (.ref p) (upd H p (.lst (xs++zs)))
theorem yt:OpR X (binaryOp .Add) (zY X.K):=by
 intro pins s σ H x y v u Q I rx ry h;obtain ⟨l,b,xs,zs,rfl,rfl,hH,hB,hz,q⟩:=h;cases rx;cases ry;obtain ⟨z,its,n,r,hl,e⟩:=hH.obj I;obtain ⟨z2,its2,n2,r2,hl2,e2⟩:=hB.obj I;refine PySem.P.add_list e e2 ?_ (by rw [List.size_toArray,List.size_toArray];lia)
 have ea:its.toArray++its2.toArray=(its++its2).toArray:=by simp
 rw [ea];exact ⟨.ref _,_,I.lnew (t':=s.toks) (r.append r2) (by rw [List.length_append];lia),rfl,q _ I.fresh⟩
noncomputable def zK (K:PySem.W.Frag):R2:=λx y H Q=>rI0 (λi j=>.int (i+j)) x y H Q\/(∃i j,x=.str i/\y=.str j/\i.length+j.length<=sizeLine/\Q (.str (i++j)) H)\/zY K x y H Q
theorem aU:OpR X (binaryOp .Add) (zK X.K):=AU.or (r9.or yt)
theorem bp (hK:X.K=M.K):Ok2 M (zK X.K) dJ:=by
 rw [hK];intro x y dx dy F H fp Q s rx ry p;unfold dJ at p;split at p
 ·cases rx;cases ry
  exact .inl ⟨_,_,rfl,rfl,okI s p⟩
 ·cases rx;cases ry
  split at p
  ·rename_i hl
   exact .inr (.inl ⟨_,_,rfl,rfl,i7 hl,OkE.val s p (.str _)⟩)
  ·exact p.elim
 ·split at p
  ·rename_i hl
   cases rx with
   |lst h1 h2 =>
    cases ry with
    |lst h3 h4=>exact .inr (.inr ⟨_,_,_,_,rfl,rfl,h1.same s,h3.same s,by rw [RepAll.len h2,RepAll.len h4];exact i7 hl,λa ha=>OkE.lstD s p (RepAll.app h2 h4) ha⟩)
  ·exact p.elim
 ·exact p.elim
theorem d8:Ok2 M (rI0 λi j=>.int (i-j)) dF:=by
 intro x y dx dy F H fp Q s rx ry p;unfold dF at p;split at p
 ·cases rx;cases ry
  exact ⟨_,_,rfl,rfl,okI s p⟩
 ·exact p.elim
theorem zI {i j:Int} (h:iq i j=true):xI i j:=by
 unfold iq at h;rw [Bool.or_eq_true,Bool.and_eq_true,Bool.and_eq_true,decide_eq_true_eq,decide_eq_true_eq,decide_eq_true_eq,decide_eq_true_eq]at h;exact h
noncomputable def As (K:PySem.W.Frag):R2:=λx y H Q=>∃l k xs,x=.ref l/\y=.int k/\RdK K H l xs/\-(2 ^ 63)<=k/\k<2 ^ 63/\xs.length * k.toNat<=sizeLine /\
 ∀p,H p=none->Q (.ref p) (upd H p (.lst (List.replicate k.toNat xs).flatten))
theorem yh:OpR X (binaryOp .Mult) (As X.K):=by
 intro pins s σ H x y v u Q I rx ry h;obtain ⟨l,k,xs,rfl,rfl,hH,h1,h2,hz,q⟩:=h;cases rx;obtain ⟨t,rfl⟩:=ry;obtain ⟨z,its,n,r,hl,e⟩:=hH.obj I;have hlen:its.toArray.size * k.toNat<=sizeLine:=by rw [List.size_toArray,<-hl];exact hz
 have hcap:¬its.toArray.size * k.toNat > (2 ^ 63-1) / 8:=by
  have:(sizeLine:Nat)<=(2 ^ 63-1) / 8:=by decide
  lia
 have hfit:¬(!Builtin.List.listFitsIndex k)=true:=by
  rw [fitsIndex_both h1 h2];exact Bool.false_ne_true
 have hlong:¬Builtin.List.listTooLong (its.toArray.size * k.toNat)=true:=by
  rw [qc hlen];exact Bool.false_ne_true
 have hnew:List.foldl (λx1 x2=>x1++x2) #[] (List.replicate (if its.toArray.isEmpty=true then 0 else k.toNat) its.toArray)=(List.replicate k.toNat its).flatten.toArray:=by
  have f0:∀m:Nat,List.foldl (λx1 x2=>x1++x2) #[] (List.replicate m its.toArray)=(List.replicate m its).flatten.toArray:=λm=>by
   have:=foldl_rep its m [];rw [List.nil_append]at this;exact this
  rw [f0];cases its with
  |nil=>simp
  |cons a r'=>rw [if_neg (by simp)]
 refine wpAny_binaryOp_repeat_ref (T := "list") (U := "int") (by decide) ⟨_,e,rfl⟩ (λs'=>typeIs_int s' k t) noFill_list_mul F.fills_int_mul F.slot_int_rmul repeat_list F.slot_int_index.lookup
  (call_meets F.slot_int_rmul (typeIs_int s k t) F.entry_int_rmul (F.args_int_rmul_2 _ _) (int___rmul___int_list k t l its.toArray n)
   ⟨e,rfl,⟨_,e,rfl⟩,call_meets F.slot_list_mul ⟨_,e,rfl⟩ F.entry_list_mul (F.args_list_mul_2 _ _) (AutoListH.list___mul___list_int_3 l its.toArray n k t hfit hcap hlong) ⟨e,?_⟩⟩)
 rw [hnew];exact ⟨.ref _,_,I.lnew (t':=s.toks) (r.rep k.toNat) (by rw [len_rep,Nat.mul_comm];exact hz),rfl,q _ I.fresh⟩
noncomputable def Al (K:PySem.W.Frag):R2:=λx y H Q=>rI xI (λi j=>.int (i * j)) x y H Q\/As K x y H Q
theorem bQ:OpR X (binaryOp .Mult) (Al X.K):=CA.or yh
theorem RepAll.rep {K:PySem.W.Frag} {F:Hp} {vs:List V} {ds:List PyData} (h:RepAll K F vs ds):∀k:Nat,RepAll K F (List.replicate k vs).flatten (List.replicate k ds).flatten
 |0=>.nil
 |k+1=>by
  rw [List.replicate_succ,List.replicate_succ,List.flatten_cons,List.flatten_cons];exact RepAll.app h (RepAll.rep h k)
theorem cN (hK:X.K=M.K):Ok2 M (Al X.K) eh:=by
 rw [hK];intro x y dx dy F H fp Q s rx ry p;unfold eh at p;split at p
 ·cases rx;cases ry
  split at p
  ·rename_i hc
   exact .inl ⟨_,_,rfl,rfl,zI hc,okI s p⟩
  ·exact p.elim
 ·cases ry
  split at p
  ·rename_i hc
   rw [Bool.and_eq_true,Bool.and_eq_true,decide_eq_true_eq,decide_eq_true_eq,decide_eq_true_eq]at hc;cases rx with
   |lst h1 h2=>exact .inr ⟨_,_,_,rfl,rfl,h1.same s,hc.1.1,hc.1.2,by rw [RepAll.len h2];exact i7 hc.2,λa ha=>OkE.lstD s p (RepAll.rep h2 _) ha⟩
  ·exact p.elim
 ·exact p.elim
theorem dQ:Ok2 M (rI (λ_ j=>0<j) λi j=>.int (i % j)) g8:=by
 intro x y dx dy F H fp Q s rx ry p;unfold g8 at p;split at p
 ·cases rx;cases ry
  split at p
  ·rename_i hc
   exact ⟨_,_,rfl,rfl,hc,okI s p⟩
  ·exact p.elim
 ·exact p.elim
theorem iQ:Ok2 M (rI He λi j=>.int (i / j)) lS:=by
 intro x y dx dy F H fp Q s rx ry p;unfold lS at p;split at p
 ·cases rx;cases ry
  split at p
  ·rename_i hc
   exact ⟨_,_,rfl,rfl,hc,okI s p⟩
  ·exact p.elim
 ·exact p.elim
theorem xJ:Ok2 M (rI Gh λi j=>.int (i ^ j.toNat)) xZ:=by
 intro x y dx dy F H fp Q s rx ry p;unfold xZ at p;split at p
 ·cases rx;cases ry
  split at p
  ·rename_i hc
   exact ⟨_,_,rfl,rfl,hc,okI s p⟩
  ·exact p.elim
 ·exact p.elim
theorem fC:Ok1 M (rU λi=>.int (-i)) gG:=by
 intro x dx F H fp Q s rx p;unfold gG at p;split at p
 ·cases rx
  exact ⟨_,rfl,okI s p⟩
 ·exact p.elim
theorem jM:Ok2 M (rI0 λi j=>.bl (decide (i<j))) gLt:=by
 intro x y dx dy F H fp Q s rx ry p;unfold gLt at p;split at p
 ·cases rx;cases ry
  exact ⟨_,_,rfl,rfl,okB s p⟩
 ·exact p.elim
theorem zO:Ok2 M (rI0 λi j=>.bl (decide (i<=j))) gLe:=by
 intro x y dx dy F H fp Q s rx ry p;unfold gLe at p;split at p
 ·cases rx;cases ry
  exact ⟨_,_,rfl,rfl,okB s p⟩
 ·exact p.elim
theorem xR:Ok2 M (rI0 λi j=>.bl (decide (j<i))) gGt:=by
 intro x y dx dy F H fp Q s rx ry p;unfold gGt at p;split at p
 ·cases rx;cases ry
  exact ⟨_,_,rfl,rfl,okB s p⟩
 ·exact p.elim
theorem xr:Ok2 M (rI0 λi j=>.bl (decide (j<=i))) gGe:=by
 intro x y dx dy F H fp Q s rx ry p;unfold gGe at p;split at p
 ·cases rx;cases ry
  exact ⟨_,_,rfl,rfl,okB s p⟩
 ·exact p.elim
mutual
theorem Rep.to2 {K:PySem.W.Frag} {H:Hp} {v:V} {d:PyData}:Rep K H v d->d.canLay0=true->L2.Rep K H v d
 |.non,_=>.non
 |.bl b,_=>.bl b
 |.int i,_=>.int i
 |.str x,_=>.str x
 |.lst h r,c=>.lst h.sq (RepAll.to2 r (by rw [PyData.canLay0]at c;exact c))
 |.tup h r,c=>.tup (SqT.of h) (RepAll.to2 r (by rw [PyData.canLay0]at c;exact c))
 |.dct _ _ _,c=>by
  unfold dD at c;rw [PyData.canLay0]at c;cases c
 |.ins _ _ _,c=>by
  unfold i6 at c;rw [PyData.canLay0]at c;cases c
theorem RepAll.to2 {K:PySem.W.Frag} {H:Hp} {vs:List V} {ds:List PyData}:RepAll K H vs ds->PyData.canLayAll0 ds=true->L2.RepAll K H vs ds
 |.nil,_=>.nil
 |.cons h r,c=>by
  rw [PyData.canLayAll0,Bool.and_eq_true]at c;exact .cons (Rep.to2 h c.1) (RepAll.to2 r c.2)
end
noncomputable def GV (K:PySem.W.Frag):R2:=λx y H Q=>rEq x y H Q\/GK K x y H Q
noncomputable def Ga (K:PySem.W.Frag):R2:=λx y H Q=>rNe x y H Q\/EC K x y H Q
theorem fi (hu:X.A.units+64<cLine):OpR X (compareOp .Eq) (GV X.K):=FF.or (DH hu)
theorem ij (hu:X.A.units+64<cLine):OpR X (compareOp .NotEq) (Ga X.K):=Hf.or (Cp hu)
theorem wM {K:PySem.W.Frag} {F H:Hp} {fp:List Addr} {x y:V} {dx dy:PyData} {P:Bool->Prop} (rx:Rep K F x dx) (ry:Rep K F y dy) (p:aE M H fp P (eqD dx dy)) :
  (Bn x y=true/\P (decide (x=y)))\/(SeqAt.shaped dx=true/\SeqAt.shaped dy=true/\P (PyData.eqv dx dy)):=by
 unfold eqD at p;split at p
 ·cases rx;cases ry
  refine .inl ⟨rfl,?_⟩;have e:∀i j:Int,decide (V.int i=V.int j)=decide (i=j):=λi j=>by
   by_cases h:i=j
   ·rw [h];simp
   ·rw [decide_eq_false h,decide_eq_false λz=>h (V.int.inj z)]
  rw [e];exact p
 ·cases rx;cases ry
  refine .inl ⟨rfl,?_⟩;have e:∀i j:Str,decide (V.str i=V.str j)=decide (i=j):=λi j=>by
   by_cases h:i=j
   ·rw [h];simp
   ·rw [decide_eq_false h,decide_eq_false λz=>h (V.str.inj z)]
  rw [e];exact p
 ·cases rx;cases ry
  refine .inl ⟨rfl,?_⟩;have e:∀i j:Bool,decide (V.bl i=V.bl j)=decide (i=j):=λi j=>by
   by_cases h:i=j
   ·rw [h];simp
   ·rw [decide_eq_false h,decide_eq_false λz=>h (V.bl.inj z)]
  rw [e];exact p
 ·unfold jr at p
  split at p
  ·rename_i h
   rw [Bool.and_eq_true]at h;exact .inr ⟨h.1,h.2,p⟩
  ·exact p.elim
theorem gY (hK:X.K=M.K):Ok2 M (GV X.K) gEq:=by
 rw [hK];intro x y dx dy F H fp Q s rx ry p;rcases wM rx ry (aE.bind p) with ⟨h,q⟩ | ⟨h1,h2,q⟩
 ·exact .inl ⟨h,okB s q⟩
 ·exact .inr ⟨dx,dy,(rx.same s).to2 (SeqAt.canLay_of_shaped h1),(ry.same s).to2 (SeqAt.canLay_of_shaped h2),h1,h2,okB s q⟩
theorem jN (hK:X.K=M.K):Ok2 M (Ga X.K) gNe:=by
 rw [hK];intro x y dx dy F H fp Q s rx ry p;rcases wM rx ry (aE.bind p) with ⟨h,q⟩ | ⟨h1,h2,q⟩
 ·exact .inl ⟨h,okB s q⟩
 ·exact .inr ⟨dx,dy,(rx.same s).to2 (SeqAt.canLay_of_shaped h1),(ry.same s).to2 (SeqAt.canLay_of_shaped h2),h1,h2,okB s q⟩
theorem t7 {K:PySem.W.Frag} {F:Hp} {vs:List V} {ds:List PyData} {i:Int} {d:PyData} (h:RepAll K F vs ds) (e:atI ds i=some d):∃v,atI vs i=some v/\Rep K F v d:=by
 unfold atI at e ⊢;rw [RepAll.len h];cases q:ixN ds.length i with
 |none=>rw [q]at e;cases e
 |some j =>
  rw [q]at e;obtain ⟨v,h1,h2⟩:=RepAll.get h e;exact ⟨v,h1,h2⟩
theorem ar (hK:X.K=M.K):Ok2 M (rIx X.K) gIx:=by
 rw [hK];intro x y dx dy F H fp Q s rx ry p;unfold gIx at p;split at p
 ·cases ry
  unfold jU at p;split at p
  ·rename_i d hd
   cases rx with
   |lst h1 h2 =>
    obtain ⟨v,e,r⟩:=t7 h2 hd;exact .inl ⟨_,_,_,v,rfl,rfl,(h1.same s).sq,e,OkE.val s p r⟩
  ·exact p.elim
 ·cases ry
  unfold jU at p;split at p
  ·rename_i d hd
   cases rx with
   |tup h1 h2 =>
    obtain ⟨v,e,r⟩:=t7 h2 hd;exact .inr (.inl ⟨_,_,_,v,rfl,rfl,SqT.of (s _ _ h1),e,OkE.val s p r⟩)
  ·exact p.elim
 ·cases ry
  cases rx;split at p
  ·rename_i hl
   unfold jU at p;split at p
   ·rename_i d hd
    obtain ⟨c,hc,rfl⟩:=Option.map_eq_some_iff.mp hd;exact .inr (.inr ⟨_,_,c,rfl,rfl,i7 hl,hc,OkE.val s p (.str _)⟩)
   ·exact p.elim
  ·exact p.elim
 ·exact p.elim
theorem o6 (hK:X.K=M.K):OkS M (Eb X.K) so:=by
 rw [hK];intro x lo hi dx F H fp Q s rx p;unfold so at p;split at p
 ·cases rx with
  |@lst a vs ds h1 h2 =>
   refine ⟨a,vs,rfl,(h1.same s).sq,λq hq=>?_⟩
   refine OkE.lstD s p ?_ hq;unfold qQ cutD;rw [RepAll.len h2];exact RepAll.take _ (RepAll.drop _ h2)
 ·exact p.elim
noncomputable def zZ (K:PySem.W.Frag):List V->Hp->VK->Prop:=λxs H Q=>(∃p ys,xs=[.ref p]/\(SqL K H p ys\/SqT K H p ys)/\Q (.int ys.length) H)\/(∃z,xs=[.str z]/\z.length<=sizeLine/\Q (.int z.length) H)
theorem aK:fu X (.builtin "len") (zZ X.K):=pw.or pM
theorem bJ (hK:X.K=M.K):OkC M (zZ X.K) dP:=by
 rw [hK];intro x dx F H fp Q s rx p;unfold dP at p;split at p
 ·cases rx with
  |cons h r =>
   cases r;cases h with
   |lst h1 h2=>exact .inl ⟨_,_,rfl,.inl (h1.same s).sq,by rw [RepAll.len h2];exact okI s p⟩
 ·cases rx with
  |cons h r =>
   cases r;cases h with
   |tup h1 h2=>exact .inl ⟨_,_,rfl,.inr (SqT.of (s _ _ h1)),by rw [RepAll.len h2];exact okI s p⟩
 ·cases rx with
  |cons h r =>
   cases r;cases h;split at p
   ·rename_i hl
    exact .inr ⟨_,rfl,i7 hl,okI s p⟩
   ·exact p.elim
 ·exact p.elim
theorem qE {K:PySem.W.Frag} {F:Hp} {x:List V} {i j:Int} (r:RepAll K F x [.int i,.int j]):x=[.int i,.int j]:=by
 cases r with
 |cons h r =>
  cases h;cases r with
  |cons h r =>
   cases h;cases r;rfl
theorem kM:OkC M (λxs H Q=>∃i j,xs=[.int i,.int j]/\Q (.int (if j<i then j else i)) H) lF:=by
 intro x dx F H fp Q s rx p;unfold lF at p;split at p
 ·exact ⟨_,_,qE rx,okI s p⟩
 ·exact p.elim
theorem mq:OkC M (λxs H Q=>∃i j,xs=[.int i,.int j]/\Q (.int (if j > i then j else i)) H) mP:=by
 intro x dx F H fp Q s rx p;unfold mP at p;split at p
 ·exact ⟨_,_,qE rx,okI s p⟩
 ·exact p.elim
theorem iw:∀(ns:List Int) (m:Int),fX m ns∈m :: ns/\∀z∈m :: ns,z<=fX m ns
 |[],m=>⟨List.mem_cons_self,λz h=>by simp at h;rw [h];exact Int.le_refl _⟩
 |n :: ns,m=>by
  obtain ⟨h1,h2⟩:=iw ns (if m<n then n else m)
  rw [fX];have hm:m<=(if m<n then n else m):=by split <;> lia
  have hn:n<=(if m<n then n else m):=by split <;> lia
  have ht:=h2 _ List.mem_cons_self;refine ⟨?_,λz hz=>?_⟩
  ·rcases List.mem_cons.mp h1 with h | h
   ·rw [h]
    split <;> simp
   ·simp [h]
  ·rcases List.mem_cons.mp hz with rfl | hz
   ·lia
   ·rcases List.mem_cons.mp hz with rfl | hz
    ·lia
    ·exact h2 z (List.mem_cons_of_mem _ hz)
theorem jA:∀(ns:List Int) (m:Int),kE m ns∈m :: ns/\∀z∈m :: ns,kE m ns<=z
 |[],m=>⟨List.mem_cons_self,λz h=>by simp at h;rw [h];exact Int.le_refl _⟩
 |n :: ns,m=>by
  obtain ⟨h1,h2⟩:=jA ns (if n<m then n else m)
  rw [kE];have hm:(if n<m then n else m)<=m:=by split <;> lia
  have hn:(if n<m then n else m)<=n:=by split <;> lia
  have ht:=h2 _ List.mem_cons_self;refine ⟨?_,λz hz=>?_⟩
  ·rcases List.mem_cons.mp h1 with h | h
   ·rw [h]
    split <;> simp
   ·simp [h]
  ·rcases List.mem_cons.mp hz with rfl | hz
   ·lia
   ·rcases List.mem_cons.mp hz with rfl | hz
    ·lia
    ·exact h2 z (List.mem_cons_of_mem _ hz)
theorem p9 {K:PySem.W.Frag} {F:Hp} {x:List V} {ds:List PyData} {ns:List Int} (s:aP F H') (r:RepAll K F x [.list ds]) (e:eK ds=some ns):∃a,x=[.ref a]/\SqL K H' a (ns.map V.int):=by
 cases r with
 |cons h r =>
  cases r;cases h with
  |lst h1 h2 =>
   rw [j9 e]at h2;rw [RepAll.toInts h2]at h1;exact ⟨_,rfl,(h1.same s).sq⟩
theorem jy (hK:X.K=M.K):OkC M (zW X.K) i4:=by
 rw [hK];intro x dx F H fp Q s rx p;unfold i4 at p;split at p
 ·split at p
  ·rename_i n ns e
   obtain ⟨a,rfl,h⟩:=p9 s rx e;refine ⟨a,n :: ns,rfl,h,by simp,λm h1 h2=>?_⟩
   obtain ⟨k1,k2⟩:=iw ns n;have e:fX n ns=m:=Int.le_antisymm (h2 _ k1) (k2 _ h1);rw [<-e];exact okI s p
  ·exact p.elim
 ·exact p.elim
theorem mi (hK:X.K=M.K):OkC M (zV X.K) jq:=by
 rw [hK];intro x dx F H fp Q s rx p;unfold jq at p;split at p
 ·split at p
  ·rename_i n ns e
   obtain ⟨a,rfl,h⟩:=p9 s rx e;refine ⟨a,n :: ns,rfl,h,by simp,λm h1 h2=>?_⟩
   obtain ⟨k1,k2⟩:=jA ns n;have e:kE n ns=m:=Int.le_antisymm (k2 _ h1) (h2 _ k1);rw [<-e];exact okI s p
  ·exact p.elim
 ·exact p.elim
theorem zG:OkC M (λxs H Q=>(∃i,xs=[.int i]/\Q (.int i) H)\/∃k,xs=[.bl k]/\Q (.int (if k then 1 else 0)) H) uW:=by
 intro x dx F H fp Q s rx p;unfold uW at p;split at p
 ·cases rx with
  |cons h r =>
   cases r;cases h;exact .inl ⟨_,rfl,okI s p⟩
 ·cases rx with
  |cons h r =>
   cases r;cases h;exact .inr ⟨_,rfl,okI s p⟩
 ·exact p.elim
noncomputable def pB (T:String) (a:Fe):Fe:=fun ρ=>(a ρ).bind λx=>iN T x.er
noncomputable def zQ (K:PySem.W.Frag) (T:String):List V->Hp->VK->Prop:=λxs H Q=>∃x d b,xs=[x,.ty T]/\Rep K H x d/\zm T d=some b/\Q (.bl b) H
theorem Cq {K:PySem.W.Frag} {T U:String} (hU:U = "int" \/ U = "bool" \/ U = "str" \/ U = "list" \/ U = "tuple" \/ U = "NoneType") (hT:T = "int" \/ T = "bool" \/ T = "str" \/ T = "list" \/ T = "tuple"):PySem.W.kitOne K (.type U) (.type T)=some (decide (T=U\/(U = "bool" /\ T = "int"))):=by
 rcases hU with rfl | rfl | rfl | rfl | rfl | rfl <;> rcases hT with rfl | rfl | rfl | rfl | rfl <;> rfl
theorem uQ {K:PySem.W.Frag} {T U:String} {d:PyData} {b:Bool} (hk:zS d=some U) (hU:U = "int" \/ U = "bool" \/ U = "str" \/ U = "list" \/ U = "tuple" \/ U = "NoneType") (e:zm T d=some b):PySem.W.kitOne K (.type U) (.type T)=some b:=by
 unfold zm at e;rw [hk]at e;have e':(if T = "int" \/ T = "bool" \/ T = "str" \/ T = "list" \/ T = "tuple" then some (decide (T=U\/(U = "bool" /\ T = "int"))) else none)=some b:=e
 by_cases hT:T = "int" \/ T = "bool" \/ T = "str" \/ T = "list" \/ T = "tuple"
 ·rw [if_pos hT]at e'
  rw [<-e'];exact Cq hU hT
 ·rw [if_neg hT]at e'
  cases e'
end
end L3
namespace L3
open PySem L2 PySem.Spec PyProof.Rows
section
variable {M:Mx} {X:Cx} {e a b c:Expr} {es:List Expr} {pos:Pos} {fa fb:Fe} {ta tb:Ft} {al:Fa}
theorem uL (T:String):fu X (.builtin "isinstance") (zQ X.K T):=by
 intro pins s σ H xs us Q I r h;obtain ⟨x,d,b,rfl,rd,e,q⟩:=h;obtain ⟨u,v,rfl,ru,rv⟩:=Vals.two r;cases rv;have fin:∀tk,EP X pins σ Q (.bool b) { s with toks:=tk }:=λtk=>⟨.bl b,H,I.tok tk,rfl,q⟩
 cases rd with
 |non =>
  cases (show u=Value.none from ru)
  exact PySem.W.kia_one PySem.W.kitx_none I.kIn True.intro (uQ rfl (by simp) e) (λz=>nomatch z) fin
 |bl y =>
  cases (show u=Value.bool y from ru)
  exact PySem.W.kia_one PySem.W.kitx_bool I.kIn True.intro (uQ rfl (by simp) e) (λz=>nomatch z) fin
 |int i =>
  obtain ⟨t,hq⟩:=(show ∃t,u=Value.int i t from ru)
  cases hq;exact PySem.W.kia_one PySem.W.kitx_int I.kIn True.intro (uQ rfl (by simp) e) (λz=>nomatch z) fin
 |str y =>
  obtain ⟨t,hq⟩:=(show ∃t,u=Value.str y t from ru)
  cases hq;exact PySem.W.kia_one PySem.W.kitx_str I.kIn True.intro (uQ rfl (by simp) e) (λz=>nomatch z) fin
 |@lst a xs ds h1 h2 =>
  cases (show u=Value.ref a from ru)
  obtain ⟨_,its,n,_,_,he⟩:=h1.obj I;exact PySem.W.kia_one PySem.W.kitx_list I.kIn ⟨_,he,rfl⟩ (uQ (d:=.list ds) rfl (by simp) e) (λz=>nomatch z) fin
 |@tup a xs ds h1 h2 =>
  cases (show u=Value.ref a from ru)
  obtain ⟨_,_,_,p⟩:=(show gU X.prog X.w H s.heap a (.tup xs) from I.hok a _ h1)
  obtain ⟨o,k1,k2,_⟩:=p;exact PySem.W.kia_one PySem.W.kitx_tuple I.kIn ⟨o,k1,k2⟩ (uQ (d:=.tuple ds) rfl (by simp) e) (λz=>nomatch z) fin
 |dct _ _ _ =>
  have e':(none:Option Bool)=some b:=e;cases e'
 |ins _ _ _ =>
  have e':(none:Option Bool)=some b:=e;cases e'
theorem Eu {n:Nat} {σ:St} {H:Hp} {Q:VK} {T:String} (h:tD M n (pB T fa) σ H Q):tCB (zQ M.K T) (lK (tD M n fa) (lK (tC (.ty T)) rC)) σ H Q:=by
 obtain ⟨F,ρ,fp,S,p⟩:=h;refine ⟨F,ρ,fp,S,(aE.bind p).mono λx px v F1 H1 fx e1 r1 w1=>?_⟩
 obtain ⟨G1,d1,k1⟩:=r1.frz e1 w1;unfold iN at px;split at px
 ·rename_i b hb
  exact ⟨v,x.er,b,rfl,k1.same d1.fh,hb,OkE.val d1.fh (OkE.pre d1 px) (.bl b)⟩
 ·exact px.elim
theorem kY {T:String} {x:Str} {p p2:Pos} (hg:Gl X "isinstance") (hm:X.mg "isinstance" = none) (hgT:Gl X x) (hmT:X.mg x=none) (hT:bootBuiltins x=some (.type T)) (h:DE M X e fa) (hnT:x ≠ "__name__" := by decide) (hdT:(x == ("__debug__" : Str))=false:=by decide)
  (hs1:starEach [e,.Name x p2] X.env=(false,eval e X.env) :: starEach [.Name x p2] X.env:=by rfl) (hs2:starEach [.Name x p2] X.env=(false,eval (.Name x p2) X.env) :: starEach [] X.env:=by rfl) (hpl:(backTo pos (starEach [.Name x p2] X.env)).any (·.1)=false:=by rfl) :
  DE M X (.Call (.Name "isinstance" p) [e,.Name x p2] [] pos) (pB T fa):=λhK hM=>by
 have q:=qg (p:=p) (pos:=pos) (uL T) hg hm k_ (ko (h hK hM) (ko (zr (v:=V.ty T) (pos:=p2) hgT hmT hT rfl hnT hdT) pN hs2) hs1) (by decide) (by decide) hs1 hpl
 rw [hK]at q;exact peI q λ_ _ _ z=>Eu z
noncomputable def ye (a b:Fe):Fe:=fun ρ=>(a ρ).bind λx=>match x.er with
 |.list ds=>(b ρ).bind λy=>oV ds y.er
 |_=>.bad
theorem wL {ap cp:Pos} (ha:DE M X a fa) (h:DE M X e fb)
  (hbase:attributeBase a "index" X.env (eval a X.env)=eval a X.env:=by rfl)
  (hfew:((backTo cp (starEach [e] X.env)).all (λx=>!x.1) && (backToKw cp (keywordEach [] X.env)).all (λx=>x.1.isSome) && decide (([e]:List Expr).length+([]:List Keyword).length+(if ([]:List Keyword).isEmpty then 0 else 1)<30))=true:=by rfl)
  (hline:(ap.endLine == cp.line)=true:=by rfl) (hs:starEach [e] X.env=(false,eval e X.env) :: starEach [] X.env:=by rfl) (hplain:(backTo cp (starEach [] X.env)).any (·.1)=false:=by rfl) :
  DE M X (.Call (.Attribute a "index" ap) [e] [] cp) (ye fa fb):=λhK hM=>by
 have q:=Ao (apos:=ap) (cpos:=cp) PySem.F.plainAttrs_list PySem.F.slot_list_index PySem.F.type_list_index vM (ha hK hM) (ko (h hK hM) pN hs) hbase hfew hline hs hplain;refine peI q fun σ H Q h=>?_
 obtain ⟨F,ρ,fp,S,p⟩:=h;refine ⟨F,ρ,fp,S,(aE.bind p).mono λx px v F1 H1 fx e1 r1 w1=>?_⟩
 obtain ⟨G1,d1,k1⟩:=r1.frz e1 w1;generalize x.er=d at px k1
 cases k1 with
 |@lst a' vs ds h1 h2 =>
  have px':aE M H fp (OkE M F H Q) ((fb ρ).bind λy=>oV ds y.er):=px
  refine ⟨.inl ⟨rfl,vs,by rw [hK];exact (h1.same d1.fh).sq⟩,G1,ρ,fp,S.ext d1,((aE.bind px').ext d1).mono λy py w F2 H2 fy e2 r2 w2=>?_⟩
  obtain ⟨G2,d2,k2⟩:=r2.frz e2 w2;unfold oV at py;generalize y.er=d' at py k2
  cases k2 with
  |int z =>
   have py':aE M H fp (OkE M F H Q) (match eK ds with | some ns=>if z∈ns then oI (ns.idxOf z:Nat) else .bad | none=>.bad):=py
   split at py'
   ·rename_i ns hn
    split at py'
    ·rename_i hz
     rw [j9 hn]at h2;rw [RepAll.toInts h2]at h1;exact ⟨a',ns,z,rfl,rfl,by rw [hK];exact ((h1.same d2.ff).same d2.fh).sq,hz,OkE.val d2.fh (OkE.pre (d1.trans d2) py') (.int _)⟩
    ·exact py'.elim
   ·exact py'.elim
  |non=>exact py.elim
  |bl _=>exact py.elim
  |str _=>exact py.elim
  |dct _ _ _=>exact py.elim
  |ins _ _ _=>exact py.elim
  |lst _ _=>exact py.elim
  |tup _ _=>exact py.elim
 |non=>exact px.elim
 |bl _=>exact px.elim
 |int _=>exact px.elim
 |str _=>exact px.elim
 |dct _ _ _=>exact px.elim
 |ins _ _ _=>exact px.elim
 |tup _ _=>exact px.elim
end
theorem k7 {K:PySem.W.Frag} {F H:Hp} (m:Nat):∀{vs:List V} {ds:List PyData},RepAll K F vs ds->OwnS K F H (vs.map some++List.replicate m none) ((ds.map λd=>some (OD.sh d))++List.replicate m none) []
 |_,_,.nil=>by
  show OwnS K F H (List.replicate m none) (List.replicate m none) []
  have:=OwnS.nones (K:=K) (F:=F) (H:=H) m .nil;rw [List.append_nil,List.append_nil]at this;exact this
 |_,_,.cons h r=>.yes (f:=[]) (.sh h) (k7 m r)
theorem fn3 {P:Program} {w:World} {K:PySem.W.Frag} {mg:Str->Option Value} {base:Heap} {x qual:Str} {st:Stmt} {f:Addr} {fd:FuncData} {N ps:List Str} {k:Nat} {body:Fs} (F:Fun K x qual st f fd) (S:FnScope N ps (ag st))
  (h:∀(cdv:Value) (A:Around) (outer:List PySem.Env) (s:Shared) (H:Hp) (E:XK),Room k (A.deeper (envOfC qual (ag st) s.heap.objs.size f cdv))->DSs ⟨K,mg,E⟩ (nV CX0 P w K mg base N qual (ag st) f cdv A outer s H E).nox (aB st) body) :
  FnOk P w K mg base CX0 (k+1) f fd ps (sp3 K mg (cw ps.length N.length body)):=by
 have hpl:ps.length<=N.length:=by
  have:=congrArg List.length S.pre;rw [List.length_take]at this
  lia
 have hlen:∀vs H Q E,sp3 K mg (cw ps.length N.length body) vs H Q E->vs.length=ps.length:=by
  rintro vs H Q E ⟨F,ds,sm,ra,p⟩;by_cases hl:ds.length=ps.length
  ·rw [RepAll.len ra]
   exact hl
  ·unfold cw at p
   rw [if_neg hl]at p;exact p.elim
 refine F.ok S hlen λcdv A outer s H vs Q E hr hs=>?_
 have hvl:=hlen _ _ _ _ hs;obtain ⟨F0,ds,sm,ra,p⟩:=hs;have hdl:ds.length=ps.length:=by rw [<-RepAll.len ra];exact hvl
 unfold cw at p;rw [if_pos hdl]at p;refine ⟨_,h cdv A outer s H E hr rfl rfl,F0,lB N.length ds,[],⟨sm,?_,List.nodup_nil,(λ_ m=>by cases m),?_⟩,(aE.bind p).mono λo po=>?_⟩
 ·unfold L2.start lB
  rw [hvl,hdl];exact k7 _ ra
 ·unfold lB
  show _=N.length
  rw [List.length_append,List.length_map,List.length_replicate,hdl]
  lia
 ·cases o with
  |nx ρ=>exact fun σ' F' H' fp' S' st=>po .non F' H' [] ⟨st.ff,λa o q=>st.keep a o q (by simp),S'.same,λa q z=>st.nw a q (by simp) z⟩ (Res.sh .non) λ_ m=>by cases m
  |rt y=>exact λv F' H' fx sm' r st=>po v F' H' fx ⟨st.ff,λa o q=>st.keep a o q (by simp),sm',λa q z=>st.nw a q (by simp) z⟩ r λa m=>(st.new a m).elim (λz=>by cases z) id
  |bk ρ=>exact po.elim
  |ct ρ=>exact po.elim
end L3
namespace L3
open PySem L2 PySem.Spec PyProof.Rows
theorem dR {P:Program} {w:World} {K:PySem.W.Frag} {mg:Str->Option Value} {base:Heap} {x qual:Str} {st:Stmt} {f:Addr} {fd:FuncData} {N ps:List Str} {k np n:Nat} {body:Fs} {fn:Fn} (hf:fn=cw np n body) (hp:ps.length=np) (hn:N.length=n) (F:Fun K x qual st f fd) (S:FnScope N ps (ag st))
  (h:∀(cdv:Value) (A:Around) (outer:List PySem.Env) (s:Shared) (H:Hp) (E:XK),Room k (A.deeper (envOfC qual (ag st) s.heap.objs.size f cdv))->DSs ⟨K,mg,E⟩ (nV CX0 P w K mg base N qual (ag st) f cdv A outer s H E).nox (aB st) body) :
  FnOk P w K mg base CX0 (k+1) f fd ps (sp3 K mg fn):=by
 subst hf hp hn;exact fn3 F S h
theorem aN {X:Cx} {E:XK}:Passes CX0 X E:=λ_ _ _ _ _ _ _ h=>h.elim
noncomputable def G9:PyData->PyData->R OD
 |.int i,.int j=>oI (i+j)
 |_,_=>.bad
section
variable {M:Mx} {X:Cx}
end
end L3
namespace L3
open PySem L2
theorem AI (i:Int):iN "int" (.int i)=oB true:=rfl
theorem CY (i:Int):iN "bool" (.int i)=oB false:=rfl
theorem Bs (i:Int):iN "str" (.int i)=oB false:=rfl
theorem AS (i:Int):iN "list" (.int i)=oB false:=rfl
theorem AE (i:Int):iN "tuple" (.int i)=oB false:=rfl
theorem CQ (i:Bool):iN "int" (.bool i)=oB true:=rfl
theorem AR (i:Bool):iN "bool" (.bool i)=oB true:=rfl
theorem AD (i:Str):iN "int" (.str i)=oB false:=rfl
theorem AL (i:Str):iN "bool" (.str i)=oB false:=rfl
theorem BH (i:Str):iN "str" (.str i)=oB true:=rfl
theorem Cz (i:List PyData):iN "list" (.list i)=oB true:=rfl
theorem DL (i:List PyData):iN "tuple" (.list i)=oB false:=rfl
theorem Cu (i:List PyData):iN "int" (.list i)=oB false:=rfl
theorem BV (i:List PyData):iN "tuple" (.tuple i)=oB true:=rfl
theorem AF (i:List PyData):iN "list" (.tuple i)=oB false:=rfl
theorem CL (i:List PyData):iN "int" (.tuple i)=oB false:=rfl
theorem H_:(0<=BIG)=True:=by decide
theorem IA:(1<=BIG)=True:=by decide
theorem HN:(2<=BIG)=True:=by decide
theorem Ig:(3<=BIG)=True:=by decide
theorem IB:(4<=BIG)=True:=by decide
theorem Ie:(0<BIG)=True:=by decide
theorem qJ {g:Fg} {b:Fs} (I:Nat->Env->Prop):∀(ds:List PyData) (k:Nat) (ρ:Env),I k ρ->(∀(i:Nat) (d:PyData) (ρ:Env),ds[i]?=some d->I (k+i) ρ->∃ρ1 ρ2,g (.sh d) ρ=.ok ρ1/\(b ρ1=.ok (.nx ρ2)\/b ρ1=.ok (.ct ρ2))/\I (k+i+1) ρ2) ->
  ∃ρ',br g b ds ρ=.ok (.nx ρ')/\I (k+ds.length) ρ'
 |[],k,ρ,h,_=>⟨ρ,rfl,h⟩
 |d :: ds,k,ρ,h,st=>by
  obtain ⟨ρ1,ρ2,h1,h2,h3⟩:=st 0 d ρ rfl h;obtain ⟨ρ',e,h4⟩:=qJ I ds (k+1) ρ2 h3 λi d' ρ hd hi=>by
   have:=st (i+1) d' ρ (by simpa using hd) (by rw [show k+(i+1)=k+1+i by lia];exact hi)
   rw [show k+(i+1)+1=k+1+i+1 by lia]at this
   exact this
  refine ⟨ρ',?_,by rw [List.length_cons,show k+(ds.length+1)=k+1+ds.length by lia];exact h4⟩
  rw [br,h1,gJ];rcases h2 with h2 | h2
  ·rw [h2,gJ]
   exact e
  ·rw [h2,gJ]
   exact e
theorem uG {g:Fg} {b:Fs} {ds:List PyData} {ρ:Env} (S:Nat->Env->Prop) (h0:S 0 ρ) (st:∀(i:Nat) (d:PyData) (ρ:Env),ds[i]?=some d->S i ρ->∃ρ1 ρ2,g (.sh d) ρ=.ok ρ1/\(b ρ1=.ok (.nx ρ2)\/b ρ1=.ok (.ct ρ2))/\S (i+1) ρ2) :
  ∃ρ',br g b ds ρ=.ok (.nx ρ')/\S ds.length ρ':=by
 obtain ⟨ρ',e,h⟩:=qJ S ds 0 ρ h0 λi d ρ hd hi=>by
  rw [Nat.zero_add]at hi ⊢;exact st i d ρ hd hi
 exact ⟨ρ',e,by rw [Nat.zero_add]at h;exact h⟩
theorem dv {lo:Int} {n i:Nat} {d:PyData} (h:(jf lo n)[i]?=some d):i<n/\d=.int (lo+i):=by
 unfold jf at h;rw [List.getElem?_map]at h;obtain ⟨j,hj,rfl⟩:=Option.map_eq_some_iff.mp h;obtain ⟨h1,h2⟩:=List.getElem?_eq_some_iff.mp hj;have h3:i=j:=by simpa using h2
 subst h3;exact ⟨by simpa using h1,rfl⟩
theorem eU (lo:Int) (n:Nat):(jf lo n).length=n:=by unfold jf;simp
end L3
namespace L3
open PySem L2
noncomputable def CZ:Option (Option OD)->R OD
 |some (some (.sh d))=>.ok (.sh d)
 |_=>.bad
noncomputable def opK (g:PyData->PyData->R OD):R OD->R OD->R OD
 |.ok x,.ok y=>g x.er y.er
 |.ok _,.ex c=>.ex c
 |.ok _,.bad=>.bad
 |.ex c,_=>.ex c
 |.bad,_=>.bad
noncomputable def unK {α β:Type} (g:α->R β):R α->R β
 |.ok x=>g x
 |.ex c=>.ex c
 |.bad=>.bad
noncomputable def Cm (r:R Bool) (b:Ft) (ρ:Env):R Bool:=match r with
 |.ok true=>b ρ
 |.ok false=>.ok false
 |.ex c=>.ex c
 |.bad=>.bad
noncomputable def orK (r:R Bool) (b:Ft) (ρ:Env):R Bool:=match r with
 |.ok true=>.ok true
 |.ok false=>b ρ
 |.ex c=>.ex c
 |.bad=>.bad
noncomputable def yR (r:R Bool) (b:Fe) (ρ:Env):R OD:=match r with
 |.ok true=>b ρ
 |.ok false=>.ok (.sh (.bool false))
 |.ex c=>.ex c
 |.bad=>.bad
noncomputable def orV (r:R Bool) (b:Fe) (ρ:Env):R OD:=match r with
 |.ok true=>.ok (.sh (.bool true))
 |.ok false=>b ρ
 |.ex c=>.ex c
 |.bad=>.bad
noncomputable def ifV (r:R Bool) (a b:Fe) (ρ:Env):R OD:=match r with
 |.ok true=>a ρ
 |.ok false=>b ρ
 |.ex c=>.ex c
 |.bad=>.bad
noncomputable def ifK (r:R Bool) (a b:Fs) (ρ:Env):R Out:=match r with
 |.ok true=>a ρ
 |.ok false=>b ρ
 |.ex c=>.ex c
 |.bad=>.bad
noncomputable def wB:R OD->R (List OD)->R (List OD)
 |.ok x,.ok xs=>.ok (x :: xs)
 |.ok _,.ex c=>.ex c
 |.ok _,.bad=>.bad
 |.ex c,_=>.ex c
 |.bad,_=>.bad
noncomputable def vH (r:R Out) (b:Fs):R Out:=match r with
 |.ok (.nx ρ)=>b ρ
 |.ok o=>.ok o
 |.ex c=>.ex c
 |.bad=>.bad
noncomputable def GB (r:R OD) (g:Fg) (ρ:Env):R Out:=match r with
 |.ok x=>unK (fun ρ'=>.ok (.nx ρ')) (g x ρ)
 |.ex c=>.ex c
 |.bad=>.bad
noncomputable def Hm (r:R (List PyData)) (g:Fg) (b:Fs) (ρ:Env):R Out:=match r with
 |.ok ds=>br g b ds ρ
 |.ex c=>.ex c
 |.bad=>.bad
noncomputable def Aq (r:R (List PyData)) (g:Fg) (t:Ft) (el:Fe) (ρ0:Env):R OD:=match r with
 |.ok ds=>unK (λxs=>.ok (.ol xs)) (bV g t el ρ0 ds [])
 |.ex c=>.ex c
 |.bad=>.bad
noncomputable def slK (g:PyData->Option Int->Option Int->R OD) (a:R OD) (l h:R (Option Int)):R OD:=match a,l,h with
 |.ok x,.ok i,.ok j=>g x.er i j
 |.ok _,.ok _,.ex c=>.ex c
 |.ok _,.ok _,.bad=>.bad
 |.ok _,.ex c,_=>.ex c
 |.ok _,.bad,_=>.bad
 |.ex c,_,_=>.ex c
 |.bad,_,_=>.bad
noncomputable def FG (a:R OD) (b:Fe) (ρ:Env):R OD:=match a with
 |.ok x=>match x.er with
  |.list ds=>unK (λy=>oV ds y.er) (b ρ)
  |_=>.bad
 |.ex c=>.ex c
 |.bad=>.bad
noncomputable def CW (o:Option (Option OD)) (a:R OD) (i:Nat) (ρ:Env):R Out:=match o with
 |some (some (.ol xs))=>unK (λy=>if xs.length<BIG then .ok (.nx (ρ.set i (some (.ol (xs++[y]))))) else .bad) a
 |_=>.bad
noncomputable def xP:Option (Option OD)->R Out
 |some (some x)=>.ok (.rt x)
 |_=>.bad
noncomputable def A_ (o:Option (Option OD)) (i:Nat) (ρ:Env):Env:=match o with
 |some (some x)=>ρ.set i (some (.sh x.er))
 |_=>ρ
noncomputable def Dj:R Out->R OD
 |.ok (.rt x)=>.ok x
 |.ok (.nx _)=>.ok (.sh .none)
 |.ok (.bk _)=>.bad
 |.ok (.ct _)=>.bad
 |.ex c=>.ex c
 |.bad=>.bad
noncomputable def BL (o:Option (Option OD)) (g:PyData->PyData->R OD) (a:R OD) (i:Nat) (ρ:Env):R Out:=match o with
 |some (some (.sh d))=>unK (λy=>unK (λz=>.ok (.nx (ρ.set i (some z)))) (g d y.er)) a
 |_=>.bad
section
variable {ρ:Env} {a b:Fe} {s t:Ft} {p q:Fs}
theorem v_var (i:Nat):ae i ρ=CZ ρ[i]?:=by
 unfold ae CZ;rfl
theorem v_c (d:PyData):eC d ρ=.ok (.sh d):=rfl
theorem Ir (g:PyData->PyData->R OD):eOp g a b ρ=opK g (a ρ) (b ρ):=by
 unfold eOp;cases a ρ <;> cases b ρ <;> rfl
theorem cK {α β:Type} (r:R α) (g:α->R β):r.bind g=unK g r:=by cases r <;> rfl
theorem Ib (g:PyData->R OD):eUn g a ρ=unK (λx=>g x.er) (a ρ):=cK _ _
theorem Bu:aW a ρ=unK (λx=>truth x.er) (a ρ):=cK _ _
theorem Bl:mM s t ρ=Cm (s ρ) t ρ:=by
 unfold mM;cases s ρ with
 |ok c=>cases c <;> rfl
 |ex c=>rfl
 |bad=>rfl
theorem Gn:kg s t ρ=orK (s ρ) t ρ:=by
 unfold kg;cases s ρ with
 |ok c=>cases c <;> rfl
 |ex c=>rfl
 |bad=>rfl
theorem Bq:gE s ρ=unK (λc=>.ok (!c)) (s ρ):=cK _ _
noncomputable def tru (r:R OD):R Bool:=unK (λx=>truth x.er) r
theorem v_and:pV a b ρ=yR (tru (a ρ)) b ρ:=by
 unfold pV tru;cases a ρ with
 |ok x =>
  show (truth x.er).bind _=yR (truth x.er) b ρ
  cases truth x.er with
  |ok c=>cases c <;> rfl
  |ex c=>rfl
  |bad=>rfl
 |ex c=>rfl
 |bad=>rfl
theorem v_or:eOr a b ρ=orV (tru (a ρ)) b ρ:=by
 unfold eOr tru;cases a ρ with
 |ok x =>
  show (truth x.er).bind _=orV (truth x.er) b ρ
  cases truth x.er with
  |ok c=>cases c <;> rfl
  |ex c=>rfl
  |bad=>rfl
 |ex c=>rfl
 |bad=>rfl
theorem v_not:wV a ρ=unK (λc=>.ok (.sh (.bool (!c)))) (tru (a ρ)):=by
 unfold wV tru;cases a ρ with
 |ok x =>
  show (truth x.er).bind _=unK _ (truth x.er)
  exact cK _ _
 |ex c=>rfl
 |bad=>rfl
theorem HH:eIf s a b ρ=ifV (s ρ) a b ρ:=by
 unfold eIf;cases s ρ with
 |ok c=>cases c <;> rfl
 |ex c=>rfl
 |bad=>rfl
theorem xS:av ρ=.ok []:=rfl
theorem md {r:Fa}:af a r ρ=wB (a ρ) (r ρ):=by
 unfold af;cases a ρ <;> cases r ρ <;> rfl
theorem Ee {r:Fa}:gk r ρ=unK (λxs=>if xs.length<=BIG then .ok (mkT xs) else .bad) (r ρ):=cK _ _
theorem FR {r:Fa}:fJ r ρ=unK (λxs=>if xs.length<=BIG then .ok (.ol xs) else .bad) (r ρ):=cK _ _
theorem Bz {f:Fn} {r:Fa}:aM f r ρ=unK (λxs=>f (xs.map OD.er)) (r ρ):=cK _ _
theorem v_b {f:List PyData->R OD} {r:Fa}:eB f r ρ=unK (λxs=>f (xs.map OD.er)) (r ρ):=cK _ _
theorem G4:eSh a ρ=unK (λx=>.ok (.sh x.er)) (a ρ):=cK _ _
theorem v_bor:p8 a ρ=unK (λx=>if flat x.er=true then .ok (.sh x.er) else .bad) (a (erase ρ)):=cK _ _
theorem Cc:yZ s ρ=s (erase ρ):=rfl
noncomputable def zX:OD->R OD
 |.ol xs=>if xs.all (λy=>flat y.er)=true then .ok (.ol (xs.map λy=>.sh y.er)) else .bad
 |_=>.bad
theorem Ct:qr a ρ=unK zX (a (erase ρ)):=by
 unfold qr;cases a (erase ρ) with
 |ok x=>cases x <;> rfl
 |ex c=>rfl
 |bad=>rfl
theorem Em:erase []=[]:=rfl
theorem EA (x:OD):erase (some x :: ρ)=some (.sh x.er) :: erase ρ:=rfl
theorem Ew:erase (none :: ρ)=none :: erase ρ:=rfl
theorem yX:ki ρ=.ok none:=rfl
noncomputable def xT:PyData->R (Option Int)
 |.int i=>.ok (some i)
 |_=>.bad
theorem yu:jS a ρ=unK (λx=>xT x.er) (a ρ):=by
 unfold jS;rw [cK];cases a ρ with
 |ok x =>
  show (match x.er with | .int i=>R.ok (some i) | _=>.bad)=xT x.er
  cases x.er <;> rfl
 |ex c=>rfl
 |bad=>rfl
theorem HM {g:PyData->Option Int->Option Int->R OD} {l h:Fo}:eSl g a l h ρ=slK g (a ρ) (l ρ) (h ρ):=by
 unfold eSl;cases a ρ <;> cases l ρ <;> cases h ρ <;> rfl
noncomputable def lstK:PyData->R (List PyData)
 |.list ds=>.ok ds
 |_=>.bad
noncomputable def tupK:PyData->R (List PyData)
 |.tuple ds=>.ok ds
 |_=>.bad
noncomputable def r1K:PyData->R (List PyData)
 |.int j=>if aI j=true then .ok (jf 0 j.toNat) else .bad
 |_=>.bad
noncomputable def enK:PyData->R (List PyData)
 |.list ds=>.ok (fZ ds)
 |_=>.bad
theorem Dh:gS a ρ=unK (λx=>lstK x.er) (a ρ):=by
 unfold gS;rw [cK];cases a ρ with
 |ok x =>
  show (match x.er with | .list ds=>R.ok ds | _=>.bad)=lstK x.er
  cases x.er <;> rfl
 |ex c=>rfl
 |bad=>rfl
theorem AQ:iTp a ρ=unK (λx=>tupK x.er) (a ρ):=by
 unfold iTp;rw [cK];cases a ρ with
 |ok x =>
  show (match x.er with | .tuple ds=>R.ok ds | _=>.bad)=tupK x.er
  cases x.er <;> rfl
 |ex c=>rfl
 |bad=>rfl
theorem HG:iR1 a ρ=unK (λx=>r1K x.er) (a ρ):=by
 unfold iR1;rw [cK];cases a ρ with
 |ok x =>
  show (match x.er with | .int j=>if aI j=true then R.ok (jf 0 j.toNat) else .bad | _=>.bad)=r1K x.er
  cases x.er <;> rfl
 |ex c=>rfl
 |bad=>rfl
theorem Im:iEn a ρ=unK (λx=>enK x.er) (a ρ):=by
 unfold iEn;rw [cK];cases a ρ with
 |ok x =>
  show (match x.er with | .list ds=>R.ok (fZ ds) | _=>.bad)=enK x.er
  cases x.er <;> rfl
 |ex c=>rfl
 |bad=>rfl
noncomputable def C_ (g:PyData->PyData->R (List PyData)):R OD->R OD->R (List PyData)
 |.ok x,.ok y=>g x.er y.er
 |.ok _,.ex c=>.ex c
 |.ok _,.bad=>.bad
 |.ex c,_=>.ex c
 |.bad,_=>.bad
theorem IH:iR2 a b ρ=C_ r2F (a ρ) (b ρ):=by
 unfold iR2;cases a ρ <;> cases b ρ <;> rfl
theorem IF:iZp a b ρ=C_ yF (a ρ) (b ρ):=by
 unfold iZp;cases a ρ <;> cases b ρ <;> rfl
theorem El (i:Nat) (x:OD):gNm i x ρ=.ok (ρ.set i (some x)):=rfl
theorem F_:iX [] ρ=.ok ρ:=rfl
theorem Ei {g:Fg} {r:Fgs} {x:OD} {xs:List OD}:cJ g r (x :: xs) ρ=unK (fun ρ'=>r xs ρ') (g x ρ):=cK _ _
theorem Gj {n:Nat} {r:Fgs} {ds:List PyData}:gTp n r (.sh (.tuple ds)) ρ=if ds.length=n then r (ds.map OD.sh) ρ else .bad:=rfl
theorem HB {n:Nat} {r:Fgs} {xs:List OD}:gTp n r (.ot xs) ρ=if xs.length=n then r xs ρ else .bad:=rfl
theorem AK {it:Fi} {g:Fg} {k:Nat} {outs:List Nat}:dr it g t a k outs ρ=Aq (it ρ) g t a (sl3 k outs ρ):=by
 unfold dr;cases it ρ with
 |ok ds=>exact cK _ _
 |ex c=>rfl
 |bad=>rfl
theorem ER {k:Nat} {outs:List Nat}:sl3 k outs ρ=List.replicate k none++outs.map λi=>k6 ρ[i]?:=rfl
theorem HZ:sNx ρ=.ok (.nx ρ):=rfl
theorem Ip:sBk ρ=.ok (.bk ρ):=rfl
theorem Iv:sCt ρ=.ok (.ct ρ):=rfl
theorem HC:aF p q ρ=vH (p ρ) q:=by
 unfold aF;cases p ρ with
 |ok o=>cases o <;> rfl
 |ex c=>rfl
 |bad=>rfl
theorem F6 {g:Fg}:yV a g ρ=GB (a ρ) g ρ:=by
 unfold yV;cases a ρ with
 |ok x=>exact cK _ _
 |ex c=>rfl
 |bad=>rfl
theorem GZ (i:Nat):aR i a ρ=unK (λx=>.ok (.nx (ρ.set i (some x)))) (a ρ):=cK _ _
theorem Dl:sQ a ρ=unK (λ_=>.ok (.nx ρ)) (a ρ):=cK _ _
theorem Ed:bR a ρ=unK (λx=>.ok (.rt x)) (a ρ):=cK _ _
theorem Bm:EY ρ=.ok (.rt (.sh .none)):=rfl
theorem Ce (i:Nat):gD i ρ=xP ρ[i]?:=by
 unfold gD xP;rfl
theorem Hh:sIf s p q ρ=ifK (s ρ) p q ρ:=by
 unfold sIf;cases s ρ with
 |ok c=>cases c <;> rfl
 |ex c=>rfl
 |bad=>rfl
theorem Hz (i:Nat):nT i p ρ=p (vG i ρ):=rfl
theorem DC (i:Nat):vG i ρ=A_ ρ[i]? i ρ:=by
 unfold vG A_;rfl
theorem Fh (i:Nat) {g:PyData->PyData->R OD}:Ef i g a ρ=BL ρ[i]? g (a ρ) i ρ:=by
 unfold Ef BL;generalize ρ[i]?=o
 cases o with
 |none=>rfl
 |some o =>
  cases o with
  |none=>rfl
  |some x =>
   cases x with
   |sh d =>
    show ((a ρ).bind λy=>(g d y.er).bind λz=>R.ok (Out.nx (ρ.set i (some z))))=_
    rw [cK];show unK _ (a ρ)=unK _ (a ρ)
    first
     |done
     | (congr 1;funext y;exact cK _ _)
     | (congr 1)
   |ol xs=>rfl
   |ot xs=>rfl
   |od xs=>rfl
theorem Gr (i:Nat):ji i a ρ=CW ρ[i]? (a ρ) i ρ:=by
 unfold ji CW;generalize ρ[i]?=o
 cases o with
 |none=>rfl
 |some o =>
  cases o with
  |none=>rfl
  |some x =>
   cases x with
   |sh d=>rfl
   |ol xs=>exact cK _ _
   |ot xs=>rfl
   |od xs=>rfl
theorem EH {it:Fi} {g:Fg}:eP it g p ρ=Hm (it ρ) g p ρ:=by
 unfold eP;cases it ρ <;> rfl
theorem Hd (T:String):pB T a ρ=unK (λx=>iN T x.er) (a ρ):=cK _ _
theorem FL:ye a b ρ=FG (a ρ) b ρ:=by
 unfold ye;cases a ρ with
 |ok x =>
  show (match x.er with | .list ds=>(b ρ).bind λy=>oV ds y.er | _=>.bad)=(match x.er with | .list ds=>unK (λy=>oV ds y.er) (b ρ) | _=>.bad)
  cases x.er with
  |list ds=>exact cK _ _
  |_=>rfl
 |ex c=>rfl
 |bad=>rfl
theorem Hj {np n:Nat} {ds:List PyData}:cw np n p ds=if ds.length=np then Dj (p (lB n ds)) else .bad:=by
 unfold cw;congr 1
 cases p (lB n ds) with
 |ok o=>cases o <;> rfl
 |ex c=>rfl
 |bad=>rfl
theorem Fm (d:PyData):CZ (some (some (.sh d)))=.ok (.sh d):=rfl
theorem HX {g:PyData->PyData->R OD} {x y:OD}:opK g (.ok x) (.ok y)=g x.er y.er:=rfl
theorem Hs {g:PyData->PyData->R (List PyData)} {x y:OD}:C_ g (.ok x) (.ok y)=g x.er y.er:=rfl
theorem HL {α β:Type} {g:α->R β} {x:α}:unK g (.ok x)=g x:=rfl
theorem ED {α β:Type} {g:α->R β} {c:Str}:unK g (.ex c)=.ex c:=rfl
theorem Bv:Cm (.ok true) t ρ=t ρ:=rfl
theorem AV:Cm (.ok false) t ρ=.ok false:=rfl
theorem Ge:orK (.ok true) t ρ=.ok true:=rfl
theorem EX:orK (.ok false) t ρ=t ρ:=rfl
theorem yH:yR (.ok true) a ρ=a ρ:=rfl
theorem y9:yR (.ok false) a ρ=.ok (.sh (.bool false)):=rfl
theorem CI:orV (.ok true) a ρ=.ok (.sh (.bool true)):=rfl
theorem Dm:orV (.ok false) a ρ=a ρ:=rfl
theorem Bw:ifV (.ok true) a b ρ=a ρ:=rfl
theorem C0:ifV (.ok false) a b ρ=b ρ:=rfl
theorem Gd:ifK (.ok true) p q ρ=p ρ:=rfl
theorem GU:ifK (.ok false) p q ρ=q ρ:=rfl
theorem Cj {x:OD} {xs:List OD}:wB (.ok x) (.ok xs)=.ok (x :: xs):=rfl
theorem Ec:vH (.ok (.nx ρ)) p=p ρ:=rfl
theorem BU {x:OD}:vH (.ok (.rt x)) p=.ok (.rt x):=rfl
theorem BS:vH (.ok (.ct ρ)) p=.ok (.ct ρ):=rfl
theorem AH:vH (.ok (.bk ρ)) p=.ok (.bk ρ):=rfl
theorem En {x:OD} {g:Fg}:GB (.ok x) g ρ=unK (fun ρ'=>.ok (.nx ρ')) (g x ρ):=rfl
theorem D_ {ds:List PyData} {g:Fg}:Hm (.ok ds) g p ρ=br g p ds ρ:=rfl
theorem BX {ds:List PyData} {g:Fg}:Aq (.ok ds) g t a ρ=unK (λxs=>.ok (.ol xs)) (bV g t a ρ ds []):=rfl
theorem Ii {g:PyData->Option Int->Option Int->R OD} {x:OD} {i j:Option Int}:slK g (.ok x) (.ok i) (.ok j)=g x.er i j:=rfl
theorem FV {xs:List OD} {y:OD} {i:Nat}:CW (some (some (.ol xs))) (.ok y) i ρ=if xs.length<BIG then .ok (.nx (ρ.set i (some (.ol (xs++[y]))))) else .bad:=rfl
theorem CM {x:OD}:xP (some (some x))=.ok (.rt x):=rfl
theorem Fw {x:OD} {i:Nat}:A_ (some (some x)) i ρ=ρ.set i (some (.sh x.er)):=rfl
theorem Bg {x:OD}:Dj (.ok (.rt x))=.ok x:=rfl
theorem AO:Dj (.ok (.nx ρ))=.ok (.sh .none):=rfl
theorem Gy (x:OD):tru (.ok x)=truth x.er:=rfl
theorem zd (c:Bool):truth (.bool c)=.ok c:=rfl
theorem Fx {ds:List PyData}:FG (.ok (.sh (.list ds))) b ρ=unK (λy=>oV ds y.er) (b ρ):=rfl
theorem FC {d:PyData} {g:PyData->PyData->R OD} {y:OD} {i:Nat}:BL (some (some (.sh d))) g (.ok y) i ρ=unK (λz=>.ok (.nx (ρ.set i (some z)))) (g d y.er):=rfl
theorem Eo (ds:List PyData):lstK (.list ds)=.ok ds:=rfl
theorem FI (ds:List PyData):tupK (.tuple ds)=.ok ds:=rfl
theorem HS (ds:List PyData):enK (.list ds)=.ok (fZ ds):=rfl
theorem HY (j:Int):r1K (.int j)=if aI j=true then .ok (jf 0 j.toNat) else .bad:=rfl
theorem Iu (i j:Int):r2F (.int i) (.int j)=if (aI i && aI j)=true then .ok (jf i (j-i).toNat) else .bad:=rfl
theorem FP (ds es:List PyData):yF (.list ds) (.list es)=.ok (lQ ds es):=rfl
theorem Ax (i:Int):xT (.int i)=.ok (some i):=rfl
theorem BK (n:Nat) (ds:List PyData):lB n ds=(ds.map λd=>some (OD.sh d))++List.replicate (n-ds.length) none:=rfl
theorem EI (d:PyData):k6 (some (some (.sh d)))=some (.sh d):=rfl
theorem G_:k6 (some none)=none:=rfl
theorem Bj (xs:List OD):k6 (some (some (.ol xs)))=none:=rfl
theorem Fz (d:PyData):mkT [.sh d]=.sh (.tuple [d]):=rfl
theorem FO (d e:PyData):mkT [.sh d,.sh e]=.sh (.tuple [d,e]):=rfl
theorem GQ (d e f:PyData):mkT [.sh d,.sh e,.sh f]=.sh (.tuple [d,e,f]):=rfl
theorem GL (d e f g:PyData):mkT [.sh d,.sh e,.sh f,.sh g]=.sh (.tuple [d,e,f,g]):=rfl
theorem Fy (i j:Int):dJ (.int i) (.int j)=.ok (.sh (.int (i+j))):=rfl
theorem FE (i j:Int):dF (.int i) (.int j)=.ok (.sh (.int (i-j))):=rfl
theorem GR (i j:Int):eh (.int i) (.int j)=if iq i j=true then .ok (.sh (.int (i * j))) else .bad:=rfl
theorem Gx (i j:Int):g8 (.int i) (.int j)=if 0<j then .ok (.sh (.int (i % j))) else .bad:=rfl
theorem Hn (i j:Int):lS (.int i) (.int j)=if 0<j/\j<1073741824 then .ok (.sh (.int (i / j))) else .bad:=rfl
theorem Fc (i j:Int):xZ (.int i) (.int j)=if 0<=j/\j<=1000000/\i.natAbs<2 ^ 64 then .ok (.sh (.int (i ^ j.toNat))) else .bad:=rfl
theorem EM (i:Int):gG (.int i)=.ok (.sh (.int (-i))):=rfl
theorem HJ (i j:Int):gLt (.int i) (.int j)=.ok (.sh (.bool (decide (i<j)))):=rfl
theorem IG (i j:Int):gLe (.int i) (.int j)=.ok (.sh (.bool (decide (i<=j)))):=rfl
theorem Ij (i j:Int):gGt (.int i) (.int j)=.ok (.sh (.bool (decide (j<i)))):=rfl
theorem Iy (i j:Int):gGe (.int i) (.int j)=.ok (.sh (.bool (decide (j<=i)))):=rfl
theorem Iz (i j:Int):gEq (.int i) (.int j)=.ok (.sh (.bool (decide (i=j)))):=rfl
theorem IE (i j:Int):gNe (.int i) (.int j)=.ok (.sh (.bool (!decide (i=j)))):=rfl
theorem Df (i j:Int):G9 (.int i) (.int j)=.ok (.sh (.int (i+j))):=rfl
theorem Eh (xs:List PyData) (i:Int):gIx (.list xs) (.int i)=jU (atI xs i):=rfl
theorem EG (xs:List PyData) (i:Int):gIx (.tuple xs) (.int i)=jU (atI xs i):=rfl
theorem Bi (xs:List PyData):dP [.list xs]=.ok (.sh (.int xs.length)):=rfl
theorem B0 (xs:List PyData):dP [.tuple xs]=.ok (.sh (.int xs.length)):=rfl
theorem BE (x:Str):dP [.str x]=if x.length<=BIG then .ok (.sh (.int x.length)) else .bad:=rfl
theorem Cn (i j:Int):lF [.int i,.int j]=.ok (.sh (.int (if j<i then j else i))):=rfl
theorem BY (i j:Int):mP [.int i,.int j]=.ok (.sh (.int (if i<j then j else i))):=rfl
theorem pA (n:Int) (ns:List Int):i4 [.list (PyData.int n :: ns.map PyData.int)]=.ok (.sh (.int (fX n ns))):=by
 show (match eK ((n :: ns).map PyData.int) with | some (n :: ns)=>oI (fX n ns) | _=>.bad)=_
 rw [g_];rfl
theorem rA (n:Int) (ns:List Int):jq [.list (PyData.int n :: ns.map PyData.int)]=.ok (.sh (.int (kE n ns))):=by
 show (match eK ((n :: ns).map PyData.int) with | some (n :: ns)=>oI (kE n ns) | _=>.bad)=_
 rw [g_];rfl
theorem Cd (ds:List PyData):zg [.list ds]=.ok (.ol (ds.map OD.sh)):=rfl
theorem Hr (i:Int):uW [.int i]=.ok (.sh (.int i)):=rfl
theorem Cf (c:Bool):uW [.bool c]=.ok (.sh (.int (if c then 1 else 0))):=rfl
theorem FD (ns:List Int) (z:Int) (h:z∈ns):oV (ns.map PyData.int) (.int z)=.ok (.sh (.int (ns.idxOf z:Nat))):=by
 show (match eK (ns.map PyData.int) with | some ns=>if z∈ns then oI (ns.idxOf z:Nat) else .bad | none=>.bad)=_
 rw [g_];show (if z∈ns then oI (ns.idxOf z:Nat) else .bad)=_
 rw [if_pos h];rfl
theorem EW (xs:List PyData) (i j:Option Int):so (.list xs) i j=.ok (.ol ((cutD xs i j).map OD.sh)):=rfl
theorem DQ (d:PyData):jU (some d)=.ok (.sh d):=rfl
theorem at0 {α:Type} (x:α) (xs:List α):atI (x :: xs) 0=some x:=by
 have:atI (x :: xs) ((0:Nat):Int)=some x:=dn rfl;exact this
theorem at1 {α:Type} (x y:α) (xs:List α):atI (x :: y :: xs) 1=some y:=by
 have:atI (x :: y :: xs) ((1:Nat):Int)=some y:=dn rfl;exact this
theorem at2 {α:Type} (x y z:α) (xs:List α):atI (x :: y :: z :: xs) 2=some z:=by
 have:atI (x :: y :: z :: xs) ((2:Nat):Int)=some z:=dn rfl;exact this
theorem Ey (c:Bool):oB c=.ok (.sh (.bool c)):=rfl
end
end L3
namespace L3
open PySem L2
theorem vg {i j:Int} (h1:-18446744073709551616<i) (h2:i<18446744073709551616):iq i j=true:=by
 unfold iq;rw [Bool.or_eq_true,Bool.and_eq_true,decide_eq_true_eq,decide_eq_true_eq];exact .inl ⟨by lia,by lia⟩
theorem FH {i j:Int} (h1:-18446744073709551616<j) (h2:j<18446744073709551616):iq i j=true:=by
 unfold iq;rw [Bool.or_eq_true,Bool.and_eq_true,Bool.and_eq_true,decide_eq_true_eq,decide_eq_true_eq,decide_eq_true_eq,decide_eq_true_eq];exact .inr ⟨by lia,by lia⟩
theorem g9 {i:Int} (h1:-4611686018427387904<=i) (h2:i<4611686018427387904):aI i=true:=fk.mpr ⟨by lia,by lia⟩
theorem gz {n:Nat} (h:n<1000):(n<BIG)=True:=eq_true (Nat.lt_of_lt_of_le h (by decide))
theorem bM {n:Nat} (h:n<=1000):(n<=BIG)=True:=eq_true (Nat.le_trans h (by decide))
theorem eD (i:Int) {j:Int} (h:0<j):0<=i % j/\i % j<j:=⟨Int.emod_nonneg _ (by lia),Int.emod_lt_of_pos _ h⟩
theorem Cg {α:Type} (xs:List α) (i:Int) (h0:0<=i) (h1:i<xs.length):∃x,xs[i.toNat]?=some x/\atI xs i=some x:=by
 obtain ⟨j,rfl⟩:∃j:Nat,i=j:=⟨i.toNat,by lia⟩
 have hj:j<xs.length:=by lia
 exact ⟨xs[j],by simp [hj],dn (by simp [hj])⟩
end L3
namespace L3
open PySem L2
theorem xO {g:Fg} {b:Fs} {ds:List PyData} {ρ:Env} {r:R Out} (hL:br g b ds ρ=r) (S:Nat->Env->Prop) (h0:S 0 ρ) (st:∀(i:Nat) (d:PyData) (ρ:Env),ds[i]?=some d->S i ρ->∃ρ1 ρ2,g (.sh d) ρ=.ok ρ1/\(b ρ1=.ok (.nx ρ2)\/b ρ1=.ok (.ct ρ2))/\S (i+1) ρ2) :
  ∃ρ',r=.ok (.nx ρ')/\S ds.length ρ':=by
 obtain ⟨ρ',e,h⟩:=uG S h0 st;exact ⟨ρ',by rw [<-hL,e],h⟩
end L3
namespace L3
open PySem L2
noncomputable def m7 (S:Env->Prop):R Out->Prop
 |.ok (.nx ρ)=>S ρ
 |.ok (.ct ρ)=>S ρ
 |_=>False
theorem GP {S:Env->Prop} {ρ:Env}:m7 S (.ok (.nx ρ))=S ρ:=rfl
theorem Gi {S:Env->Prop} {ρ:Env}:m7 S (.ok (.ct ρ))=S ρ:=rfl
theorem zk {S:Env->Prop} {b:Fs} {r:R Env} (h:m7 S (unK b r)):∃ρ1 ρ2,r=.ok ρ1/\(b ρ1=.ok (.nx ρ2)\/b ρ1=.ok (.ct ρ2))/\S ρ2:=by
 cases r with
 |ok ρ1 =>
  have h':m7 S (b ρ1):=h;cases hb:b ρ1 with
  |ok o =>
   rw [hb]at h';cases o with
   |nx ρ2=>exact ⟨ρ1,ρ2,rfl,.inl hb,h'⟩
   |ct ρ2=>exact ⟨ρ1,ρ2,rfl,.inr hb,h'⟩
   |bk _=>exact h'.elim
   |rt _=>exact h'.elim
  |ex _=>rw [hb]at h';exact h'.elim
  |bad=>rw [hb]at h';exact h'.elim
 |ex c=>exact h.elim
 |bad=>exact h.elim
theorem cD {P:Prop} {g:Fg} {b:Fs} {ds:List PyData} {ρ:Env} {r:R Out} (hL:br g b ds ρ=r) (S:Nat->Env->Prop) (h0:S 0 ρ) (st:∀(i:Nat) (d:PyData) (ρ:Env),ds[i]?=some d->S i ρ->m7 (S (i+1)) (unK b (g (.sh d) ρ)))
  (fin:∀ρ',r=.ok (.nx ρ')->S ds.length ρ'->P):P:=by
 obtain ⟨ρ',e,h⟩:=xO hL S h0 λi d ρ hd hS=>by
  obtain ⟨ρ1,ρ2,a,b,c⟩:=zk (st i d ρ hd hS);exact ⟨ρ1,ρ2,a,b,c⟩
 exact fin ρ' e h
end L3
namespace L3
open PySem L2
noncomputable def CG (o:Option (Option OD)) (a k:R OD) (i:Nat) (ρ:Env):R Out:=match o with
 |some (some (.ol xs))=>unK (λy=>unK (λz=>match z.er with
  |.int q=>match ixN xs.length q with
   |some j=>.ok (.nx (ρ.set i (some (.ol (xs.set j y)))))
   |none=>.bad
  |_=>.bad) k) a
 |_=>.bad
theorem rN {β:Type} (o:Option (Option OD)):o=none\/o=some none\/(∃d,o=some (some (.sh d)))\/(∃xs,o=some (some (.ol xs)))\/(∃xs,o=some (some (.ot xs)))\/∃xs,o=some (some (.od xs)):=by
 cases o with
 |none=>exact .inl rfl
 |some o =>
  cases o with
  |none=>exact .inr (.inl rfl)
  |some x =>
   cases x with
   |sh d=>exact .inr (.inr (.inl ⟨d,rfl⟩))
   |ol xs=>exact .inr (.inr (.inr (.inl ⟨xs,rfl⟩)))
   |ot xs=>exact .inr (.inr (.inr (.inr (.inl ⟨xs,rfl⟩))))
   |od xs=>exact .inr (.inr (.inr (.inr (.inr ⟨xs,rfl⟩))))
section
variable {ρ:Env} {a b k:Fe} {s t:Ft} {p q:Fs}
theorem v_sub (i:Nat):pS i k a ρ=CG ρ[i]? (a ρ) (k ρ) i ρ:=by
 unfold pS CG;generalize ρ[i]?=o
 rcases rN (β:=Nat) o with rfl | rfl | ⟨d,rfl⟩ | ⟨xs,rfl⟩ | ⟨xs,rfl⟩ | ⟨xs,rfl⟩
 ·rfl
 ·rfl
 ·rfl
 ·cases a ρ <;> cases k ρ <;> rfl
 ·rfl
 ·rfl
theorem vJ {xs:List OD} {y:OD} {z:Int} {i j:Nat} (h:ixN xs.length z=some j):CG (some (some (.ol xs))) (.ok y) (.ok (.sh (.int z))) i ρ=.ok (.nx (ρ.set i (some (.ol (xs.set j y))))):=by
 show (match (OD.sh (PyData.int z)).er with
  |.int q=>match ixN xs.length q with
   |some j=>R.ok (Out.nx (ρ.set i (some (.ol (xs.set j y)))))
   |none=>.bad
  |_=>.bad)=_
 rw [eM];show (match ixN xs.length z with
   |some j=>R.ok (Out.nx (ρ.set i (some (.ol (xs.set j y)))))
   |none=>.bad)=_
 rw [h]
theorem iM {n j:Nat} (h:j<n):ixN n (j:Int)=some j:=by
 unfold ixN;rw [if_pos (by lia),if_pos (by lia)]
 simp
noncomputable def Bt (o:Option (Option OD)) (i:Nat) (ρ:Env):R Out:=match o with
 |some (some (.ol xs))=>.ok (.nx (ρ.set i (some (.ol xs.reverse))))
 |_=>.bad
noncomputable def CO (o:Option (Option OD)) (i:Nat) (ρ:Env):R Out:=match o with
 |some (some (.ol xs))=>.ok (.nx (ρ.set i (some (.ol []))))
 |_=>.bad
theorem Gf (i:Nat):G6 i ρ=Bt ρ[i]? i ρ:=by unfold G6 Bt;rfl
theorem G8 (i:Nat):Hq i ρ=CO ρ[i]? i ρ:=by unfold Hq CO;rfl
theorem Ht {xs:List OD} {i:Nat}:Bt (some (some (.ol xs))) i ρ=.ok (.nx (ρ.set i (some (.ol xs.reverse)))):=rfl
theorem Et {xs:List OD} {i:Nat}:CO (some (some (.ol xs))) i ρ=.ok (.nx (ρ.set i (some (.ol [])))):=rfl
noncomputable def yL (o:Option (Option OD)) (g:Fg) (i:Nat) (ρ:Env):R Out:=match o with
 |some (some (.ol xs))=>match xs.getLast? with
  |some (.sh d)=>unK (fun ρ'=>.ok (.nx ρ')) (g (.sh d) (ρ.set i (some (.ol xs.dropLast))))
  |_=>.bad
 |_=>.bad
theorem Ej (i:Nat) {g:Fg}:G0 i g ρ=yL ρ[i]? g i ρ:=by
 unfold G0 yL;generalize ρ[i]?=o
 rcases rN (β:=Nat) o with rfl | rfl | ⟨d,rfl⟩ | ⟨xs,rfl⟩ | ⟨xs,rfl⟩ | ⟨xs,rfl⟩
 ·rfl
 ·rfl
 ·rfl
 ·show (match xs.getLast? with
   |some (.sh d)=>(g (.sh d) (ρ.set i (some (.ol xs.dropLast)))).bind fun ρ'=>R.ok (Out.nx ρ')
   |_=>.bad)=(match xs.getLast? with
   |some (.sh d)=>unK (fun ρ'=>R.ok (Out.nx ρ')) (g (.sh d) (ρ.set i (some (.ol xs.dropLast))))
   |_=>R.bad)
  cases xs.getLast? with
  |none=>rfl
  |some x =>
   cases x with
   |sh d=>exact cK _ _
   |ol _=>rfl
   |ot _=>rfl
   |od _=>rfl
 ·rfl
 ·rfl
theorem EJ {xs:List OD} {d:PyData} {i:Nat} {g:Fg}:yL (some (some (.ol (xs++[.sh d])))) g i ρ=unK (fun ρ'=>R.ok (Out.nx ρ')) (g (.sh d) (ρ.set i (some (.ol xs)))):=by
 have h1:(xs++[OD.sh d]).getLast?=some (.sh d):=by simp
 unfold yL;simp only [h1,List.dropLast_concat]
noncomputable def DM (o:Option (Option OD)) (a:R OD) (i:Nat) (ρ:Env):R Out:=match o with
 |some (some (.ol xs))=>unK (λy=>match y with
  |.ol ys=>if xs.length+ys.length<=BIG then .ok (.nx (ρ.set i (some (.ol (xs++ys))))) else .bad
  |_=>.bad) a
 |_=>.bad
theorem Hg (i:Nat):Gq i a ρ=DM ρ[i]? (a ρ) i ρ:=by
 unfold Gq DM;generalize ρ[i]?=o
 rcases rN (β:=Nat) o with rfl | rfl | ⟨d,rfl⟩ | ⟨xs,rfl⟩ | ⟨xs,rfl⟩ | ⟨xs,rfl⟩
 ·rfl
 ·rfl
 ·rfl
 ·cases a ρ with
  |ok y=>cases y <;> rfl
  |ex c=>rfl
  |bad=>rfl
 ·rfl
 ·rfl
theorem GD {xs ys:List OD} {i:Nat}:DM (some (some (.ol xs))) (.ok (.ol ys)) i ρ=if xs.length+ys.length<=BIG then .ok (.nx (ρ.set i (some (.ol (xs++ys))))) else .bad:=rfl
theorem tH {i:Nat} {xs ys:List OD} {z:Int} {j:Nat} {y:OD} (h1:ρ[i]?=some (some (.ol xs))) (h2:k ρ=.ok (.sh (.int z))) (h3:ixN xs.length z=some j) (h4:xs[j]?=some (.ol ys)) (h5:a ρ=.ok y) (h6:ys.length<BIG) :
  kZ i k a ρ=.ok (.nx (ρ.set i (some (.ol (xs.set j (.ol (ys++[y]))))))):=by
 unfold kZ;rw [h1,h2];simp only [gJ,eM,h3,h4,h5,h6,if_true]
end
theorem et {α:Type} {g:Fg} {el:Fe} {ρ0:Env} {ds:List PyData} {r:R (List OD)} (hL:bV g eN el ρ0 ds []=r) (emb:α->PyData) (y:α->OD) (L:List α) (e:ds=L.map emb) (hl:L.length<=BIG) (h:∀x∈L,unK el (g (.sh (emb x)) ρ0)=.ok (y x)):r=.ok (L.map y):=by
 subst e;rw [<-hL];have go:∀(L:List α) (acc:List OD),(∀x∈L,unK el (g (.sh (emb x)) ρ0)=.ok (y x))->acc.length+L.length<=BIG->bV g eN el ρ0 (L.map emb) acc=.ok (acc++L.map y):=by
  intro L
  induction L with
  |nil=>intro acc _ _;rw [List.map_nil,bV,List.map_nil,List.append_nil]
  |cons x L ih =>
   intro acc h hl;have hx:=h x List.mem_cons_self;rw [List.length_cons]at hl;rw [List.map_cons,bV];cases hg:g (.sh (emb x)) ρ0 with
   |ok ρ =>
    rw [hg]at hx;have hx':el ρ=.ok (y x):=hx;simp only [pK,gJ,eN,if_true,hx'];rw [if_pos (by lia),ih (acc++[y x]) (λz hz=>h z (List.mem_cons_of_mem _ hz)) (by rw [List.length_append,List.length_singleton];lia),List.map_cons,List.append_assoc]
    rfl
   |ex c=>rw [hg]at hx;cases hx
   |bad=>rw [hg]at hx;cases hx
 rw [go L [] h (by simpa using hl)]
 rfl
theorem mr {α:Type} {g:Fg} {t:Ft} {el:Fe} {ρ0:Env} {ds:List PyData} {r:R (List OD)} (hL:bV g t el ρ0 ds []=r) (emb:α->PyData) (p:α->Bool) (y:α->OD) (L:List α) (e:ds=L.map emb) (hl:L.length<=BIG) (h:∀x∈L,unK t (g (.sh (emb x)) ρ0)=.ok (p x)/\(p x=true->unK el (g (.sh (emb x)) ρ0)=.ok (y x))):r=.ok ((L.filter p).map y):=by
 subst e;rw [<-hL];have go:∀(L:List α) (acc:List OD),(∀x∈L,unK t (g (.sh (emb x)) ρ0)=.ok (p x)/\(p x=true->unK el (g (.sh (emb x)) ρ0)=.ok (y x)))->acc.length+L.length<=BIG->bV g t el ρ0 (L.map emb) acc=.ok (acc++(L.filter p).map y):=by
  intro L
  induction L with
  |nil=>intro acc _ _;rw [List.map_nil,bV,List.filter_nil,List.map_nil,List.append_nil]
  |cons x L ih =>
   intro acc h hl;obtain ⟨hx,hy⟩:=h x List.mem_cons_self;rw [List.length_cons]at hl;rw [List.map_cons,bV];cases hg:g (.sh (emb x)) ρ0 with
   |ok ρ =>
    rw [hg]at hx hy;have hx':t ρ=.ok (p x):=hx;have hy':p x=true->el ρ=.ok (y x):=hy;simp only [pK,gJ,hx'];by_cases hp:p x=true
    ·rw [if_pos hp,hy' hp]
     simp only [gJ];rw [if_pos (by lia),ih (acc++[y x]) (λz hz=>h z (List.mem_cons_of_mem _ hz)) (by rw [List.length_append,List.length_singleton];lia),List.filter_cons_of_pos hp,List.map_cons,List.append_assoc]
     rfl
    ·rw [if_neg hp,ih acc (λz hz=>h z (List.mem_cons_of_mem _ hz)) (by lia),List.filter_cons_of_neg hp]
   |ex c=>rw [hg]at hx;cases hx
   |bad=>rw [hg]at hx;cases hx
 rw [go L [] h (by simpa using hl)]
 rfl
end L3
namespace L3
open PySem L2
noncomputable def lay (n:Nat) (d:PyData):Prop:=d.canLay0=true/\d.depth<=n
theorem o4 (i:Int):lay 0 (.int i):=⟨rfl,Nat.le_refl _⟩
theorem pP {n:Nat}:∀{xs:List PyData},(∀x∈xs,lay n x)->PyData.canLayAll0 xs=true/\PyData.depthAll xs<=n
 |[],_=>⟨rfl,Nat.zero_le _⟩
 |x :: xs,h=>by
  obtain ⟨a1,a2⟩:=h x List.mem_cons_self;obtain ⟨b1,b2⟩:=pP (xs:=xs) λy hy=>h y (List.mem_cons_of_mem _ hy)
  unfold PyData.canLayAll0 PyData.depthAll;rw [a1,b1];exact ⟨rfl,by lia⟩
theorem w_ {n:Nat} {xs:List PyData} (h:∀x∈xs,lay n x):lay (n+1) (.list xs):=by
 obtain ⟨b1,b2⟩:=pP h;refine ⟨by unfold PyData.canLay0;exact b1,?_⟩
 unfold PyData.depth
 lia
theorem oQ {n:Nat} {xs:List PyData} (h:∀x∈xs,lay n x):lay (n+1) (.tuple xs):=by
 obtain ⟨b1,b2⟩:=pP h;refine ⟨by unfold PyData.canLay0;exact b1,?_⟩
 unfold PyData.depth
 lia
theorem fH {n:Nat} {d:PyData} (h:lay n d) (hn:n<=64):SeqAt.shaped d=true:=by
 unfold SeqAt.shaped;rw [Bool.and_eq_true];exact ⟨h.1,decide_eq_true (Nat.le_trans h.2 hn)⟩
theorem lay_ints (ns:List Int):lay 1 (.list (ns.map PyData.int)):=w_ λx hx=>by
 obtain ⟨n,_,rfl⟩:=List.mem_map.mp hx;exact o4 n
theorem qW (a b:List PyData):eqD (.list a) (.list b)=jr (.list a) (.list b):=rfl
theorem oR (a b:List PyData):eqD (.tuple a) (.tuple b)=jr (.tuple a) (.tuple b):=rfl
theorem oE {n:Nat} {d:PyData} (h:lay n d) (hn:n<=64):jr d d=.ok true:=by
 unfold jr;rw [fH h hn,Bool.and_self,if_pos rfl,SeqAt.eqv_refl _ (SeqAt.canLay_of_shaped (fH h hn))]
theorem xN {n:Nat} {a:List PyData} (h:lay n (.list a)) (hn:n<=64:=by decide):gEq (.list a) (.list a)=.ok (.sh (.bool true)):=by
 unfold gEq;rw [qW,oE h hn];rfl
end L3
namespace L3
open PySem L2
theorem FW (z:Str) (i:Int):gIx (.str z) (.int i)=if z.length<=BIG then jU ((atI z.cps.toList i).map λc=>.str ⟨#[c]⟩) else .bad:=rfl
theorem AG (x y:Str):dJ (.str x) (.str y)=if x.length+y.length<=BIG then .ok (.sh (.str (x++y))) else .bad:=rfl
theorem x6 (x y:List PyData):dJ (.list x) (.list y)=if x.length+y.length<=BIG then .ok (.ol ((x++y).map OD.sh)) else .bad:=rfl
theorem BO (xs:List PyData) (k:Int):eh (.list xs) (.int k)=if (decide (-(2 ^ 63)<=k) && decide (k<2 ^ 63) && decide (xs.length * k.toNat<=BIG))=true then .ok (.ol ((List.replicate k.toNat xs).flatten.map OD.sh)) else .bad:=rfl
theorem mm (x:PyData) (n:Nat) (h:n<=1000):eh (.list [x]) (.int n)=.ok (.ol ((List.replicate n x).map OD.sh)):=by
 rw [BO,if_pos]
 ·rw [Int.toNat_natCast]
  congr 2
  induction n with
  |zero=>rfl
  |succ n ih=>rw [List.replicate_succ,List.flatten_cons,List.map_append,ih (by lia),List.replicate_succ,List.map_cons];rfl
 ·rw [Bool.and_eq_true,Bool.and_eq_true,decide_eq_true_eq,decide_eq_true_eq,decide_eq_true_eq]
  refine ⟨⟨by lia,by lia⟩,?_⟩
  rw [Int.toNat_natCast,List.length_singleton,Nat.one_mul];exact of_eq_true (bM h)
theorem GW (x y:Str):gEq (.str x) (.str y)=.ok (.sh (.bool (decide (x=y)))):=rfl
theorem Hb (x y:Str):gNe (.str x) (.str y)=.ok (.sh (.bool (!decide (x=y)))):=rfl
end L3
namespace L3
open PySem L2
noncomputable def xG (S:Env->Prop) (T:OD->Prop):R Out->Prop
 |.ok (.nx ρ)=>S ρ
 |.ok (.ct ρ)=>S ρ
 |.ok (.rt x)=>T x
 |_=>False
theorem Fj {S:Env->Prop} {T:OD->Prop} {ρ:Env}:xG S T (.ok (.nx ρ))=S ρ:=rfl
theorem GY {S:Env->Prop} {T:OD->Prop} {ρ:Env}:xG S T (.ok (.ct ρ))=S ρ:=rfl
theorem FA {S:Env->Prop} {T:OD->Prop} {x:OD}:xG S T (.ok (.rt x))=T x:=rfl
theorem x5 (xs:List PyData) (a:Nat) (ha:a<=xs.length):cutD xs (some (a:Int)) none=xs.drop a:=by
 unfold cutD;rw [HT.sF,HT.mG,Nat.min_eq_left ha,List.take_of_length_le (by rw [List.length_drop];lia)]
end L3
namespace L3
open PySem L2 PySem.Spec PyProof.Rows
noncomputable def Itd (lo:Int) (n:Nat):It:=⟨λi _=>i<n,λi H x H'=>H'=H/\x=.int (lo-i),λi _=>n<=i⟩
theorem uE {P:Program} {w:World} {K:PySem.W.Frag} {tg:Expr} (it:Addr) (lo:Int) (n:Nat):Turn P w K tg (Itd lo n) [it] it (λi h=>IsRangeIter h it (lo+(i:Nat) * (-1)) ((n:Int)-(i:Nat)) (-1)) where
 mem:=by simp
 obj:=λi h st b hb=>by
  have e:b=it:=by simpa using hb
  subst e;exact ⟨_,st,λv z=>by
   have z':Data.fields _=Data.cell v:=z;cases z'⟩
 keep:=λi h h' st k=>k it (by simp) _ st
 item:=by
  intro X hP hw hK hc i pins s σ H E I hf st hg;subst hP hw hK;obtain ⟨f0,f1,f2,f3,f4,f5⟩:=hf it (by simp)
  have W:=PySem.Walks.range (prog:=X.prog) (w:=X.w) (I.ok.hd hc) it lo (-1) n;refine W.item i s _ _ hg st λv h' tk hv st' kk=>?_
  obtain ⟨t,rfl⟩:=hv;have I1:Inv X pins σ H { s with heap:=h',toks:=tk }:=I.turned (λb o hb e=>kk b o (by simpa using hb) e) f0 f1 f3 f4 f5
  refine ⟨_,rfl,tP (s:={ s with heap:=h',toks:=tk }) (n := "range_iterator") st' rfl rfl (by decide) ⟨.int (lo-i),H,I1,⟨t,?_⟩,⟨rfl,rfl⟩,st',λb hb=>(hf b hb).1⟩⟩
  congr 1
  lia
 done:=by
  intro X hP hw hK hc i pins s σ H E I hf st hg;subst hP hw hK;obtain ⟨f0,f1,f2,f3,f4,f5⟩:=hf it (by simp)
  exact wpAny_pyNext_range_end (I.ok.hd hc) st (by have:n<=i:=hg;lia) λh' eb=>⟨rfl,I.turned (t':=s.toks) (λb o hb e=>eb b o hb e) f0 f1 f3 f4 f5⟩
 self:=λ_ _ _ _ _ st h=>wpAny_pyIter_rangeiter st h
theorem rangeSize_down (a b:Int):Builtin.Range.rangeSize a b (-1)=if a > b then a-b else 0:=by
 unfold Builtin.Range.rangeSize;simp only [show ¬((-1:Int) > 0) by decide,if_false]
 have:(-(-1:Int))=1:=by decide
 rw [this,Int.ediv_one];split <;> lia
theorem small_down {a b:Int} (ha:-(2 ^ 62)<=a) (ha':a<2 ^ 62) (hb:-(2 ^ 62)<=b) (hb':b<2 ^ 62):Builtin.Range.small a b (-1)=true:=by
 unfold Builtin.Range.small;rw [rangeSize_down];simp only [Builtin.Range.rangeFitsLong,Bool.and_eq_true,Bool.or_eq_true,decide_eq_true_eq,beq_iff_eq,show ¬((-1:Int) > 0) by decide,if_false]
 split <;> lia
section
variable {X:Cx} {tg:Expr}
theorem zC {pins:List (Addr×Obj)} {σ:St} {H:Hp} {s:Shared} {R:It->Hp->Prop} {E:Value->Shared->Prop} {lo hi:Int} {t u v:Tok} {tk:Nat} (I:Inv X pins σ H s) (h1:-(2 ^ 62)<=lo) (h2:lo<2 ^ 62) (h3:-(2 ^ 62)<=hi) (h4:hi<2 ^ 62)
  (q:R (Itd lo (lo-hi).toNat) H):wpAny (model X.prog X.w) X.A (pyIter (.ref s.heap.objs.size)) (PIE X pins σ tg R) E { s with heap:=s.heap.push { cls:=.type "range",data:=.fields #[.int lo t,.int hi u,.int (-1) v] },toks:=tk }:=by
 refine wpAny_pyIter_range (IsRange.new ..) (small_down h1 h2 h3 h4) ?_;have I1:Inv X pins σ H { s with heap:=s.heap.push { cls:=.type "range",data:=.fields #[.int lo t,.int hi u,.int (-1) v] },toks:=tk }:=I.kept λb o e=>Heap.get?_push_of_some _ e
 refine ⟨(s.heap.push { cls:=.type "range",data:=.fields #[.int lo t,.int hi u,.int (-1) v] }).objs.size,[(s.heap.push { cls:=.type "range",data:=.fields #[.int lo t,.int hi u,.int (-1) v] }).objs.size],_,_,H,rfl,
  I1.kept (t':=tk) λb o e=>Heap.get?_push_of_some _ e,uE _ lo (lo-hi).toNat,?_,λb hb=>?_,q⟩
 ·have e1:lo+((0:Nat):Int) * (-1)=lo:=by simp
  have e2:(((lo-hi).toNat:Nat):Int)-((0:Nat):Int)=Builtin.Range.rangeSize lo hi (-1):=by rw [rangeSize_down];split <;> lia
  show IsRangeIter _ _ (lo+((0:Nat):Int) * (-1)) ((((lo-hi).toNat:Nat):Int)-((0:Nat):Int)) (-1)
  rw [e1,e2];exact Heap.get?_push_size _ rfl
 ·have e:b=(s.heap.push { cls:=.type "range",data:=.fields #[.int lo t,.int hi u,.int (-1) v] }).objs.size:=by simpa using hb
  subst e;exact I1.fpOk (Nat.le_refl _) (I1.hok.fresh (Nat.le_refl _))
noncomputable def Ab (ta:TA):TI:=fun σ H R=>ta σ H λvs H1=>∃i j:Int,vs=[.int i,.int j,.int (-1)]/\(-(2 ^ 62)<=i/\i<2 ^ 62/\-(2 ^ 62)<=j/\j<2 ^ 62)/\R (Itd i (i-j).toNat) H1
theorem uh {a b c:Expr} {ta:TA} {p pos:Pos} (hg:Gl X "range") (hm:X.mg "range" = none) (ha:PA X [a,b,c] ta) (hs:starEach [a,b,c] X.env=(false,eval a X.env) :: starEach [b,c] X.env) (hs2:(backTo pos (starEach [b,c] X.env)).any (·.1)=false) :
  PI X tg (.Call (.Name "range" p) [a,b,c] [] pos) (Ab ta):=by
 intro pins s σ H R I h;refine Call_ (ik I hg hm boot_range (PyProof.Rows.callWith_type1 (thn (ha pos pins s σ H _ I h) λus s1 ⟨vs,H1,I1,r1,q1⟩=>?_) hs hs2))
 obtain ⟨i,j,e,⟨q1,q2,q3,q4⟩,q⟩:=q1;subst e;cases r1 with
 |cons r rr =>
  cases rr with
  |cons r' rr =>
   cases rr with
   |cons r'' rr =>
    cases rr;obtain ⟨t,rfl⟩:=r;obtain ⟨t',rfl⟩:=r';obtain ⟨t'',rfl⟩:=r'';exact call_range_3 (by decide) (zC I1 q1 q2 q3 q4 q) (.inl (PyProof.noPylong_small (by decide)))
end
noncomputable def mW (lo:Int) (n:Nat):List PyData:=(List.range n).map λk:Nat=>PyData.int (lo-k)
noncomputable def iR3 (a b c:Fe):Fi:=fun ρ=>(a ρ).bind λx=>(b ρ).bind λy=>(c ρ).bind λz=>match x.er,y.er,z.er with
 |.int i,.int j,.int k=>if (aI i && aI j && decide (k=-1))=true then .ok (mW i (i-j).toNat) else .bad
 |_,_,_=>.bad
theorem rP {K:PySem.W.Frag} {F:Hp} (lo:Int) (k:Nat):Walks K F (Itd lo k) (mW lo k):=by
 intro i G H s1 s2;unfold mW;refine ⟨λd hd=>?_,λhl=>(show k<=i by simpa using hl)⟩
 rw [List.getElem?_map]at hd;obtain ⟨j,hj,rfl⟩:=Option.map_eq_some_iff.mp hd;obtain ⟨h1,h2⟩:=List.getElem?_eq_some_iff.mp hj;have h3:i=j:=by simpa using h2
 subst h3;refine ⟨(show i<k by simpa using h1),λx H' y=>?_⟩
 obtain ⟨rfl,rfl⟩:=y;exact ⟨G,Ext.refl s2,.int _⟩
section
variable {M:Mx} {n:Nat} {H:Hp} {σ:St} {R':It->Hp->Prop} {X:Cx} {a b c e:Expr} {fa fb fc:Fe} {pos:Pos} {D:Ends}
theorem HP (h:tI M n (iR3 fa fb fc) σ H R'):Ab (tA M n (af fa (af fb (af fc av)))) σ H R':=by
 obtain ⟨F,ρ,fp,S,p⟩:=h;refine ⟨F,ρ,fp,S,?_⟩;unfold iR3 at p;have p1:=aE.bind p;show aE M H fp _ (af fa (af fb (af fc av)) ρ)
 rw [md,md,md,xS];cases ha:fa ρ with
 |bad=>rw [ha]at p1;exact p1
 |ex c=>rw [ha]at p1;exact p1
 |ok x =>
  rw [ha]at p1;have p2:aE M H fp _ (fb ρ):=aE.bind p1;cases hb:fb ρ with
  |bad=>rw [hb]at p2;exact p2
  |ex c=>rw [hb]at p2;exact p2
  |ok y =>
   rw [hb]at p2;have p3:aE M H fp _ (fc ρ):=aE.bind p2;cases hc:fc ρ with
   |bad=>rw [hc]at p3;exact p3
   |ex c=>rw [hc]at p3;exact p3
   |ok z =>
    rw [hc]at p3;intro vs F1 H1 fx e1 r1 w1;obtain ⟨G1,d1,k1⟩:=r1.frz e1 w1;cases k1 with
    |@cons v _ _ _ k1 k2 =>
     cases k2 with
     |@cons w _ _ _ k2 k3 =>
      cases k3 with
      |@cons u _ _ _ k3 k4 =>
       cases k4;have p4:aE M H fp (OkI M.K F H R') (match x.er,y.er,z.er with
        |.int i,.int j,.int k=>if (aI i && aI j && decide (k=-1))=true then .ok (mW i (i-j).toNat) else .bad
        |_,_,_=>.bad):=p3
       generalize x.er=dx at p4 k1
       generalize y.er=dy at p4 k2
       generalize z.er=dz at p4 k3
       split at p4
       ·rename_i i j k
        cases k1;cases k2;cases k3;by_cases hs:(aI i && aI j && decide (k=-1))=true
        ·rw [if_pos hs]at p4
         rw [Bool.and_eq_true,Bool.and_eq_true,decide_eq_true_eq]at hs;obtain ⟨⟨h1,h2⟩,rfl⟩:=hs;have h1:=fk.mp h1;have h2:=fk.mp h2;exact ⟨i,j,rfl,⟨h1.1,h1.2,h2.1,h2.2⟩,p4 _ G1 H1 d1 (rP _ _)⟩
        ·rw [if_neg hs]at p4
         exact p4.elim
       ·exact p4.elim
theorem An {tg:Expr} {p:Pos} (hg:Gl X "range") (hm:X.mg "range" = none) (h:DE M X a fa) (k:DE M X b fb) (l:DE M X c fc) (hs1:starEach [a,b,c] X.env=(false,eval a X.env) :: starEach [b,c] X.env:=by rfl) (hs0:starEach [b,c] X.env=(false,eval b X.env) :: starEach [c] X.env:=by rfl)
  (hs3:starEach [c] X.env=(false,eval c X.env) :: starEach [] X.env:=by rfl) (hs2:(backTo pos (starEach [b,c] X.env)).any (·.1)=false:=by rfl):DI M X tg (.Call (.Name "range" p) [a,b,c] [] pos) (iR3 fa fb fc):=λhK hM =>
 λpins s σ H R' I z=>uh hg hm ((ab h (ab k (ab l aj hs3) hs0) hs1) hK hM) hs1 hs2 pins s σ H R' I (HP z)
theorem Fu {ρ:Env} {x y z:Int} (h1:fa ρ=.ok (.sh (.int x))) (h2:fb ρ=.ok (.sh (.int y))) (h3:fc ρ=.ok (.sh (.int z))) (hz:z=-1) (s1:aI x=true) (s2:aI y=true):iR3 fa fb fc ρ=.ok (mW x (x-y).toNat):=by
 unfold iR3;rw [h1,h2,h3];subst hz;simp only [gJ,eM,s1,s2,Bool.and_self,decide_true,if_true]
theorem qb {lo:Int} {n i:Nat} {d:PyData} (h:(mW lo n)[i]?=some d):i<n/\d=.int (lo-i):=by
 unfold mW at h;rw [List.getElem?_map]at h;obtain ⟨j,hj,rfl⟩:=Option.map_eq_some_iff.mp h;obtain ⟨h1,h2⟩:=List.getElem?_eq_some_iff.mp hj;have h3:i=j:=by simpa using h2
 subst h3;exact ⟨by simpa using h1,rfl⟩
theorem x8 (lo:Int) (n:Nat):(mW lo n).length=n:=by unfold mW;simp
end
end L3
namespace L3
open PySem L2 PySem.Spec PyProof.Rows
noncomputable def yn (P:Program) (base:Heap):Prop:=base.NoSeer/\P.given.tree=none
noncomputable def xW:PyData->PyData->R OD
 |.int i,.int j=>if 0<j then .ok (.sh (.int (i / j))) else .bad
 |_,_=>.bad
theorem vh {M:Mx}:Ok2 M (rI (λ_ j=>0<j) λi j=>.int (i / j)) xW:=by
 intro x y dx dy F H fp Q s rx ry p;unfold xW at p;split at p
 ·cases rx;cases ry
  split at p
  ·rename_i hc
   exact ⟨_,_,rfl,rfl,hc,okI s p⟩
  ·exact p.elim
 ·exact p.elim
theorem wu {X:Cx} {env:PySem.Env} {l:List PySem.Env} (S:yn X.prog X.base) (hr:Room 33 X.A) (hst:X.stack=env :: l) (hgen:env.scope.isGenerator=false) (hco:env.scope.isCoroutine=false) (hb:env.builtins=builtinsNs) (hg:env.globals=mainGlobals) :
  OpR X (binaryOp .FloorDiv) (rI (λ_ j=>0<j) λi j=>.int (i / j)):=by
 intro pins s σ H x y v u Q I rx ry h;obtain ⟨i,j,rfl,rfl,hc,q⟩:=h;obtain ⟨t,rfl⟩:=rx;obtain ⟨t',rfl⟩:=ry;have hpl:PylongRoom (model X.prog X.w) X.A s:=PylongRoom.of I.nolimit (by have:=hr.dp;show X.A.depth+100<_;lia) (SeerAt.of (S.1.keeps I.bk) S.2 (by rw [I.ok.frames,hst]) hgen hco hb hg)
 exact floordiv_int (by lia) (by rw [Int.fdiv_eq_ediv_of_nonneg i (by lia)];exact ⟨.int (i / j),H,I.tok _,⟨_,rfl⟩,q⟩) (.inr hpl)
theorem Aa (i j:Int):xW (.int i) (.int j)=if 0<j then .ok (.sh (.int (i / j))) else .bad:=rfl
theorem ur {P:Program} {w:World} {K:PySem.W.Frag} {mg mb:Str->Option Value} {CX:CXT} {k:Nat} {fa a:Addr} {fd:FuncData} {x:Str} {sp:Sp} {s₁:Shared} {vs:List Value} {ns:List Int}
  (KX:K.In s₁.heap) (hns:s₁.heap.Ns mainGlobals mg) (hb:s₁.heap.Ns builtinsNs mb) (hbb:∀x:Str,x ≠ "__name__" -> mb x=bootBuiltins x) (hlim:s₁.heap.NoLimit) (hseer:s₁.heap.NoSeer) (hg:s₁.gens=#[])
  (ha:s₁.heap.get? a=some { cls:=.type "list",data:=.seq vs.toArray }) (hi:IntsAre vs ns) (hl:ns.length<=sizeLine) (hr:Room k callerA)
  (F:∀base:Heap,K.In base->base.Ns mainGlobals mg->base.NoSeer->FnOk P w K mg base CX k fa fd [x] sp) (hbind:∀(s:Shared) (u:Value),BindsTo s fd ⟨[u],[]⟩ [(x,u)])
  (hsp:∀H:Hp,ui H->RdK K H a (ns.map V.int)->sp [.ref a] H (λv _=>v=.bl true) λ_ _ _=>False)
  (hCX:∀H e s',CX [] H s₁ (λ_ _ _=>False) e s'->False) :
  codeAny (model P w) callerA (.call (.ref fa) ⟨[.ref a],[]⟩) (λr s'=>r=.ok (.ret (.bool true))/\OldK s₁.heap s'.heap/\s'.os=s₁.os/\AllBare s'.gens) s₁:=by
 have rv:=iH hi;have lenV:=hi.length;have core:∀H:Hp,ui H->RdK K H a (ns.map V.int)->HOk P w H s₁.heap->(∀b,H b≠none->b=a)->(H a≠none->K.lookup a=none) ->
   codeAny (model P w) callerA (.call (.ref fa) ⟨[.ref a],[]⟩) (λr s'=>r=.ok (.ret (.bool true))/\OldK s₁.heap s'.heap/\s'.os=s₁.os/\AllBare s'.gens) s₁:=by
  intro H hO hS hok hA hK;have base_of:∀{b:Addr} {o:Obj},s₁.heap.get? b=some o->H b=none->(j6 s₁.heap H).get? b=some o:=λe n=>qG e n
  have noA:∀{b:Addr} {o:Obj} {es:Array DictEntry} {ep:Nat},s₁.heap.get? b=some o->o.data=.dict es ep->H b=none:=fun {b o es ep} e d=>by
   cases q:H b with
   |none=>rfl
   |some u =>
    have e':b=a:=hA b (by rw [q];simp)
    subst e';rw [ha]at e;cases e;have d':Data.seq vs.toArray _=Data.dict es ep:=d;cases d'
  have nsK:∀{b:Addr} {m:Str->Option Value},s₁.heap.Ns b m->(j6 s₁.heap H).Ns b m:=fun {b m} ⟨o,es,ep,e,d,r⟩=>⟨o,es,ep,base_of e (noA e d),d,r⟩
  have noC:∀{b:Addr} {o:Obj},s₁.heap.get? b=some o->o.cls=.type "module" -> H b=none:=fun {b o} e d=>by
   cases q:H b with
   |none=>rfl
   |some u =>
    have e':b=a:=hA b (by rw [q];simp)
    subst e';rw [ha]at e;cases e;have d':Value.type "list" = Value.type "module" := d;exact absurd d' (by decide)
  have hKb:K.In (j6 s₁.heap H):=λb o e=>base_of (KX b o e) (by
   cases q:H b with
   |none=>rfl
   |some u =>
    have e':b=a:=hA b (by rw [q];simp)
    subst e';rw [hK (by rw [q];simp)]at e;cases e)
  have hSb:(j6 s₁.heap H).NoSeer :=
   ⟨let ⟨mc,h1,h2⟩:=hseer.statics;⟨mc,nsK h1,h2⟩,let ⟨mc,h1,h2⟩:=hseer.mods;⟨mc,nsK h1,h2⟩,let ⟨mc,h1,h2⟩:=hseer.imp;⟨mc,nsK h1,h2⟩,let ⟨m1,bm,ob,h1,h2,h3,h4,h5⟩:=hseer.main;⟨m1,bm,ob,nsK h1,h2,base_of h3 (noC h3 h4),h4,h5⟩⟩
  have hM:Mod K mg (j6 s₁.heap H):=⟨hKb,nsK hns,⟨mb,nsK hb,hbb⟩,let ⟨mc,h1,h2⟩:=hlim;⟨mc,nsK h1,h2⟩⟩;have e0:Env0 P w K mg (j6 s₁.heap H) callerA [] s₁ H:=⟨rfl,hM,λb o e=>tW e,Nat.le_of_eq (og _ _),trivial,λb hb=>absurd (show b∈([]:List Addr) from hb) (by simp),hok,.of_eq hg⟩
  refine codeAny_mono ((F _ hKb (nsK hns) hSb).run callerA [] s₁ H ⟨[.ref a],[]⟩ [.ref a] [.ref a] _ _ hr e0 (hbind s₁ (.ref a)) (.cons rfl .nil) (hsp H hO hS)) λr s' h=>?_
  cases r with
  |error e=>exact (hCX H e s' h).elim
  |ok fl =>
   cases fl with
   |next=>exact False.elim h
   |brk=>exact False.elim h
   |cont=>exact False.elim h
   |ret u =>
    obtain ⟨v,H',os,bare,un,hok',r',q⟩:=h;have q':v=.bl true:=q;subst q';obtain rfl:u=Value.bool true:=r';refine ⟨rfl,OldK.of_keep λb o e=>?_,os,bare⟩
    cases q:H b with
    |none=>exact un.keep b o e q (by intro z;exact absurd (show b∈([]:List Addr) from z) (by simp)) (by simp)
    |some u =>
     rcases hO b with z | ⟨ob,xs,z⟩
     ·rw [q]at z;cases z
     ·have z2:=un.frzs b ob _ z
      obtain ⟨e1,_⟩:=hok b _ z;obtain ⟨e2,_⟩:=hok' b _ z2;rw [e]at e1;cases e1;exact e2
 cases hk:K.lookup a with
 |some o =>
  have e:=KX a o hk;rw [ha]at e;cases e;refine core (λ_=>none) (λ_=>.inl rfl) (.inr ⟨vs.toArray,_,hk,by rw [List.size_toArray,lenV];exact hl,by simpa using rv⟩) (λb u z=>by have z':(none:Option HO)=some u:=z;cases z') (λb z=>absurd rfl z) λz=>absurd rfl z
 |none =>
  refine core (λb=>if b=a then some (.frz { cls:=.type "list",data:=.seq vs.toArray } (.lst (ns.map V.int))) else none) (λb=>?_) (.inl (.inr ⟨{ cls:=.type "list",data:=.seq vs.toArray },if_pos rfl⟩)) (λb u z=>?_) (λb z=>?_) λ_=>hk
  ·by_cases hb:b=a
   ·exact .inr ⟨_,_,if_pos hb⟩
   ·exact .inl (if_neg hb)
  ·by_cases hb:b=a
   ·have z':=(if_pos hb).symm.trans z
    cases z';subst hb;exact ⟨ha,by rw [List.length_map];exact hl,vs,_,rv,ha⟩
   ·have z':=(if_neg hb).symm.trans z
    cases z'
  ·by_cases hb:b=a
   ·exact hb
   ·exact absurd (if_neg hb) z
theorem yb {l:PySem.W.OpenLaw} {n k:Nat} {q:Program} {loose:List Str} {XP:(Str->Option Value)->Heap->Prop} {YP:World->Heap->Prop} {d:DefRec} {K:Params->PySem.W.Frag} {CX:World->CXT} {sp:World->Sp} {x:Str}
  (hq:importsNone q=true) (hn:l.most=some n) (hn2:n<=sizeLine) (hdf:d.params.defaults=[]) (hr:Room k callerA)
  (hY:∀(w:World) (h:Heap),YP w h->(K w.params).In h)
  (F:∀(w:World) (mg:Str->Option Value) (fa:Addr) (h:Heap),(K w.params).In h->h.Ns mainGlobals mg->mg d.name=some (.ref fa) ->
   ∃fd:FuncData,(∀(s:Shared) (u:Value),BindsTo s fd ⟨[u],[]⟩ [(x,u)]) /\
    ∀base:Heap,(K w.params).In base->base.Ns mainGlobals mg->base.NoSeer->FnOk l.prog w (K w.params) mg base (CX w) k fa fd [x] (sp w))
  (hsp:∀(w:World) (H:Hp) (a:Addr) (ns:List Int),ns.length<=n->ui H->RdK (K w.params) H a (ns.map V.int)->sp w [.ref a] H (λv _=>v=.bl true) λ_ _ _=>False)
  (hCX:∀(w:World) (H:Hp) (s:Shared) (e:Value) (s':Shared),CX w [] H s (λ_ _ _=>False) e s'->False) :
  PySem.W.WalkO q loose XP YP l.row.toRowW d [] (λf vs=>PySem.call f vs):=by
 refine Att.lL hn hdf λw s₀ s₁ mg mb fa o pm cd doc a vs ns G Y ho hd hcd hmg hobj hints hlen hg=>?_
 have KX:=hY w _ Y;obtain ⟨fd,hb,hF⟩:=F w mg fa _ KX G.T.g hmg;exact ur KX G.T.g G.T.b G.T.builtins G.T.nolimit (G.T.seer hq) hg hobj hints (Nat.le_trans hlen hn2) hr hF hb (λH hO hS=>hsp w H a ns hlen hO hS) λH e s'=>hCX w H s₁ e s'
theorem Fq {l:PySem.W.OpenLaw} {q:Program} {loose:List Str} {XP:(Str->Option Value)->Heap->Prop} {YP:World->Heap->Prop} {d:DefRec} {K:Params->PySem.W.Frag} {x:Str} {k:Nat} {fn:Fn} (hq:importsNone q=true) (hn:l.most=some 63) (hdf:d.params.defaults=[]) (hr:Room k callerA)
  (hY:∀(w:World) (h:Heap),YP w h->(K w.params).In h) (hl:∀ns:List Int,ns.length<=63->fn [.list (ns.map PyData.int)]=.ok (.sh (.bool true))) (ht:l.prog.given.tree=none)
  (F:∀(w:World) (mg:Str->Option Value) (fa:Addr) (h:Heap),(K w.params).In h->h.Ns mainGlobals mg->mg d.name=some (.ref fa) ->
   ∃fd:FuncData,(∀(s:Shared) (u:Value),BindsTo s fd ⟨[u],[]⟩ [(x,u)])/\∀base:Heap,(K w.params).In base->base.Ns mainGlobals mg->yn l.prog base->FnOk l.prog w (K w.params) mg base CX0 k fa fd [x] (sp3 (K w.params) mg fn)) :
  PySem.W.WalkO q loose XP YP l.row.toRowW d [] (λf vs=>PySem.call f vs):=by
 refine yb (n:=63) (k:=k) (x:=x) (CX:=λ_=>CX0) (sp:=λw vs H Q E=>∃F ds x,aP F H/\RepAll (K w.params) F vs ds/\fn ds=.ok x/\OkE ⟨K w.params,λ_=>none,E⟩ F H Q x) hq hn (by decide) hdf hr hY (λw mg fa h a b c=>?_) (λw H a ns hlen _ hS=>?_) λ_ _ _ _ _ z=>z
 ·obtain ⟨fd,h1,h2⟩:=F w mg fa h a b c
  refine ⟨fd,h1,λbase kb nb sb=>(h2 base kb nb ⟨sb,ht⟩).imp ?_⟩
  rintro vs H Q E ⟨F0,ds,y,sm,ra,e,p⟩;refine ⟨F0,ds,sm,ra,?_⟩;rw [e];exact λv F' H' fx=>p v F' H' fx
 ·refine ⟨H,[.list (ns.map PyData.int)],_,aP.refl _,.cons (.lst hS (RepAll.ofInts ns)) .nil,hl ns hlen,?_⟩
  intro v F' H' fx e r w;cases r.own with
  |sh q =>
   cases q;rfl
end L3
namespace L3
open PySem L2 PySem.Spec PyProof.Rows
noncomputable def i5 (i:Nat) (kk:Int) (a:Fe):Nat->Nat->Env->R Out
 |0,_,ρ=>.ok (.nx ρ)
 |c+1,m,ρ=>match ρ[i]? with
  |some (some (.ol xs))=>match xs[m]? with
   |some (.ol ys)=>(a ρ).bind λy=>match ixN ys.length kk with
    |some q=>i5 i kk a c (m+1) (ρ.set i (some (.ol (xs.set m (.ol (ys.set q y))))))
    |none=>.bad
   |_=>.bad
  |_=>.bad
section
variable {M:Mx} {n:Nat} {σ:L3.St} {H:Hp} {D:Ends}
end
section
variable {M:Mx} {X:Cx} {e b:Expr} {fa:Fe} {x y:Str} {p p1 p2 p3 pos pos':Pos}
end
end L3
namespace L3
open PySem L2 PySem.Spec PyProof.Rows
section
variable {K:PySem.W.Frag} {F H:Hp}
end
section
variable {M:Mx} {n:Nat} {σ:L3.St} {H:Hp} {D:Ends} {Q:VK} {fa fb:Fe}
end
section
variable {M:Mx} {X:Cx} {a b e:Expr} {fa fb:Fe} {x:Str} {p pos pos':Pos}
end
section
variable {ρ:Env} {a b k:Fe}
end
end L3
namespace L3
open PySem L2 PySem.Spec PyProof.Rows
section
variable {X:Cx} {M:Mx}
end
end L3
namespace L3
open PySem L2 PySem.Spec PyProof.Rows
section
variable {X:Cx} {M:Mx}
end
end L3
namespace L3
open PySem L2 PySem.Spec PyProof.Rows
noncomputable def signs (x:Str):List PyData:=x.cps.toList.map λc=>PyData.str ⟨#[c]⟩
end L3
namespace L3
open PySem L2 PySem.Spec PyProof.Rows
section
variable {M:Mx} {n:Nat} {σ:L2.St} {H:Hp} {Q:VK} {al ak:Fa}
noncomputable def gK {α:Type} (m j:Nat) (us ws:List α):List α:=if us.length=m/\ws.length=j then us++ws else []
end
section
variable {M:Mx} {X:Cx} {e:Expr} {es:List Expr} {pos kpos:Pos} {fa:Fe} {al ak:Fa} {kws:List Keyword} {nm:Option Str}
end
theorem zz {m j:Nat} {vs:List V} {us:List Value} {zs:List V} {ws:List Value} (a:Vals vs us) (b:Vals zs ws):Vals (gK m j vs zs) (gK m j us ws):=by
 unfold gK;rw [a.length,b.length];split
 ·exact a.append b
 ·exact .nil
structure FunD (K:PySem.W.Frag) (x qual:Str) (st:Stmt) (f:Addr) (fd:FuncData):Prop where
 ex:∃(oc:Value) (od:Option Addr) (dV kV doc pm:Value) (an:Option Addr) (cdv ct:Value) (osl:Array (Option Value)),
  fd=PySem.W.fnOf x qual (aH st) (aB st) (ag st) dV kV doc pm an cdv ct/\K.lookup f=some ⟨oc,od,.func fd,osl⟩/\PySem.W.codeIn K cdv qual=true
 kp:PySem.W.keepIn K (.ref f)=true
theorem oY {K:PySem.W.Frag} {x qual:Str} {st:Stmt} {f:Addr} {oc:Value} {od an:Option Addr} {osl:Array (Option Value)} {dV kV doc pm cdv ct:Value} (l:K.lookup f=some ⟨oc,od,.func (PySem.W.fnOf x qual (aH st) (aB st) (ag st) dV kV doc pm an cdv ct),osl⟩)
  (c:PySem.W.codeIn K cdv qual=true) (k:PySem.W.keepIn K (.ref f)=true):FunD K x qual st f (PySem.W.fnOf x qual (aH st) (aB st) (ag st) dV kV doc pm an cdv ct):=⟨⟨oc,od,dV,kV,doc,pm,an,cdv,ct,osl,rfl,l,c⟩,k⟩
theorem FunD.ok {P:Program} {w:World} {K:PySem.W.Frag} {mg:Str->Option Value} {base:Heap} {x qual:Str} {st:Stmt} {f:Addr} {fd:FuncData} {N ps:List Str} {k:Nat} {sp:Sp} (F:FunD K x qual st f fd) (S:FnScope N ps (ag st)) (len:∀vs H Q E,sp vs H Q E->vs.length=ps.length)
  (hbody:∀(cdv:Value) (A:Around) (outer:List PySem.Env) (s:Shared) (H:Hp) (vs:List V) (Q:VK) (E:XK),Room k (A.deeper (envOfC qual (ag st) s.heap.objs.size f cdv))->sp vs H Q E ->
   ∃t,PSs (nV CX0 P w K mg base N qual (ag st) f cdv A outer s H E).nox (aB st) t/\t { nx:=λ_ H'=>Q .non H',rt:=Q } (start N vs) H):FnOk P w K mg base CX0 (k+1) f fd ps sp:=by
 obtain ⟨oc,od,dV,kV,doc,pm,an,cdv,ct,osl,rfl,lk,hcd⟩:=F.ex;refine Af lk hcd S len λA outer s H vs Q E hr hsp=>?_
 obtain ⟨t,h,q⟩:=hbody cdv A outer s H vs Q E hr hsp;exact ⟨t,h.nox,q⟩
theorem Dt {P:Program} {w:World} {K:PySem.W.Frag} {mg:Str->Option Value} {base:Heap} {x qual:Str} {st:Stmt} {f:Addr} {fd:FuncData} {N ps:List Str} {k np n:Nat} {body:Fs} {fn:Fn} (hf:fn=cw np n body) (hp:ps.length=np) (hn:N.length=n) (F:FunD K x qual st f fd) (S:FnScope N ps (ag st))
  (h:∀(cdv:Value) (A:Around) (outer:List PySem.Env) (s:Shared) (H:Hp) (E:XK),Room k (A.deeper (envOfC qual (ag st) s.heap.objs.size f cdv))->DSs ⟨K,mg,E⟩ (nV CX0 P w K mg base N qual (ag st) f cdv A outer s H E).nox (aB st) body) :
  FnOk P w K mg base CX0 (k+1) f fd ps (sp3 K mg fn):=by
 subst hf hp hn;have hpl:ps.length<=N.length:=by
  have:=congrArg List.length S.pre;rw [List.length_take]at this
  lia
 have hlen:∀vs H Q E,sp3 K mg (cw ps.length N.length body) vs H Q E->vs.length=ps.length:=by
  rintro vs H Q E ⟨F,ds,sm,ra,p⟩;by_cases hl:ds.length=ps.length
  ·rw [RepAll.len ra]
   exact hl
  ·unfold cw at p
   rw [if_neg hl]at p;exact p.elim
 refine F.ok S hlen λcdv A outer s H vs Q E hr hs=>?_
 have hvl:=hlen _ _ _ _ hs;obtain ⟨F0,ds,sm,ra,p⟩:=hs;have hdl:ds.length=ps.length:=by rw [<-RepAll.len ra];exact hvl
 unfold cw at p;rw [if_pos hdl]at p;refine ⟨_,h cdv A outer s H E hr rfl rfl,F0,lB N.length ds,[],⟨sm,?_,List.nodup_nil,(λ_ m=>by cases m),?_⟩,(aE.bind p).mono λo po=>?_⟩
 ·unfold L2.start lB
  rw [hvl,hdl];exact k7 _ ra
 ·unfold lB
  show _=N.length
  rw [List.length_append,List.length_map,List.length_replicate,hdl]
  lia
 ·cases o with
  |nx ρ=>exact fun σ' F' H' fp' S' st=>po .non F' H' [] ⟨st.ff,λa o q=>st.keep a o q (by simp),S'.same,λa q z=>st.nw a q (by simp) z⟩ (Res.sh .non) λ_ m=>by cases m
  |rt y=>exact λv F' H' fx sm' r st=>po v F' H' fx ⟨st.ff,λa o q=>st.keep a o q (by simp),sm',λa q z=>st.nw a q (by simp) z⟩ r λa m=>(st.new a m).elim (λz=>by cases z) id
  |bk ρ=>exact po.elim
  |ct ρ=>exact po.elim
structure DefD (K:PySem.W.Frag) (mg:Str->Option Value) (x:Str) (st:Stmt) (ps ks:List Str) (m:Nat) (dvs:List V) (f:Addr) (fd:FuncData):Prop where
 F:FunD K x x st f fd
 g:mg x=some (.ref f)
 b:Binds K fd ps []
 d:∃ds,Binds K fd ps ds/\Vals dvs ds
 k:KBinds K fd ps ks (gK m dvs.length) (gK m dvs.length)
theorem wH {K:PySem.W.Frag} {fd:FuncData} {ps ks:List Str} {m j:Nat} (hne:0<ps.length) (h:∀(s:Shared) (us ws:List Value),K.In s.heap->us.length=m->ws.length=j->BindsTo s fd ⟨us,ks.zip ws⟩ (ps.zip (us++ws))):KBinds K fd ps ks (gK m j) (gK m j) :=
 ⟨λs us ws hK hl=>by
  unfold gK at hl ⊢;by_cases q:us.length=m/\ws.length=j
  ·rw [if_pos q]
   exact h s us ws hK q.1 q.2
  ·rw [if_neg q]at hl
   rw [<-hl]at hne;exact absurd hne (by simp),zz⟩
theorem iB {K:PySem.W.Frag} {fd:FuncData} {ps:List Str} {m:Nat} {ds:List Value} (hl:m+ds.length=ps.length) (h:∀(s:Shared) (us:List Value),K.In s.heap->us.length=m->BindsTo s fd ⟨us,[]⟩ (ps.zip (us++ds))):Binds K fd ps ds :=
 λs us hK q=>h s us hK (by rw [List.length_append]at q;lia)
noncomputable def ya (x:PyData) (lo hi:Option Int):R OD:=match x with
 |.tuple ds=>if HT.sIx ds.length 0 lo=0/\HT.sIx ds.length ds.length hi=ds.length then .bad else .ok (.sh (.tuple (cutD ds lo hi)))
 |_=>.bad
theorem w8 {X:Cx} {M:Mx} (hK:X.K=M.K):OkS M (Fv X.K) ya:=by
 rw [hK];intro x lo hi dx F H fp Q s rx p;unfold ya at p;split at p
 ·cases rx with
  |@tup a vs ds h1 h2 =>
   split at p
   ·exact p.elim
   ·rename_i hw
    refine ⟨a,vs,rfl,SqT.of (s _ _ h1),by rw [RepAll.len h2];exact hw,λq hq=>?_⟩
    refine OkE.tupF s p (Ext.refl s) ?_ hq;unfold qQ cutD;rw [RepAll.len h2];exact RepAll.take _ (RepAll.drop _ h2)
 ·exact p.elim
end L3
namespace L3
open PySem L2 PySem.Spec PyProof.Rows
noncomputable def j7 (i:Nat) (k:Fe) (a:Fe):Fs:=fun ρ=>match ρ[i]? with
 |some (some (.ol xs))=>(k ρ).bind λz=>match z.er with
  |.int q=>match ixN xs.length q with
   |some j=>match xs[j]? with
    |some (.ol ys)=>(a ρ).bind λy=>match y with
     |.ol zs=>if ys.length+zs.length<=BIG then .ok (.nx (ρ.set i (some (.ol (xs.set j (.ol (ys++zs))))))) else .bad
     |_=>.bad
    |_=>.bad
   |none=>.bad
  |_=>.bad
 |_=>.bad
section
variable {M:Mx} {n:Nat} {σ:L2.St} {H:Hp} {D:Ends}
theorem yK {i:Nat} {k a:Fe} (h:tS M n (j7 i k a) D σ H):oH (tBM M.K "list" s_ (tOp (qY M.K) (jJ i) (tD M n k)) (lK (tD M n a) rC)) D σ H:=by
 obtain ⟨F,ρ,fp,S,p⟩:=h;unfold j7 at p;split at p
 ·rename_i xs e
  have hc:comps (.ol xs)=some (true,xs):=rfl;obtain ⟨v0,_,_,_,h0,own0,_,_⟩:=S.own.at e;refine ⟨v0,h0,F,ρ,fp,S,(aE.bind p).mono λz pz u F1 H1 fz e1 r1 w1=>?_⟩
  obtain ⟨G1,d1,k1⟩:=r1.frz e1 w1;generalize z.er=dz at pz k1
  cases dz with
  |int q =>
   cases k1;have pz':aE M H fp (ig M n F H fp D) (match ixN xs.length q with
    |some j=>match xs[j]? with
     |some (.ol ys)=>(a ρ).bind λy=>match y with
      |.ol zs=>if ys.length+zs.length<=BIG then .ok (.nx (ρ.set i (some (.ol (xs.set j (.ol (ys++zs))))))) else .bad
      |_=>.bad
     |_=>.bad
    |none=>.bad):=pz
   cases hj:ixN xs.length q with
   |none =>
    rw [hj]at pz';exact pz'.elim
   |some j =>
    rw [hj]at pz';have pz2:aE M H fp (ig M n F H fp D) (match xs[j]? with
     |some (.ol ys)=>(a ρ).bind λy=>match y with
      |.ol zs=>if ys.length+zs.length<=BIG then .ok (.nx (ρ.set i (some (.ol (xs.set j (.ol (ys++zs))))))) else .bad
      |_=>.bad
     |_=>.bad):=pz'
    split at pz2
    ·rename_i ys hy
     obtain ⟨b0,vs,b,ws,f,h1,ha,hl,hb1,hb,hw,nf,ff,wr⟩:=(S.ext d1).write2 e hc hy;rw [h0]at h1;cases h1;have at1:atI vs q=some (.ref b):=by
      unfold atI;rw [hl,hj];exact hb1
     refine ⟨b0,vs,q,.ref b,rfl,rfl,SqL.of ha,at1,.inl ⟨rfl,ws,SqL.of hb⟩,G1,ρ,fp,S.ext d1,((aE.bind pz2).ext d1).mono λy py v F2 H2 fy e2 r2 w2=>?_⟩
     cases y with
     |sh d=>exact py.elim
     |ot ys=>exact py.elim
     |od ys=>exact py.elim
     |ol zs =>
      have py':aE M H fp (ig M n F H fp D) (if ys.length+zs.length<=BIG then .ok (.nx (ρ.set i (some (.ol (xs.set j (.ol (ys++zs))))))) else .bad):=py
      by_cases hlt:ys.length+zs.length<=BIG
      ·rw [if_pos hlt]at py'
       obtain ⟨ro,rn,rf⟩:=r2;cases ro with
       |@ol c us _ g hcc hu =>
        refine ⟨b,c,ws,us,rfl,rfl,e2.hh _ _ hb,hcc,by rw [hw.len,hu.len];exact i7 hlt,?_⟩
        have o:OwnL M.K F2 H2 (ws++us) (ys++zs) (f++g):=(hw.mono e2.ff λc _ o q=>e2.hh _ _ q).app hu
        obtain ⟨fp',S',st⟩:=wr F2 H2 _ _ _ e2 o (List.nodup_append.mpr ⟨nf,(List.nodup_cons.mp rn).2,λc m d m' z=>by
         subst z;obtain ⟨o,q⟩:=hw.dom c m;rw [w2 c (List.mem_cons_of_mem _ m')]at q;cases q⟩) (λc m=>(List.mem_append.mp m).elim .inl λm=>.inr (w2 c (List.mem_cons_of_mem _ m))) (λc m=>(List.mem_append.mp m).elim (λm=>let ⟨_,q⟩:=hw.dom c m;e2.nw c (cQ q) (ff c m)) λm=>rf c (List.mem_cons_of_mem _ m))
        exact py' σ F2 _ fp' S' (d1.stp.trans st)
      ·rw [if_neg hlt]at py'
       exact py'.elim
    ·exact pz2.elim
  |none=>exact pz.elim
  |bool _=>exact pz.elim
  |str _=>exact pz.elim
  |list _=>exact pz.elim
  |tuple _=>exact pz.elim
  |dict _=>exact pz.elim
 ·exact p.elim
end
section
variable {M:Mx} {X:Cx} {e b:Expr} {x:Str} {p ap cp pos:Pos} {fa fb:Fe}
theorem wG {p2:Pos} (i:Nat) (hb:DE M X b fb) (h:DE M X e fa) (hix:me b) (hN:X.N[i]?=some x:=by rfl) (hv:Vis X.env.scope x:=by first | exact Or.inl rfl | exact Or.inr (Or.inl rfl) | exact Or.inr (Or.inr rfl)) (hd:(x == ("__debug__" : Str))=false:=by decide) (hcd:(x == ("__classdict__" : Str))=false:=by decide)
  (hbase:attributeBase (.Subscript (.Name x p) b p2) "extend" X.env (eval (.Subscript (.Name x p) b p2) X.env)=eval (.Subscript (.Name x p) b p2) X.env:=by rfl)
  (hfew:((backTo cp (starEach [e] X.env)).all (λx=>!x.1) && (backToKw cp (keywordEach [] X.env)).all (λx=>x.1.isSome) && decide (([e]:List Expr).length+([]:List Keyword).length+(if ([]:List Keyword).isEmpty then 0 else 1)<30))=true:=by rfl)
  (hline:(ap.endLine == cp.line)=true:=by rfl) (hs:starEach [e] X.env=(false,eval e X.env) :: starEach [] X.env:=by rfl) (hplain:(backTo cp (starEach [] X.env)).any (·.1)=false:=by rfl)
  (hsw:swapsWith (.Call (.Attribute (.Subscript (.Name x p) b p2) "extend" ap) [e] [] cp) none pos.line X.env=pure false:=by rfl):DS M X (.Expr (.Call (.Attribute (.Subscript (.Name x p) b p2) "extend" ap) [e] [] cp) pos) (j7 i fb fa):=λhK hM =>
 AW PySem.F.slot_list_extend PySem.F.type_list_extend ug (t5 (mH M.K hK) (gm hN hv hd hcd) (hb hK hM) hix) (Cb h hs hK hM) (λ_ _ _ q=>yK q) hbase hfew hline hs hplain hsw hK
end
section
variable {ρ:Env} {k a:Fe}
theorem yl {i:Nat} {xs ys zs:List OD} {z:Int} {j:Nat} (h1:ρ[i]?=some (some (.ol xs))) (h2:k ρ=.ok (.sh (.int z))) (h3:ixN xs.length z=some j) (h4:xs[j]?=some (.ol ys)) (h5:a ρ=.ok (.ol zs)) (h6:ys.length+zs.length<=BIG) :
  j7 i k a ρ=.ok (.nx (ρ.set i (some (.ol (xs.set j (.ol (ys++zs))))))):=by
 unfold j7;rw [h1,h2];simp only [gJ,eM,h3,h4,h5,h6,if_true]
end
noncomputable def p7 (ks:List PyData) (j:Nat):Bool:=ks.any λd=>match d with
 |.int q=>decide (q=(j:Int))
 |_=>false
noncomputable def fG (ks:List PyData):Nat->List OD->List OD
 |_,[]=>[]
 |i,x :: xs=>(if p7 ks i=true then .sh x.er else x) :: fG ks (i+1) xs
noncomputable def nq (i c:Nat) (f:Fs):Fs:=fun ρ=>match ρ[i]?,ρ[c]? with
 |some (some (.ol xs)),some (some (.sh (.list ks)))=>f (ρ.set i (some (.ol (fG ks 0 xs))))
 |_,_=>f ρ
theorem OwnL.frzS {K:PySem.W.Frag} {F H:Hp} (ks:List PyData) (i:Nat) {vs:List V} {xs:List OD} {f:List Addr} (o:OwnL K F H vs xs f) (nd:f.Nodup) :
  ∃f0 f1:List Addr,(∀a,a∈f ↔ a∈f0\/a∈f1)/\f1.Nodup/\(∀a∈f0,a∉f1)/\∀G,aP F G->(∀a∈f0,∀o,H a=some o->G a=some o)->OwnL K G H vs (fG ks i xs) f1:=by
 induction xs generalizing i vs f with
 |nil =>
  cases o;exact ⟨[],[],(λa=>by simp),List.nodup_nil,(λa m=>by cases m),λG e k=>OwnL.nil⟩
 |cons x r0 ih =>
 cases o with
 |@cons _ _ fh fr _ _ h r =>
  rw [List.nodup_append]at nd;obtain ⟨n1,n2,n3⟩:=nd;obtain ⟨f0,f1,a1,a2,a3,a4⟩:=ih (i+1) r n2;by_cases hp:p7 ks i=true
  ·refine ⟨fh++f0,f1,λa=>?_,a2,λa m m1=>?_,λG e k=>?_⟩
   ·rw [List.mem_append,List.mem_append,a1 a]
    constructor
    ·rintro (z | z | z)
     ·exact .inl (.inl z)
     ·exact .inl (.inr z)
     ·exact .inr z
    ·rintro ((z | z) | z)
     ·exact .inl z
     ·exact .inr (.inl z)
     ·exact .inr (.inr z)
   ·rcases List.mem_append.mp m with z | z
    ·exact n3 a z a ((a1 a).mpr (.inr m1)) rfl
    ·exact a3 a z m1
   ·unfold fG
    rw [if_pos hp];have:=OwnL.cons (K:=K) (F:=G) (H:=H) (f:=[]) (g:=f1) (Own.sh (h.frz e λa m o q=>k a (List.mem_append_left _ m) o q)) (a4 G e λa m=>k a (List.mem_append_right _ m))
    exact this
  ·refine ⟨f0,fh++f1,λa=>?_,?_,λa m m1=>?_,λG e k=>?_⟩
   ·rw [List.mem_append,List.mem_append,a1 a]
    constructor
    ·rintro (z | z | z)
     ·exact .inr (.inl z)
     ·exact .inl z
     ·exact .inr (.inr z)
    ·rintro (z | z | z)
     ·exact .inr (.inl z)
     ·exact .inl z
     ·exact .inr (.inr z)
   ·rw [List.nodup_append]
    exact ⟨n1,a2,λa m b m2=>n3 a m b ((a1 b).mpr (.inr m2))⟩
   ·rcases List.mem_append.mp m1 with z | z
    ·exact n3 a z a ((a1 a).mpr (.inl m)) rfl
    ·exact a3 a m z
   ·unfold fG
    rw [if_neg hp];exact .cons (h.mono e λa m o q=>q) (a4 G e k)
section
variable {M:Mx} {n:Nat} {σ:L2.St} {H:Hp} {D:Ends}
theorem BQ {f:Fs} {i c:Nat} (h:tS M n (nq i c f) D σ H):tS M n f D σ H:=by
 obtain ⟨F,ρ,fp,S,p⟩:=h;unfold nq at p;split at p
 ·rename_i xs ks e _
  obtain ⟨v,f,g1,g2,h1,h2,rfl,h4⟩:=S.own.at e;cases h2 with
  |@ol a vs _ fl ha hv =>
   have nd:=S.nd;have nd':=nd;simp only [List.nodup_append,List.mem_append,List.cons_append,List.nodup_cons,List.mem_cons]at nd';obtain ⟨n1,⟨na,n2,n3,n4⟩,n5⟩:=nd';obtain ⟨f0,f1,a1,a2,a3,a4⟩:=OwnL.frzS ks 0 hv n2;have ff:∀b∈f0,F b=none:=λb m=>S.fr b (by simp [(a1 b).mpr (.inl m)])
   have o:=h4 (j0 F H f0) H (gN ff) (λ_ _ _ q=>q) (.ref a) (.ol (fG ks 0 xs)) (a :: f1) (.ol ha (a4 _ (gN ff) λb m o q=>by rw [kh m];exact q))
   rw [mX h1]at o;have sub:∀b∈g1++((a :: f1)++g2),b∈g1++((a :: fl)++g2)/\b∉f0:=λb m=>by
    simp only [List.mem_append,List.mem_cons,List.cons_append]at m ⊢;rcases m with m | (m | m | m)
    ·exact ⟨.inl m,λz=>n5 b m b (.inr (.inl ((a1 b).mpr (.inl z)))) rfl⟩
    ·exact ⟨.inr (.inl m),λz=>na (.inl (by rw [<-m];exact (a1 b).mpr (.inl z)))⟩
    ·exact ⟨.inr (.inr (.inl ((a1 b).mpr (.inr m)))),λz=>a3 b z m⟩
    ·exact ⟨.inr (.inr (.inr m)),λz=>n4 b ((a1 b).mpr (.inl z)) b m rfl⟩
   have st:Stp F H (g1++((a :: fl)++g2)) (j0 F H f0) H (g1++((a :: f1)++g2)):=⟨gN ff,λ_ _ h _=>h,λb m=>.inl (sub b m).1,λb h m z=>by
    rw [g6 λw=>m (by simp [(a1 b).mpr (.inl w)])]
    exact z⟩
   refine ⟨j0 F H f0,_,_,⟨ph S.same,o,?_,λb m=>?_,by rw [List.length_set];exact S.len⟩,PostS.stp st p⟩
   ·simp only [List.nodup_append,List.mem_append,List.cons_append,List.nodup_cons,List.mem_cons]
    refine ⟨n1,⟨λz=>?_,a2,n3,λb m c m2=>n4 b ((a1 b).mpr (.inr m)) c m2⟩,λb m c m2=>?_⟩
    ·rcases z with z | z
     ·exact na (.inl ((a1 a).mpr (.inr z)))
     ·exact na (.inr z)
    ·rcases m2 with z | z | z
     ·exact n5 b m c (.inl z)
     ·exact n5 b m c (.inr (.inl ((a1 c).mpr (.inr z))))
     ·exact n5 b m c (.inr (.inr z))
   ·rw [g6 (sub b m).2]
    exact S.fr b (sub b m).1
 ·exact ⟨F,ρ,fp,S,p⟩
end
theorem yP {M:Mx} {X:Cx} {st:Stmt} {f:Fs} (i c:Nat) (h:DS M X st f):DS M X st (nq i c f):=λhK hM=>psI (h hK hM) λ_ _ _ q=>BQ q
noncomputable def iC (xs:List OD):List PyData->Option (List PyData)
 |[]=>some []
 |.int q :: r=>match ixN xs.length q with
  |some j=>match xs[j]? with
   |some (.sh d)=>(iC xs r).map λds=>d :: ds
   |_=>none
  |none=>none
 |_ :: _=>none
noncomputable def sA (i c:Nat):Fe:=fun ρ=>match ρ[i]?,ρ[c]? with
 |some (some (.ol xs)),some (some (.sh (.list ks)))=>match iC xs ks with
  |some ds=>if ds.length<=BIG then .ok (.ol (ds.map OD.sh)) else .bad
  |none=>.bad
 |_,_=>.bad
noncomputable def lO (vs:List V) (w:V):V:=match w with
 |.int q=>(atI vs q).getD .non
 |_=>.non
theorem sY {K:PySem.W.Frag} {F H:Hp} {vs:List V} {xs:List OD} {f:List Addr} (o:OwnL K F H vs xs f):∀{ws:List V} {ks ds:List PyData},RepAll K F ws ks->iC xs ks=some ds->RepAll K F (ws.map (lO vs)) ds/\∀(i:Nat) (w:V),ws[i]?=some w->∃(q:Int) (y:V),w=V.int q/\atI vs q=some y
 |_,_,_,.nil,e=>by
  unfold iC at e;cases e;exact ⟨.nil,λi w h=>by simp at h⟩
 |_,_,ds,.cons (v:=v) (d:=d) h r,e=>by
  cases h with
  |int q =>
   unfold iC at e;split at e
   ·rename_i j hj
    split at e
    ·rename_i d' hd
     obtain ⟨es,he,rfl⟩:=Option.map_eq_some_iff.mp e;obtain ⟨r1,r2⟩:=sY o r he;obtain ⟨y,f',_,_,y1,y2,_,_⟩:=o.at hd;cases y2 with
     |sh yr =>
      have hat:atI vs q=some y:=by
       unfold atI;rw [o.len,hj];exact y1
      refine ⟨.cons (by show Rep K F ((atI vs q).getD V.non) d';rw [hat];exact yr) r1,λi w hw=>?_⟩
      cases i with
      |zero =>
       simp at hw
       subst hw;exact ⟨q,y,rfl,hat⟩
      |succ i=>exact r2 i w (by simpa using hw)
    ·cases e
   ·cases e
  |non=>unfold iC at e;cases e
  |bl b=>unfold iC at e;cases e
  |str x=>unfold iC at e;cases e
  |lst _ _=>unfold iC at e;cases e
  |tup _ _=>unfold iC at e;cases e
  |dct _ _ _=>unfold iC at e;cases e
  |ins _ _ _=>unfold iC at e;cases e
theorem EK {M:Mx} {n:Nat} {σ:L2.St} {H:Hp} {Q:VK} {i c:Nat} {x:Str} (h:tD M n (sA i c) σ H Q):sH (qR M.K (jJ c)) (lD 0) yg (tOp (qY M.K) (jJ 1) (jJ 0)) 1 [(i,x)] σ H Q:=by
 obtain ⟨F,ρ,fp,S,p⟩:=h;unfold sA at p;split at p
 ·rename_i xs ks e1 e2
  split at p
  ·rename_i ds hds
   split at p
   ·rename_i hbig
    obtain ⟨v,f,g1,g2,h1,h2,_,_⟩:=S.own.at e1;obtain ⟨w,f',_,_,k1,k2,_,_⟩:=S.own.at e2;cases h2 with
    |@ol l vs _ fl hl ov =>
     cases k2 with
     |sh kr =>
      cases kr with
      |@lst a ws _ rd rw' =>
       obtain ⟨r1,r2⟩:=sY ov rw' hds;have hsl:slots 1 [(i,x)] σ=[none,some (.ref l)]:=by
        unfold slots;show [none]++[(σ[i]?).join]=_
        rw [h1];rfl
       refine ⟨.ref a,k1,a,rfl,⟨ws,(rd.same S.same).sq⟩,λD hD=>?_⟩
       rw [hsl];refine vO (K:=M.K) (xs:=ws) (PvM H D λi=>(ws.take i).map (lO vs)) (PvM.start hD (by simp)) (λi acc H' _ pv=>((rd.same S.same).same pv.2.1).sq) (λi y acc H' hy pv=>?_) λacc H' pv=>?_
       ·obtain ⟨q,z,rfl,hz⟩:=r2 i y hy
        have il:=(List.getElem?_eq_some_iff.mp hy).1;have lw:=r1.len;rw [List.length_map]at lw;refine ⟨⟨rfl,trivial⟩,?_⟩;unfold yg;simp only [reduceIte];refine ⟨.ref l,rfl,.int q,rfl,l,vs,q,z,rfl,rfl,SqL.of (pv.2.1 _ _ hl),hz,?_⟩;refine PvM.yes hD pv ?_ ?_
        ·show (ws.take (i+1)).map (lO vs)=(ws.take i).map (lO vs)++[z]
         rw [List.take_add_one,hy,List.map_append];have ez:lO vs (.int q)=z:=by show (atI vs q).getD V.non=z;rw [hz];rfl
         show _++[lO vs (.int q)]=_
         rw [ez]
        ·show ((ws.take i).map (lO vs)).length<sizeLine
         rw [List.length_map,List.length_take];exact pU (by lia)
       ·obtain ⟨pa,pb,pc⟩:=pv
        have pa':acc=(ws.take ws.length).map (lO vs):=pa;rw [List.take_of_length_le (Nat.le_refl _)]at pa';subst pa';exact p (.ref D) F H' [D] ⟨aP.refl _,pb,S.same.trans pb,λ_ _ z=>z⟩ ⟨.ol pc (OwnL.shs r1),by simp,λa m=>by
         have:a=D:=by simpa using m
         rw [this];exact S.same.free hD⟩ λa m=>by
         have:a=D:=by simpa using m
         rw [this];exact hD
   ·exact p.elim
  ·exact p.elim
 ·exact p.elim
section
variable {M:Mx} {X:Cx} {sc scope:Scope} {p p1 p2 p3 p4 p5 pos spos:Pos} {x y z b:Str}
theorem AY {i c bi:Nat} (B:Blk X sc scope [(i,x)]) (hN:X.N.Nodup) (hix:X.N[bi]?=some b) (hx:Loc X.env.scope b) (hcalm:X.calm=true) (hc:X.N[c]?=some z) (hv:Vis X.env.scope z)
  (hg:∀s H C ex pins,PG (cxB X ([y]++[(i,x)].map (·.2)) scope s H C ex pins) (.Name y p4) (lD 0))
  (he:∀s H C ex pins,(cxB X ([y]++[(i,x)].map (·.2)) scope s H C ex pins).K=M.K->PE (cxB X ([y]++[(i,x)].map (·.2)) scope s H C ex pins) (.Subscript (.Name x p1) (.Name y p2) p3) (tOp (qY M.K) (jJ 1) (jJ 0)))
  (hd:(z == ("__debug__" : Str))=false:=by decide) (hcd:(z == ("__classdict__" : Str))=false:=by decide)
  (hsw:swapsWith (.ListComp (.Subscript (.Name x p1) (.Name y p2) p3) [⟨.Name y p4,.Name z p5,[],0⟩] scope pos) (some (.Name b p)) spos.line X.env=pure true:=by rfl)
  (hs:∀v,foldedSetIterable (.Name z p5) X.env v=pure v:=by intro _;rfl) (hf:X.fn b=true\/X.env.scope.names.lookup b=some .local:=by first | exact .inl rfl | exact .inr rfl | assumption) :
  DS M X (.Assign [.Name b p] (.ListComp (.Subscript (.Name x p1) (.Name y p2) p3) [⟨.Name y p4,.Name z p5,[],0⟩] scope pos) spos) (aR bi (eSh (sA i c))):=λhK hM =>
 psI (t_ (wi:=qR M.K (jJ c)) (g:=lD 0) (tc:=yg) (te:=tOp (qY M.K) (jJ 1) (jJ 0)) [y] hN hix hx B hcalm (w4 M.K hK (gm hc hv hd hcd)) hg (λ_ _ _ _ _=>vW) (λs H C ex pins=>he s H C ex pins hK) hsw hs hf) λD σ H q=>by
  have q':=xi (tR hix) q;exact EK (nY q')
end
end L3
namespace L3
open PySem L2
theorem Dy {i c:Nat} {f:Fs} {ρ:Env} {xs:List OD} {ks:List PyData} (h1:ρ[i]?=some (some (.ol xs))) (h2:ρ[c]?=some (some (.sh (.list ks)))):nq i c f ρ=f (ρ.set i (some (.ol (fG ks 0 xs)))):=by
 unfold nq;rw [h1,h2]
theorem Hl {i c:Nat} {ρ:Env} {xs:List OD} {ks ds:List PyData} (h1:ρ[i]?=some (some (.ol xs))) (h2:ρ[c]?=some (some (.sh (.list ks)))) (h3:iC xs ks=some ds) (h4:ds.length<=BIG):sA i c ρ=.ok (.ol (ds.map OD.sh)):=by
 unfold sA;rw [h1,h2];show (match iC xs ks with | some ds=>if ds.length<=BIG then R.ok (OD.ol (ds.map OD.sh)) else .bad | none=>.bad)=_
 rw [h3];show (if ds.length<=BIG then _ else _)=_
 rw [if_pos h4]
theorem i9 (ks:List PyData):∀(xs:List OD) (i j:Nat),(fG ks i xs)[j]?=(xs[j]?).map λx=>if p7 ks (i+j)=true then OD.sh x.er else x
 |[],i,j=>by simp [fG]
 |x :: xs,i,0=>by simp [fG]
 |x :: xs,i,j+1=>by
  rw [fG,List.getElem?_cons_succ,List.getElem?_cons_succ,i9 ks xs (i+1) j,show i+1+j=i+(j+1) by lia]
theorem kl (ks:List PyData):∀(xs:List OD) (i:Nat),(fG ks i xs).length=xs.length
 |[],i=>rfl
 |x :: xs,i=>by rw [fG,List.length_cons,List.length_cons,kl ks xs (i+1)]
theorem sW (ks:List PyData):∀(xs:List OD) (i:Nat),(fG ks i xs).map OD.er=xs.map OD.er
 |[],i=>rfl
 |x :: xs,i=>by
  rw [fG,List.map_cons,List.map_cons,sW ks xs (i+1)];congr 1
  split
  ·exact eM _
  ·rfl
end L3
namespace L2
open PySem PySem.Spec PyProof.Rows
end L2
namespace L2
open PySem PySem.Spec PyProof.Rows
structure BlkK (X:Cx) (sc scope:Scope) (outs:List (Nat×Str)):Prop where
 hsc:X.env.scope=sc
 kind:scope.kind=.function
 loc:∀x∈scope.names,x.2=.local->scope.names.lookup x.1=some .local
 own:∀x∈scope.names,x.2=.cell->scope.names.lookup x.1=some .cell
 ap:∀x∈scope.names,x.2=.free->(x.1,NameKind.cell)∉scope.names
 fr:∀x∈scope.names,x.2=.free->sc.names.lookup x.1=some .cell\/sc.names.lookup x.1=some .free
 out:lh X scope outs
section
variable {X:Cx} {sc scope:Scope} {own:List Str} {outs:List (Nat×Str)} {elt tg iter:Expr} {ifs:List Expr} {pos:Pos} {g:TG} {tc:TT} {te:TE}
end
end L2
namespace L3
open PySem L2 PySem.Spec PyProof.Rows
section
variable {M:Mx} {X:Cx} {e a b c:Expr} {es:List Expr} {pos:Pos} {fa fb:Fe} {ta tb:Ft} {al:Fa} {x:Str} {p ap cp:Pos}
variable {sc scope:Scope} {outs:List (Nat×Str)} {elt tg iter:Expr} {ifs:List Expr} {it:Fi} {gg:Fg} {is:List Nat} {el:Fe}
end
end L3
namespace L3
open PySem L2 PySem.Spec PyProof.Rows
theorem iH:∀{us:List Value} {ns:List Int},IntsAre us ns->Vals (ns.map V.int) us
 |_,_,.nil=>.nil
 |_,_,.cons n t r=>.cons ⟨t,rfl⟩ (iH r)
section
variable {X:Cx} {M:Mx}
end
end L3
namespace L3
open PySem L2 PySem.Spec PyProof.Rows
section
variable {M:Mx} {n:Nat} {σ:L2.St} {H:Hp} {D:Ends} {Q Q':VK}
end
noncomputable def LT (F:Hp) (b:Addr):Prop:=(∃ws,F b=some (.lst ws))\/∃r ws,F b=some (.tup (.ref r :: ws))
open Classical in
noncomputable def yx (F:Hp) (f:List Addr):Hp:=λb=>if b∈f then none else F b
theorem x3 {F:Hp} {f:List Addr} {b:Addr} (h:b∉f):yx F f b=F b:=by unfold yx;rw [if_neg h]
section
variable {K:PySem.W.Frag} {F H:Hp} {f:List Addr}
end
section
variable {M:Mx} {n:Nat} {σ:L2.St} {H:Hp} {Q:VK}
end
section
variable {M:Mx} {X:Cx} {e:Expr} {fa fb:Fe}
end
theorem ex1 {α:Type} {us:List α} (h:us.length=1):∃a,us=[a]:=by
 cases us with
 |nil=>cases h
 |cons a r =>
  cases r with
  |nil=>exact ⟨a,rfl⟩
  |cons b r=>cases h
theorem ex2 {α:Type} {us:List α} (h:us.length=2):∃a b,us=[a,b]:=by
 cases us with
 |nil=>cases h
 |cons a r =>
  obtain ⟨b,e⟩:=ex1 (Nat.succ.inj h);exact ⟨a,b,by rw [e]⟩
theorem ex3 {α:Type} {us:List α} (h:us.length=3):∃a b c,us=[a,b,c]:=by
 cases us with
 |nil=>cases h
 |cons a r =>
  obtain ⟨b,c,e⟩:=ex2 (Nat.succ.inj h);exact ⟨a,b,c,by rw [e]⟩
theorem ex4 {α:Type} {us:List α} (h:us.length=4):∃a b c d,us=[a,b,c,d]:=by
 cases us with
 |nil=>cases h
 |cons a r =>
  obtain ⟨b,c,d,e⟩:=ex3 (Nat.succ.inj h);exact ⟨a,b,c,d,by rw [e]⟩
theorem ex5 {α:Type} {us:List α} (h:us.length=5):∃a b c d f,us=[a,b,c,d,f]:=by
 cases us with
 |nil=>cases h
 |cons a r =>
  obtain ⟨b,c,d,f,e⟩:=ex4 (Nat.succ.inj h);exact ⟨a,b,c,d,f,by rw [e]⟩
end L3
namespace L3
open PySem L2 PySem.Spec PyProof.Rows
section
variable {M:Mx} {n:Nat} {σ:L2.St} {H:Hp} {Q:VK}
end
section
variable {X:Cx} {M:Mx}
end
end L3
namespace L3
open PySem L2 PySem.Spec PyProof.Rows
noncomputable def gq (i:Int):Bool:=decide (Builtin.Int.intBits i<=1048576)
noncomputable def qm:PyData->PyData->R OD
 |.int i,.int j=>if (gq i && gq j)=true then oI (i * j) else .bad
 |_,_=>.bad
theorem t9 {X:Cx}:OpR X (binaryOp .Mult) (rI (λi j=>(gq i && gq j)=true) λi j=>.int (i * j)):=opI λ_ _ _ _ _ _ _ hc q=>mul_int q (by
 rw [Bool.and_eq_true]at hc;exact IntMulOk.of_bits (of_decide_eq_true hc.1) (of_decide_eq_true hc.2))
theorem tE {M:Mx}:Ok2 M (rI (λi j=>(gq i && gq j)=true) λi j=>.int (i * j)) qm:=by
 intro x y dx dy F H fp Q s rx ry p;unfold qm at p;split at p
 ·cases rx;cases ry
  split at p
  ·rename_i hc
   exact ⟨_,_,rfl,rfl,hc,okI s p⟩
  ·exact p.elim
 ·exact p.elim
theorem wc {i j:Int} (h1:gq i=true) (h2:gq j=true):qm (.int i) (.int j)=.ok (.sh (.int (i * j))):=by
 show (if (gq i && gq j)=true then _ else _)=_
 rw [h1,h2];rfl
end L3
namespace L3
open PySem L2 PySem.Spec PyProof.Rows PySem.W PySem.Calls
end L3
namespace L2
open PySem PySem.Spec PyProof.Rows
noncomputable def hX (n0 n:Nat):List Value:=(List.range n).map λj=>Value.ref (n0+j)
structure ZS (h:Heap) (n0 n:Nat) (ls:Nat->Nat) (is:Nat->Nat) (f0:Value) (arr:List Value):Prop where
 zp:h.get? (n0+n+2)=some { cls:=.type "zip",dict:=none,data:=.fields #[f0,.bool false,.bool false,.ref (n0+n),.ref (n0+n+1)],slots:=#[] }
 ti:h.get? (n0+n)=some { cls:=.type "tuple",data:=.seq (hX n0 n).toArray }
 to:h.get? (n0+n+1)=some { cls:=.type "tuple",data:=.seq arr.toArray }
 it:∀j,j<n->h.IsListIter (n0+j) (ls j) (is j)
theorem neN {a b:Nat} (h:a≠b):@Ne Addr a b:=h
theorem ZS.draw {h h1 h2:Heap} {n0 n j:Nat} {ls:Nat->Nat} {is:Nat->Nat} {f0:Value} {arr arr':List Value} (Z:ZS h n0 n ls is f0 arr) (hj:j<n) (hs1:Heap.SameBut (n0+j) h h1) (hI:h1.IsListIter (n0+j) (ls j) (is j+1))
  (hs2:Heap.SameBut (n0+n+1) h1 h2) (hT:h2.get? (n0+n+1)=some { cls:=.type "tuple",data:=.seq arr'.toArray }):ZS h2 n0 n ls (λm=>if m=j then is m+1 else is m) f0 arr':=by
 have up:∀c,c≠n0+j->c≠n0+n+1->h2.get? c=h.get? c:=λc c1 c2=>(hs2.2 c (neN c2)).trans (hs1.2 c (neN c1))
 refine ⟨(up _ (by lia) (by lia)).trans Z.zp,(up _ (by lia) (by lia)).trans Z.ti,hT,λm hm=>?_⟩
 by_cases e:m=j
 ·subst e
  show h2.IsListIter _ _ (if m=m then _ else _)
  rw [if_pos rfl];exact hI.at λo q=>(hs2.2 _ (neN (by lia))).trans q
 ·show h2.IsListIter _ _ (if m=j then _ else _)
  rw [if_neg e];exact (Z.it m hm).at λo q=>(up _ (by lia) (by lia)).trans q
theorem ZS.flag {h h1:Heap} {n0 n:Nat} {ls:Nat->Nat} {is:Nat->Nat} {f0 f1:Value} {arr:List Value} (Z:ZS h n0 n ls is f0 arr) (hs:Heap.ExtBut (n0+n+2) h h1)
  (hz:h1.get? (n0+n+2)=some { cls:=.type "zip",dict:=none,data:=.fields #[f1,.bool false,.bool false,.ref (n0+n),.ref (n0+n+1)],slots:=#[] }):ZS h1 n0 n ls is f1 arr :=
 ⟨hz,hs _ _ (neN (by lia)) Z.ti,hs _ _ (neN (by lia)) Z.to,λm hm=>(Z.it m hm).at λo q=>hs _ _ (neN (by lia)) q⟩
theorem ZS.pos {h:Heap} {n0 n:Nat} {ls:Nat->Nat} {is is':Nat->Nat} {f0:Value} {arr:List Value} (Z:ZS h n0 n ls is f0 arr) (e:∀j,j<n->is j=is' j):ZS h n0 n ls is' f0 arr :=
 ⟨Z.zp,Z.ti,Z.to,λm hm=>by rw [<-e m hm];exact Z.it m hm⟩
theorem Gp {n j:Nat} {x:Nat->Value} {arr:List Value} (ha:arr.length=n) (hj:j<n):((List.range j).map x++arr.drop j).toArray.setIfInBounds j (x j)=((List.range (j+1)).map x++arr.drop (j+1)).toArray:=by
 rw [List.setIfInBounds_toArray];congr 1
 have e:arr.drop j=arr[j] :: arr.drop (j+1):=List.drop_eq_getElem_cons (by lia)
 rw [e,List.set_append_right _ _ (by simp),List.length_map,List.length_range,Nat.sub_self,List.set_cons_zero,List.range_succ,List.map_append,List.append_assoc]
 rfl
theorem qN {n0 n j:Nat} {y:Value×Nat} {rest:List (Value×Nat)} (h:y :: rest=(hX n0 n).zipIdx.drop j):j<n/\y=(.ref (n0+j),j)/\rest=(hX n0 n).zipIdx.drop (j+1):=by
 have hl:(hX n0 n).zipIdx.length=n:=by rw [List.length_zipIdx];unfold hX;rw [List.length_map,List.length_range]
 have hj:j<n:=by
  have:=congrArg List.length h;rw [List.length_cons,List.length_drop,hl]at this
  lia
 have e:=List.drop_eq_getElem_cons (l:=(hX n0 n).zipIdx) (i:=j) (by lia)
 rw [e]at h;injection h with h1 h2
 refine ⟨hj,?_,h2⟩;rw [h1,List.getElem_zipIdx];unfold hX;rw [List.getElem_map,List.getElem_range,Nat.zero_add]
section
variable {prog:Program} {w:World} {A:Around} {E:Value->Shared->Prop} {s:Shared}
theorem ve {n0 k:Nat} {ls:Nat->Nat} {xs:Nat->Array Value} {x:Nat->Value} {arr:List Value} {Q:Value->Shared->Prop} (hlt:∀j,j<3->ls j<n0) (Z:ZS s.heap n0 3 ls (λ_=>k) .none arr) (ha:arr.length=3)
  (hl:∀j,j<3->s.heap.IsList (ls j) (xs j)) (hx:∀j,j<3->(xs j)[k]?=some (x j))
  (hQ:∀h',ZS h' n0 3 ls (λ_=>k+1) (rawInt s.heap.objs.size) ((List.range 3).map x)->h'.get? s.heap.objs.size=some { cls:=.type "tuple",data:=.seq ((List.range 3).map x).toArray } ->
   (∀c o,(c<n0\/n0+3+2<c)->s.heap.get? c=some o->h'.get? c=some o)->Q (.ref s.heap.objs.size) { s with heap:=h' }) :
  wpAny (model prog w) A (Builtin.«zip.__next__» ⟨[.ref (n0+3+2)],[]⟩) (λfin s'=>∃v,fin=.done (.ret v)/\Q v s') E s:=by
 show wpAny _ _ (field _ 2 >>= _) _ _ _
 refine wpAny_bind (wpAny_field Z.zp rfl (x:=.bool false) rfl ?_);show wpAny _ _ (field _ (2+1) >>= _) _ _ _
 refine wpAny_bind (wpAny_field Z.zp rfl (x:=.ref (n0+3)) rfl ?_);refine wpAny_bind (wpAny_seqItems Z.ti rfl ?_);show wpAny _ _ (Builtin.SmallTypes.ownedTupleIsFree _ >>= _) _ _ _
 refine wpAny_bind ?_;unfold Builtin.SmallTypes.ownedTupleIsFree;refine wpAny_bind (wpAny_field Z.zp rfl (x:=.none) rfl (wpAny_pure ?_));simp only [if_true];refine wpAny_bind (wpAny_rule ?_);refine wpAny_bind (wpAny_field Z.zp rfl (x:=.ref (n0+3+1)) rfl ?_);refine wpAny_bind (wpAny_setField_rec Z.zp (by simp) λh₁ hz₁ hs₁=>?_)
 refine wpAny_bind ?_;have Z1:ZS h₁ n0 3 ls (λ_=>k) .ellipsis arr:=Z.flag hs₁.extBut hz₁
 refine wpAny_forIn_list _ (λrest b s'=>b=(none,())/\∃j hp,j<=3/\rest=(hX n0 3).zipIdx.drop j/\s'={ s with heap:=hp }/\ZS hp n0 3 ls (λm=>if m<j then k+1 else k) .ellipsis ((List.range j).map x++arr.drop j) /\
  hp.objs.size=s.heap.objs.size/\∀c o,(c<n0\/n0+3+2<c)->s.heap.get? c=some o->hp.get? c=some o) _ ?_ ?_ _ _ ⟨rfl,0,h₁,Nat.zero_le _,rfl,rfl,Z1.pos λj _=>rfl,hs₁.1,λc o hc q=>(hs₁.2 c (neN (by lia))).trans q⟩
 ·rintro y rest b s' ⟨rfl,j,hp,hj3,hr,rfl,Zj,hsz,hk⟩
  obtain ⟨hj,rfl,hr2⟩:=qN hr;refine wpAny_bind (wpAny_onRaise ?_);show wpAny _ _ (Builtin.SmallTypes.nextOf (.ref (n0+j)) >>= _) _ _ _
  have hi:=Zj.it j hj;have e0:(if j<j then k+1 else k)=k:=if_neg (Nat.lt_irrefl _)
  have hlj:hp.IsList (ls j) (xs j):=(hl j hj).at λo q=>hk _ _ (Or.inl (hlt j hj)) q
  refine wpAny_bind (wpAny_nextOf_list_item (s:={ s with heap:=hp }) hi hlj (by rw [e0];exact hx j hj) λh2 hI2 hs2=>wpAny_pure ?_)
  have hT2:h2.get? (n0+3+1)=some { cls:=.type "tuple",data:=.seq ((List.range j).map x++arr.drop j).toArray }:=(hs2.2 _ (neN (by lia))).trans Zj.to
  refine wpAny_bind (wpAny_seqItems hT2 rfl ?_);have hlen:((List.range j).map x++arr.drop j).length=3:=by rw [List.length_append,List.length_map,List.length_range,List.length_drop,ha];lia
  refine wpAny_bind (wpAny_updateSeq hT2 rfl ?_ (by rw [List.size_toArray,hlen];decide) (by rw [Array.size_setIfInBounds,List.size_toArray,hlen];decide))
  refine wpAny_bind (wpAny_letGo (wpAny_pure ?_));have hs3:=Heap.SameBut.update h2 (n0+3+1) (Obj.mapSeq (·.setIfInBounds j (x j)));have hT3:(h2.update (n0+3+1) (Obj.mapSeq (·.setIfInBounds j (x j)))).get? (n0+3+1)=some { cls:=.type "tuple",data:=.seq ((List.range (j+1)).map x++arr.drop (j+1)).toArray }:=by
   rw [Heap.get?_update_self _ hT2 rfl,<-Gp ha hj];simp only [Obj.mapSeq,Array.size_setIfInBounds,beq_self_eq_true,if_true]
  refine ⟨rfl,j+1,_,by lia,hr2,rfl,(Zj.draw hj hs2 hI2 hs3 hT3).pos λm hm=>?_,hs3.1.trans (hs2.1.trans hsz),λc o hc q=>(hs3.2 c (neN (by lia))).trans ((hs2.2 c (neN (by lia))).trans (hk c o hc q))⟩
  by_cases e:m=j
  ·subst e
   rw [if_pos rfl,if_neg (Nat.lt_irrefl _),if_pos (Nat.lt_succ_self _)]
  ·rw [if_neg e]
   by_cases e2:m<j
   ·rw [if_pos e2,if_pos (by lia)]
   ·rw [if_neg e2,if_neg (by lia)]
 ·rintro b s' ⟨rfl,j,hp,hj3,hr,rfl,Zj,hsz,hk⟩
  have hj:j=3:=by
   have hl':(hX n0 3).zipIdx.length=3:=by rw [List.length_zipIdx];unfold hX;rw [List.length_map,List.length_range]
   have:=congrArg List.length hr;rw [List.length_drop,hl',List.length_nil]at this
   lia
  subst hj;have ea:(List.range 3).map x++arr.drop 3=(List.range 3).map x:=by rw [List.drop_of_length_le (by lia),List.append_nil]
  rw [ea]at Zj;have Z3:ZS hp n0 3 ls (λ_=>k+1) .ellipsis ((List.range 3).map x):=Zj.pos λm hm=>if_pos hm
  refine wpAny_bind (wpAny_seqItems Z3.to rfl ?_);refine wpAny_bind (wpAny_newTuple ?_);refine wpAny_bind ?_;unfold Builtin.SmallTypes.ownedTupleHandOut;have Z4:ZS (hp.push { cls:=.type "tuple",data:=.seq ((List.range 3).map x).toArray }) n0 3 ls (λ_=>k+1) .ellipsis ((List.range 3).map x):=Z3.flag (λb o _ q=>Heap.get?_push_of_some _ q) (Heap.get?_push_of_some _ Z3.zp)
  have zlt:n0+3+2<hp.objs.size:=Heap.lt_size Z3.zp;refine wpAny_bind (wpAny_setField_rec Z4.zp (by simp) λh7 hz7 hs7=>?_)
  have Z7:ZS h7 n0 3 ls (λ_=>k+1) (rawInt hp.objs.size) ((List.range 3).map x):=Z4.flag hs7.extBut hz7
  refine wpAny_setField_rec Z7.zp (by simp) λh8 hz8 hs8=>?_
  have Z8:ZS h8 n0 3 ls (λ_=>k+1) (rawInt hp.objs.size) ((List.range 3).map x):=Z7.flag hs8.extBut hz8
  refine wpAny_pure ⟨_,rfl,?_⟩;show Q (.ref hp.objs.size) _
  rw [hsz]at Z8 zlt ⊢;refine hQ h8 Z8 ?_ λc o hc q=>(hs8.2 c (neN (by lia))).trans ((hs7.2 c (neN (by lia))).trans (Heap.get?_push_of_some _ (hk c o hc q)))
  refine (hs8.2 _ (neN (by lia))).trans ((hs7.2 _ (neN (by lia))).trans ?_)
  rw [<-hsz];exact Heap.get?_push_size _ rfl
theorem u6 {n0 k:Nat} {ls:Nat->Nat} {xs:Array Value} {arr:List Value} {Q:Fin->Shared->Prop} (hh:A.handled=none) (hlt:ls 0<n0) (Z:ZS s.heap n0 3 ls (λ_=>k) .none arr)
  (hl:s.heap.IsList (ls 0) xs) (hx:xs[k]?=none)
  (hE:∀h' e,(∀c o,(c<n0\/n0+3+2<c)->s.heap.get? c=some o->h'.get? c=some o)->(∃o,h'.get? e=some o/\o.cls=.type "StopIteration")->E (.ref e) { s with heap:=h' }) :
  wpAny (model prog w) A (Builtin.«zip.__next__» ⟨[.ref (n0+3+2)],[]⟩) Q E s:=by
 show wpAny _ _ (field _ 2 >>= _) _ _ _
 refine wpAny_bind (wpAny_field Z.zp rfl (x:=.bool false) rfl ?_);show wpAny _ _ (field _ (2+1) >>= _) _ _ _
 refine wpAny_bind (wpAny_field Z.zp rfl (x:=.ref (n0+3)) rfl ?_);refine wpAny_bind (wpAny_seqItems Z.ti rfl ?_);show wpAny _ _ (Builtin.SmallTypes.ownedTupleIsFree _ >>= _) _ _ _
 refine wpAny_bind ?_;unfold Builtin.SmallTypes.ownedTupleIsFree;refine wpAny_bind (wpAny_field Z.zp rfl (x:=.none) rfl (wpAny_pure ?_));simp only [if_true];refine wpAny_bind (wpAny_rule ?_);refine wpAny_bind (wpAny_field Z.zp rfl (x:=.ref (n0+3+1)) rfl ?_);refine wpAny_bind (wpAny_setField_rec Z.zp (by simp) λh₁ hz₁ hs₁=>?_)
 refine wpAny_bind ?_;have Z1:ZS h₁ n0 3 ls (λ_=>k) .ellipsis arr:=Z.flag hs₁.extBut hz₁
 show wpAny _ _ (forIn ((Value.ref (n0+0),0) :: _) _ _) _ _ _
 rw [List.forIn_cons];refine wpAny_bind (wpAny_bind (wpAny_onRaise ?_));show wpAny _ _ (Builtin.SmallTypes.nextOf (.ref (n0+0)) >>= _) _ _ _
 have hl1:h₁.IsList (ls 0) xs:=hl.at λo q=>(hs₁.2 _ (neN (by lia))).trans q
 refine wpAny_bind (wpAny_nextOf_list_end (s:={ s with heap:=h₁ }) hh (Z1.it 0 (by decide)) hl1 hx λh2 e hs2 he=>?_)
 obtain ⟨oe,hoe,hce⟩:=he;have hz2:=hs2 _ _ (neN (by lia)) Z1.zp
 have hez:e≠n0+3+2:=λz=>by
  subst z;rw [hz2]at hoe;cases hoe;simp at hce
 exact wpAny_setField_rec hz2 (by simp) λh3 _ hs3=>hE h3 e (λc o hc q=>(hs3.2 c (neN (by lia))).trans (hs2 c o (neN (by lia)) ((hs₁.2 c (neN (by lia))).trans q))) ⟨oe,(hs3.2 e hez).trans hoe,hce⟩
theorem rX {n0 k:Nat} {ls:Nat->Nat} {xs:Nat->Array Value} {x:Nat->Value} {arr:List Value} {Q:Option Value->Shared->Prop} (hlt:∀j,j<3->ls j<n0) (Z:ZS s.heap n0 3 ls (λ_=>k) .none arr) (ha:arr.length=3)
  (hl:∀j,j<3->s.heap.IsList (ls j) (xs j)) (hx:∀j,j<3->(xs j)[k]?=some (x j))
  (hQ:∀h',ZS h' n0 3 ls (λ_=>k+1) (rawInt s.heap.objs.size) ((List.range 3).map x)->h'.get? s.heap.objs.size=some { cls:=.type "tuple",data:=.seq ((List.range 3).map x).toArray } ->
   (∀c o,(c<n0\/n0+3+2<c)->s.heap.get? c=some o->h'.get? c=some o)->Q (some (.ref s.heap.objs.size)) { s with heap:=h' }) :
  wpAny (model prog w) A (pyNext (.ref (n0+3+2))) Q E s:=by
 have hT:s.TypeIs (.ref (n0+3+2)) "zip" := ⟨_,Z.zp,rfl⟩;unfold pyNext;exact wpAny_bind (wpAny_attempt (wpAny_callSpecial?_slot (name:=Str.ofString "__next__") hT F.slot_zip_next (wpAny_call_entry F.slot_zip_next hT F.entry_zip_next (ve hlt Z ha hl hx λh' a1 a2 a3=>wpAny_pure (hQ h' a1 a2 a3)) (F.args_zip_next_1 _))))
theorem rW {n0 k:Nat} {ls:Nat->Nat} {xs:Array Value} {arr:List Value} {Q:Option Value->Shared->Prop} (hh:A.handled=none) (hlt:ls 0<n0) (Z:ZS s.heap n0 3 ls (λ_=>k) .none arr)
  (hl:s.heap.IsList (ls 0) xs) (hx:xs[k]?=none)
  (hQ:∀h',(∀c o,(c<n0\/n0+3+2<c)->s.heap.get? c=some o->h'.get? c=some o)->Q none { s with heap:=h' }) :
  wpAny (model prog w) A (pyNext (.ref (n0+3+2))) Q E s:=by
 have hT:s.TypeIs (.ref (n0+3+2)) "zip" := ⟨_,Z.zp,rfl⟩;unfold pyNext;refine wpAny_bind (wpAny_attempt (wpAny_callSpecial?_slot (name:=Str.ofString "__next__") hT F.slot_zip_next (wpAny_call_entry F.slot_zip_next hT F.entry_zip_next (u6 hh hlt Z hl hx λh' e hk he=>?_) (F.args_zip_next_1 _))))
 obtain ⟨o,ho,hc⟩:=he;exact wpAny_bind (wpAny_isInstance (T := "StopIteration") (b:=true) ⟨o,ho,hc⟩ isSubtype_stop (wpAny_pure (hQ _ hk)))
theorem uH {n0 k:Nat} {ls:Nat->Nat} {xs:Nat->Array Value} {x:Nat->Value} {arr:List Value} {Q:Value->Shared->Prop} (hlt:∀j,j<4->ls j<n0) (Z:ZS s.heap n0 4 ls (λ_=>k) .none arr) (ha:arr.length=4)
  (hl:∀j,j<4->s.heap.IsList (ls j) (xs j)) (hx:∀j,j<4->(xs j)[k]?=some (x j))
  (hQ:∀h',ZS h' n0 4 ls (λ_=>k+1) (rawInt s.heap.objs.size) ((List.range 4).map x)->h'.get? s.heap.objs.size=some { cls:=.type "tuple",data:=.seq ((List.range 4).map x).toArray } ->
   (∀c o,(c<n0\/n0+4+2<c)->s.heap.get? c=some o->h'.get? c=some o)->Q (.ref s.heap.objs.size) { s with heap:=h' }) :
  wpAny (model prog w) A (Builtin.«zip.__next__» ⟨[.ref (n0+4+2)],[]⟩) (λfin s'=>∃v,fin=.done (.ret v)/\Q v s') E s:=by
 show wpAny _ _ (field _ 2 >>= _) _ _ _
 refine wpAny_bind (wpAny_field Z.zp rfl (x:=.bool false) rfl ?_);show wpAny _ _ (field _ (2+1) >>= _) _ _ _
 refine wpAny_bind (wpAny_field Z.zp rfl (x:=.ref (n0+4)) rfl ?_);refine wpAny_bind (wpAny_seqItems Z.ti rfl ?_);show wpAny _ _ (Builtin.SmallTypes.ownedTupleIsFree _ >>= _) _ _ _
 refine wpAny_bind ?_;unfold Builtin.SmallTypes.ownedTupleIsFree;refine wpAny_bind (wpAny_field Z.zp rfl (x:=.none) rfl (wpAny_pure ?_));simp only [if_true];refine wpAny_bind (wpAny_rule ?_);refine wpAny_bind (wpAny_field Z.zp rfl (x:=.ref (n0+4+1)) rfl ?_);refine wpAny_bind (wpAny_setField_rec Z.zp (by simp) λh₁ hz₁ hs₁=>?_)
 refine wpAny_bind ?_;have Z1:ZS h₁ n0 4 ls (λ_=>k) .ellipsis arr:=Z.flag hs₁.extBut hz₁
 refine wpAny_forIn_list _ (λrest b s'=>b=(none,())/\∃j hp,j<=4/\rest=(hX n0 4).zipIdx.drop j/\s'={ s with heap:=hp }/\ZS hp n0 4 ls (λm=>if m<j then k+1 else k) .ellipsis ((List.range j).map x++arr.drop j) /\
  hp.objs.size=s.heap.objs.size/\∀c o,(c<n0\/n0+4+2<c)->s.heap.get? c=some o->hp.get? c=some o) _ ?_ ?_ _ _ ⟨rfl,0,h₁,Nat.zero_le _,rfl,rfl,Z1.pos λj _=>rfl,hs₁.1,λc o hc q=>(hs₁.2 c (neN (by lia))).trans q⟩
 ·rintro y rest b s' ⟨rfl,j,hp,hj3,hr,rfl,Zj,hsz,hk⟩
  obtain ⟨hj,rfl,hr2⟩:=qN hr;refine wpAny_bind (wpAny_onRaise ?_);show wpAny _ _ (Builtin.SmallTypes.nextOf (.ref (n0+j)) >>= _) _ _ _
  have hi:=Zj.it j hj;have e0:(if j<j then k+1 else k)=k:=if_neg (Nat.lt_irrefl _)
  have hlj:hp.IsList (ls j) (xs j):=(hl j hj).at λo q=>hk _ _ (Or.inl (hlt j hj)) q
  refine wpAny_bind (wpAny_nextOf_list_item (s:={ s with heap:=hp }) hi hlj (by rw [e0];exact hx j hj) λh2 hI2 hs2=>wpAny_pure ?_)
  have hT2:h2.get? (n0+4+1)=some { cls:=.type "tuple",data:=.seq ((List.range j).map x++arr.drop j).toArray }:=(hs2.2 _ (neN (by lia))).trans Zj.to
  refine wpAny_bind (wpAny_seqItems hT2 rfl ?_);have hlen:((List.range j).map x++arr.drop j).length=4:=by rw [List.length_append,List.length_map,List.length_range,List.length_drop,ha];lia
  refine wpAny_bind (wpAny_updateSeq hT2 rfl ?_ (by rw [List.size_toArray,hlen];decide) (by rw [Array.size_setIfInBounds,List.size_toArray,hlen];decide))
  refine wpAny_bind (wpAny_letGo (wpAny_pure ?_));have hs3:=Heap.SameBut.update h2 (n0+4+1) (Obj.mapSeq (·.setIfInBounds j (x j)));have hT3:(h2.update (n0+4+1) (Obj.mapSeq (·.setIfInBounds j (x j)))).get? (n0+4+1)=some { cls:=.type "tuple",data:=.seq ((List.range (j+1)).map x++arr.drop (j+1)).toArray }:=by
   rw [Heap.get?_update_self _ hT2 rfl,<-Gp ha hj];simp only [Obj.mapSeq,Array.size_setIfInBounds,beq_self_eq_true,if_true]
  refine ⟨rfl,j+1,_,by lia,hr2,rfl,(Zj.draw hj hs2 hI2 hs3 hT3).pos λm hm=>?_,hs3.1.trans (hs2.1.trans hsz),λc o hc q=>(hs3.2 c (neN (by lia))).trans ((hs2.2 c (neN (by lia))).trans (hk c o hc q))⟩
  by_cases e:m=j
  ·subst e
   rw [if_pos rfl,if_neg (Nat.lt_irrefl _),if_pos (Nat.lt_succ_self _)]
  ·rw [if_neg e]
   by_cases e2:m<j
   ·rw [if_pos e2,if_pos (by lia)]
   ·rw [if_neg e2,if_neg (by lia)]
 ·rintro b s' ⟨rfl,j,hp,hj3,hr,rfl,Zj,hsz,hk⟩
  have hj:j=4:=by
   have hl':(hX n0 4).zipIdx.length=4:=by rw [List.length_zipIdx];unfold hX;rw [List.length_map,List.length_range]
   have:=congrArg List.length hr;rw [List.length_drop,hl',List.length_nil]at this
   lia
  subst hj;have ea:(List.range 4).map x++arr.drop 4=(List.range 4).map x:=by rw [List.drop_of_length_le (by lia),List.append_nil]
  rw [ea]at Zj;have Z3:ZS hp n0 4 ls (λ_=>k+1) .ellipsis ((List.range 4).map x):=Zj.pos λm hm=>if_pos hm
  refine wpAny_bind (wpAny_seqItems Z3.to rfl ?_);refine wpAny_bind (wpAny_newTuple ?_);refine wpAny_bind ?_;unfold Builtin.SmallTypes.ownedTupleHandOut;have Z4:ZS (hp.push { cls:=.type "tuple",data:=.seq ((List.range 4).map x).toArray }) n0 4 ls (λ_=>k+1) .ellipsis ((List.range 4).map x):=Z3.flag (λb o _ q=>Heap.get?_push_of_some _ q) (Heap.get?_push_of_some _ Z3.zp)
  have zlt:n0+4+2<hp.objs.size:=Heap.lt_size Z3.zp;refine wpAny_bind (wpAny_setField_rec Z4.zp (by simp) λh7 hz7 hs7=>?_)
  have Z7:ZS h7 n0 4 ls (λ_=>k+1) (rawInt hp.objs.size) ((List.range 4).map x):=Z4.flag hs7.extBut hz7
  refine wpAny_setField_rec Z7.zp (by simp) λh8 hz8 hs8=>?_
  have Z8:ZS h8 n0 4 ls (λ_=>k+1) (rawInt hp.objs.size) ((List.range 4).map x):=Z7.flag hs8.extBut hz8
  refine wpAny_pure ⟨_,rfl,?_⟩;show Q (.ref hp.objs.size) _
  rw [hsz]at Z8 zlt ⊢;refine hQ h8 Z8 ?_ λc o hc q=>(hs8.2 c (neN (by lia))).trans ((hs7.2 c (neN (by lia))).trans (Heap.get?_push_of_some _ (hk c o hc q)))
  refine (hs8.2 _ (neN (by lia))).trans ((hs7.2 _ (neN (by lia))).trans ?_)
  rw [<-hsz];exact Heap.get?_push_size _ rfl
theorem uX {n0 k:Nat} {ls:Nat->Nat} {xs:Array Value} {arr:List Value} {Q:Fin->Shared->Prop} (hh:A.handled=none) (hlt:ls 0<n0) (Z:ZS s.heap n0 4 ls (λ_=>k) .none arr)
  (hl:s.heap.IsList (ls 0) xs) (hx:xs[k]?=none)
  (hE:∀h' e,(∀c o,(c<n0\/n0+4+2<c)->s.heap.get? c=some o->h'.get? c=some o)->(∃o,h'.get? e=some o/\o.cls=.type "StopIteration")->E (.ref e) { s with heap:=h' }) :
  wpAny (model prog w) A (Builtin.«zip.__next__» ⟨[.ref (n0+4+2)],[]⟩) Q E s:=by
 show wpAny _ _ (field _ 2 >>= _) _ _ _
 refine wpAny_bind (wpAny_field Z.zp rfl (x:=.bool false) rfl ?_);show wpAny _ _ (field _ (2+1) >>= _) _ _ _
 refine wpAny_bind (wpAny_field Z.zp rfl (x:=.ref (n0+4)) rfl ?_);refine wpAny_bind (wpAny_seqItems Z.ti rfl ?_);show wpAny _ _ (Builtin.SmallTypes.ownedTupleIsFree _ >>= _) _ _ _
 refine wpAny_bind ?_;unfold Builtin.SmallTypes.ownedTupleIsFree;refine wpAny_bind (wpAny_field Z.zp rfl (x:=.none) rfl (wpAny_pure ?_));simp only [if_true];refine wpAny_bind (wpAny_rule ?_);refine wpAny_bind (wpAny_field Z.zp rfl (x:=.ref (n0+4+1)) rfl ?_);refine wpAny_bind (wpAny_setField_rec Z.zp (by simp) λh₁ hz₁ hs₁=>?_)
 refine wpAny_bind ?_;have Z1:ZS h₁ n0 4 ls (λ_=>k) .ellipsis arr:=Z.flag hs₁.extBut hz₁
 show wpAny _ _ (forIn ((Value.ref (n0+0),0) :: _) _ _) _ _ _
 rw [List.forIn_cons];refine wpAny_bind (wpAny_bind (wpAny_onRaise ?_));show wpAny _ _ (Builtin.SmallTypes.nextOf (.ref (n0+0)) >>= _) _ _ _
 have hl1:h₁.IsList (ls 0) xs:=hl.at λo q=>(hs₁.2 _ (neN (by lia))).trans q
 refine wpAny_bind (wpAny_nextOf_list_end (s:={ s with heap:=h₁ }) hh (Z1.it 0 (by decide)) hl1 hx λh2 e hs2 he=>?_)
 obtain ⟨oe,hoe,hce⟩:=he;have hz2:=hs2 _ _ (neN (by lia)) Z1.zp
 have hez:e≠n0+4+2:=λz=>by
  subst z;rw [hz2]at hoe;cases hoe;simp at hce
 exact wpAny_setField_rec hz2 (by simp) λh3 _ hs3=>hE h3 e (λc o hc q=>(hs3.2 c (neN (by lia))).trans (hs2 c o (neN (by lia)) ((hs₁.2 c (neN (by lia))).trans q))) ⟨oe,(hs3.2 e hez).trans hoe,hce⟩
theorem se {n0 k:Nat} {ls:Nat->Nat} {xs:Nat->Array Value} {x:Nat->Value} {arr:List Value} {Q:Option Value->Shared->Prop} (hlt:∀j,j<4->ls j<n0) (Z:ZS s.heap n0 4 ls (λ_=>k) .none arr) (ha:arr.length=4)
  (hl:∀j,j<4->s.heap.IsList (ls j) (xs j)) (hx:∀j,j<4->(xs j)[k]?=some (x j))
  (hQ:∀h',ZS h' n0 4 ls (λ_=>k+1) (rawInt s.heap.objs.size) ((List.range 4).map x)->h'.get? s.heap.objs.size=some { cls:=.type "tuple",data:=.seq ((List.range 4).map x).toArray } ->
   (∀c o,(c<n0\/n0+4+2<c)->s.heap.get? c=some o->h'.get? c=some o)->Q (some (.ref s.heap.objs.size)) { s with heap:=h' }) :
  wpAny (model prog w) A (pyNext (.ref (n0+4+2))) Q E s:=by
 have hT:s.TypeIs (.ref (n0+4+2)) "zip" := ⟨_,Z.zp,rfl⟩;unfold pyNext;exact wpAny_bind (wpAny_attempt (wpAny_callSpecial?_slot (name:=Str.ofString "__next__") hT F.slot_zip_next (wpAny_call_entry F.slot_zip_next hT F.entry_zip_next (uH hlt Z ha hl hx λh' a1 a2 a3=>wpAny_pure (hQ h' a1 a2 a3)) (F.args_zip_next_1 _))))
theorem sD {n0 k:Nat} {ls:Nat->Nat} {xs:Array Value} {arr:List Value} {Q:Option Value->Shared->Prop} (hh:A.handled=none) (hlt:ls 0<n0) (Z:ZS s.heap n0 4 ls (λ_=>k) .none arr)
  (hl:s.heap.IsList (ls 0) xs) (hx:xs[k]?=none)
  (hQ:∀h',(∀c o,(c<n0\/n0+4+2<c)->s.heap.get? c=some o->h'.get? c=some o)->Q none { s with heap:=h' }) :
  wpAny (model prog w) A (pyNext (.ref (n0+4+2))) Q E s:=by
 have hT:s.TypeIs (.ref (n0+4+2)) "zip" := ⟨_,Z.zp,rfl⟩;unfold pyNext;refine wpAny_bind (wpAny_attempt (wpAny_callSpecial?_slot (name:=Str.ofString "__next__") hT F.slot_zip_next (wpAny_call_entry F.slot_zip_next hT F.entry_zip_next (uX hh hlt Z hl hx λh' e hk he=>?_) (F.args_zip_next_1 _))))
 obtain ⟨o,ho,hc⟩:=he;exact wpAny_bind (wpAny_isInstance (T := "StopIteration") (b:=true) ⟨o,ho,hc⟩ isSubtype_stop (wpAny_pure (hQ _ hk)))
end
noncomputable def aZ (h:Heap) (l:Nat):Heap:=h.push { cls:=.type "list_iterator",data:=.fields #[.ref l,.int 0 0] }
theorem qw (a b c:Value):checkTypeCall "zip" ⟨[a,b,c],[]⟩=pure ():=by kernel_rfl
theorem rK (a b c:Value):checkBuiltinCall "zip.__new__" ⟨[.type "zip",a,b,c],[]⟩=pure ():=by kernel_rfl
theorem o_ (e a b c:Value):argsOk "object.__init__" ⟨[e,a,b,c],[]⟩:=by
 unfold argsOk;rw [signature?_of (id := "object.__init__") (n:=['_','_','t','i','n','i','_','_']) (o:=['t','c','e','j','b','o']) (by kernel_rfl) PySem.F.owner_object]
 kernel_rfl
noncomputable def zA3 (h:Heap) (l0 l1 l2:Nat):Heap:=(aZ (aZ (aZ h l0) l1) l2).push { cls:=.type "tuple",data:=.seq #[.ref h.objs.size,.ref (aZ h l0).objs.size,.ref (aZ (aZ h l0) l1).objs.size] }
noncomputable def zB3 (h:Heap) (l0 l1 l2:Nat):Heap:=(zA3 h l0 l1 l2).push { cls:=.type "tuple",data:=.seq #[.none,.none,.none] }
noncomputable def zC3 (h:Heap) (l0 l1 l2:Nat):Heap:=(zB3 h l0 l1 l2).push { cls:=.type "zip",data:=.fields #[.none,.bool false,.bool false,.ref (aZ (aZ (aZ h l0) l1) l2).objs.size,.ref (zA3 h l0 l1 l2).objs.size] }
theorem xv (l0 l1 l2:Nat) (xl0 xl1 xl2:Array Value) :
  Meets (Builtin.«zip.__new__» ⟨[.type "zip",.ref l0,.ref l1,.ref l2],[]⟩) (λ_ R s=>s.heap.IsList l0 xl0/\s.heap.IsList l1 xl1/\s.heap.IsList l2 xl2 /\
   R (.ok (.ret (.ref (zB3 s.heap l0 l1 l2).objs.size))) { s with heap:=zC3 s.heap l0 l1 l2 }) :=
 .of_wp λprog w A R s h=>by
  obtain ⟨hp,g,d,tk,os⟩:=s;obtain ⟨hl0,hl1,hl2,h⟩:=h;have hsub:=sub_zip;have Hl0:Heap.IsList (Shared.heap ⟨hp,g,d,tk,os⟩) l0 xl0:=hl0;have Hl1:Heap.IsList (Shared.heap ⟨(Heap.push hp { cls:=.type "list_iterator",data:=.fields #[.ref l0,.int 0 0] }),g,d,tk,os⟩) l1 xl1:=(Heap.IsList.push hl1 _);have Hl2:Heap.IsList (Shared.heap ⟨(Heap.push (Heap.push hp { cls:=.type "list_iterator",data:=.fields #[.ref l0,.int 0 0] }) { cls:=.type "list_iterator",data:=.fields #[.ref l1,.int 0 0] }),g,d,tk,os⟩) l2 xl2:=(Heap.IsList.push (Heap.IsList.push hl2 _) _)
  wp_walk using wpAny_pyIter_list Hl0,wpAny_pyIter_list Hl1,wpAny_pyIter_list Hl2
  exact ⟨_,rfl,h⟩
theorem yU {prog:Program} {w:World} {A:Around} {E:Value->Shared->Prop} {s:Shared} {ls:Nat->Nat} {xs:Nat->Array Value} {Q:Value->Shared->Prop} (hl:∀j,j<3->s.heap.IsList (ls j) (xs j))
  (h:∀h',ZS h' s.heap.objs.size 3 ls (λ_=>0) .none [.none,.none,.none]->(∀c o,s.heap.get? c=some o->h'.get? c=some o)->Q (.ref (s.heap.objs.size+3+2)) { s with heap:=h' }) :
  wpAny (model prog w) A (call (.type "zip") [.ref (ls 0),.ref (ls 1),.ref (ls 2)]) Q E s:=by
 refine callType_new PySem.F.called_zip (by decide) (qw _ _ _) (rK _ _ _) (λobj=>o_ obj _ _ _) PySem.F.entry_zip_new (xv (ls 0) (ls 1) (ls 2) (xs 0) (xs 1) (xs 2)) ⟨hl 0 (by decide),hl 1 (by decide),hl 2 (by decide),?_⟩
 have z1:(aZ s.heap (ls 0)).objs.size=s.heap.objs.size+1:=Heap.size_push ..;have z2:(aZ (aZ s.heap (ls 0)) (ls 1)).objs.size=s.heap.objs.size+2:=by unfold aZ;rw [Heap.size_push];exact congrArg (·+1) z1
 have z3:(aZ (aZ (aZ s.heap (ls 0)) (ls 1)) (ls 2)).objs.size=s.heap.objs.size+3:=by unfold aZ;rw [Heap.size_push];exact congrArg (·+1) z2
 have zA:(zA3 s.heap (ls 0) (ls 1) (ls 2)).objs.size=s.heap.objs.size+3+1:=by unfold zA3;rw [Heap.size_push,z3]
 have zB:(zB3 s.heap (ls 0) (ls 1) (ls 2)).objs.size=s.heap.objs.size+3+2:=by unfold zB3;rw [Heap.size_push,zA]
 have kC:∀c o,(zB3 s.heap (ls 0) (ls 1) (ls 2)).get? c=some o->(zC3 s.heap (ls 0) (ls 1) (ls 2)).get? c=some o:=λc o q=>Heap.get?_push_of_some _ q
 have kB:∀c o,(zA3 s.heap (ls 0) (ls 1) (ls 2)).get? c=some o->(zC3 s.heap (ls 0) (ls 1) (ls 2)).get? c=some o:=λc o q=>kC c o (Heap.get?_push_of_some _ q)
 have k3:∀c o,(aZ (aZ (aZ s.heap (ls 0)) (ls 1)) (ls 2)).get? c=some o->(zC3 s.heap (ls 0) (ls 1) (ls 2)).get? c=some o:=λc o q=>kB c o (Heap.get?_push_of_some _ q)
 have k2:∀c o,(aZ (aZ s.heap (ls 0)) (ls 1)).get? c=some o->(zC3 s.heap (ls 0) (ls 1) (ls 2)).get? c=some o:=λc o q=>k3 c o (Heap.get?_push_of_some _ q)
 have k1:∀c o,(aZ s.heap (ls 0)).get? c=some o->(zC3 s.heap (ls 0) (ls 1) (ls 2)).get? c=some o:=λc o q=>k2 c o (Heap.get?_push_of_some _ q)
 have k0:∀c o,s.heap.get? c=some o->(zC3 s.heap (ls 0) (ls 1) (ls 2)).get? c=some o:=λc o q=>k1 c o (Heap.get?_push_of_some _ q)
 have gC:(zC3 s.heap (ls 0) (ls 1) (ls 2)).get? (zB3 s.heap (ls 0) (ls 1) (ls 2)).objs.size=some _:=Heap.get?_push_size _ rfl;have gB:(zC3 s.heap (ls 0) (ls 1) (ls 2)).get? (zA3 s.heap (ls 0) (ls 1) (ls 2)).objs.size=some _:=kC _ _ (Heap.get?_push_size _ rfl);have gA:(zC3 s.heap (ls 0) (ls 1) (ls 2)).get? (aZ (aZ (aZ s.heap (ls 0)) (ls 1)) (ls 2)).objs.size=some _:=kB _ _ (Heap.get?_push_size _ rfl);have g0:(zC3 s.heap (ls 0) (ls 1) (ls 2)).get? s.heap.objs.size=some _:=k1 _ _ (Heap.get?_push_size _ rfl);have g1:(zC3 s.heap (ls 0) (ls 1) (ls 2)).get? (aZ s.heap (ls 0)).objs.size=some _:=k2 _ _ (Heap.get?_push_size _ rfl);have g2:(zC3 s.heap (ls 0) (ls 1) (ls 2)).get? (aZ (aZ s.heap (ls 0)) (ls 1)).objs.size=some _:=k3 _ _ (Heap.get?_push_size _ rfl);rw [zB,zA,z3]at gC;rw [zA]at gB;rw [z3,z2,z1]at gA;rw [z1]at g1;rw [z2]at g2;show _/\Q (.ref (zB3 s.heap (ls 0) (ls 1) (ls 2)).objs.size) _
 rw [zB];refine ⟨⟨_,gC,rfl⟩,h _ ⟨gC,gA,gB,λj hj=>?_⟩ k0⟩
 match j,hj with
 |0,_=>exact ⟨_,g0,rfl,rfl⟩
 |1,_=>exact ⟨_,g1,rfl,rfl⟩
 |2,_=>exact ⟨_,g2,rfl,rfl⟩
theorem qk (a b c d:Value):checkTypeCall "zip" ⟨[a,b,c,d],[]⟩=pure ():=by kernel_rfl
theorem rG (a b c d:Value):checkBuiltinCall "zip.__new__" ⟨[.type "zip",a,b,c,d],[]⟩=pure ():=by kernel_rfl
theorem pQ (e a b c d:Value):argsOk "object.__init__" ⟨[e,a,b,c,d],[]⟩:=by
 unfold argsOk;rw [signature?_of (id := "object.__init__") (n:=['_','_','t','i','n','i','_','_']) (o:=['t','c','e','j','b','o']) (by kernel_rfl) PySem.F.owner_object]
 kernel_rfl
noncomputable def zA4 (h:Heap) (l0 l1 l2 l3:Nat):Heap:=(aZ (aZ (aZ (aZ h l0) l1) l2) l3).push { cls:=.type "tuple",data:=.seq #[.ref h.objs.size,.ref (aZ h l0).objs.size,.ref (aZ (aZ h l0) l1).objs.size,.ref (aZ (aZ (aZ h l0) l1) l2).objs.size] }
noncomputable def zB4 (h:Heap) (l0 l1 l2 l3:Nat):Heap:=(zA4 h l0 l1 l2 l3).push { cls:=.type "tuple",data:=.seq #[.none,.none,.none,.none] }
noncomputable def zC4 (h:Heap) (l0 l1 l2 l3:Nat):Heap:=(zB4 h l0 l1 l2 l3).push { cls:=.type "zip",data:=.fields #[.none,.bool false,.bool false,.ref (aZ (aZ (aZ (aZ h l0) l1) l2) l3).objs.size,.ref (zA4 h l0 l1 l2 l3).objs.size] }
theorem vv (l0 l1 l2 l3:Nat) (xl0 xl1 xl2 xl3:Array Value) :
  Meets (Builtin.«zip.__new__» ⟨[.type "zip",.ref l0,.ref l1,.ref l2,.ref l3],[]⟩) (λ_ R s=>s.heap.IsList l0 xl0/\s.heap.IsList l1 xl1/\s.heap.IsList l2 xl2/\s.heap.IsList l3 xl3 /\
   R (.ok (.ret (.ref (zB4 s.heap l0 l1 l2 l3).objs.size))) { s with heap:=zC4 s.heap l0 l1 l2 l3 }) :=
 .of_wp λprog w A R s h=>by
  obtain ⟨hp,g,d,tk,os⟩:=s;obtain ⟨hl0,hl1,hl2,hl3,h⟩:=h;have hsub:=sub_zip;have Hl0:Heap.IsList (Shared.heap ⟨hp,g,d,tk,os⟩) l0 xl0:=hl0;have Hl1:Heap.IsList (Shared.heap ⟨(Heap.push hp { cls:=.type "list_iterator",data:=.fields #[.ref l0,.int 0 0] }),g,d,tk,os⟩) l1 xl1:=(Heap.IsList.push hl1 _);have Hl2:Heap.IsList (Shared.heap ⟨(Heap.push (Heap.push hp { cls:=.type "list_iterator",data:=.fields #[.ref l0,.int 0 0] }) { cls:=.type "list_iterator",data:=.fields #[.ref l1,.int 0 0] }),g,d,tk,os⟩) l2 xl2:=(Heap.IsList.push (Heap.IsList.push hl2 _) _);have Hl3:Heap.IsList (Shared.heap ⟨(Heap.push (Heap.push (Heap.push hp { cls:=.type "list_iterator",data:=.fields #[.ref l0,.int 0 0] }) { cls:=.type "list_iterator",data:=.fields #[.ref l1,.int 0 0] }) { cls:=.type "list_iterator",data:=.fields #[.ref l2,.int 0 0] }),g,d,tk,os⟩) l3 xl3:=(Heap.IsList.push (Heap.IsList.push (Heap.IsList.push hl3 _) _) _)
  wp_walk using wpAny_pyIter_list Hl0,wpAny_pyIter_list Hl1,wpAny_pyIter_list Hl2,wpAny_pyIter_list Hl3
  exact ⟨_,rfl,h⟩
theorem zf {prog:Program} {w:World} {A:Around} {E:Value->Shared->Prop} {s:Shared} {ls:Nat->Nat} {xs:Nat->Array Value} {Q:Value->Shared->Prop} (hl:∀j,j<4->s.heap.IsList (ls j) (xs j))
  (h:∀h',ZS h' s.heap.objs.size 4 ls (λ_=>0) .none [.none,.none,.none,.none]->(∀c o,s.heap.get? c=some o->h'.get? c=some o)->Q (.ref (s.heap.objs.size+4+2)) { s with heap:=h' }) :
  wpAny (model prog w) A (call (.type "zip") [.ref (ls 0),.ref (ls 1),.ref (ls 2),.ref (ls 3)]) Q E s:=by
 refine callType_new PySem.F.called_zip (by decide) (qk _ _ _ _) (rG _ _ _ _) (λobj=>pQ obj _ _ _ _) PySem.F.entry_zip_new (vv (ls 0) (ls 1) (ls 2) (ls 3) (xs 0) (xs 1) (xs 2) (xs 3)) ⟨hl 0 (by decide),hl 1 (by decide),hl 2 (by decide),hl 3 (by decide),?_⟩
 have z1:(aZ s.heap (ls 0)).objs.size=s.heap.objs.size+1:=Heap.size_push ..;have z2:(aZ (aZ s.heap (ls 0)) (ls 1)).objs.size=s.heap.objs.size+2:=by unfold aZ;rw [Heap.size_push];exact congrArg (·+1) z1
 have z3:(aZ (aZ (aZ s.heap (ls 0)) (ls 1)) (ls 2)).objs.size=s.heap.objs.size+3:=by unfold aZ;rw [Heap.size_push];exact congrArg (·+1) z2
 have z4:(aZ (aZ (aZ (aZ s.heap (ls 0)) (ls 1)) (ls 2)) (ls 3)).objs.size=s.heap.objs.size+4:=by unfold aZ;rw [Heap.size_push];exact congrArg (·+1) z3
 have zA:(zA4 s.heap (ls 0) (ls 1) (ls 2) (ls 3)).objs.size=s.heap.objs.size+4+1:=by unfold zA4;rw [Heap.size_push,z4]
 have zB:(zB4 s.heap (ls 0) (ls 1) (ls 2) (ls 3)).objs.size=s.heap.objs.size+4+2:=by unfold zB4;rw [Heap.size_push,zA]
 have kC:∀c o,(zB4 s.heap (ls 0) (ls 1) (ls 2) (ls 3)).get? c=some o->(zC4 s.heap (ls 0) (ls 1) (ls 2) (ls 3)).get? c=some o:=λc o q=>Heap.get?_push_of_some _ q
 have kB:∀c o,(zA4 s.heap (ls 0) (ls 1) (ls 2) (ls 3)).get? c=some o->(zC4 s.heap (ls 0) (ls 1) (ls 2) (ls 3)).get? c=some o:=λc o q=>kC c o (Heap.get?_push_of_some _ q)
 have k4:∀c o,(aZ (aZ (aZ (aZ s.heap (ls 0)) (ls 1)) (ls 2)) (ls 3)).get? c=some o->(zC4 s.heap (ls 0) (ls 1) (ls 2) (ls 3)).get? c=some o:=λc o q=>kB c o (Heap.get?_push_of_some _ q)
 have k3:∀c o,(aZ (aZ (aZ s.heap (ls 0)) (ls 1)) (ls 2)).get? c=some o->(zC4 s.heap (ls 0) (ls 1) (ls 2) (ls 3)).get? c=some o:=λc o q=>k4 c o (Heap.get?_push_of_some _ q)
 have k2:∀c o,(aZ (aZ s.heap (ls 0)) (ls 1)).get? c=some o->(zC4 s.heap (ls 0) (ls 1) (ls 2) (ls 3)).get? c=some o:=λc o q=>k3 c o (Heap.get?_push_of_some _ q)
 have k1:∀c o,(aZ s.heap (ls 0)).get? c=some o->(zC4 s.heap (ls 0) (ls 1) (ls 2) (ls 3)).get? c=some o:=λc o q=>k2 c o (Heap.get?_push_of_some _ q)
 have k0:∀c o,s.heap.get? c=some o->(zC4 s.heap (ls 0) (ls 1) (ls 2) (ls 3)).get? c=some o:=λc o q=>k1 c o (Heap.get?_push_of_some _ q)
 have gC:(zC4 s.heap (ls 0) (ls 1) (ls 2) (ls 3)).get? (zB4 s.heap (ls 0) (ls 1) (ls 2) (ls 3)).objs.size=some _:=Heap.get?_push_size _ rfl;have gB:(zC4 s.heap (ls 0) (ls 1) (ls 2) (ls 3)).get? (zA4 s.heap (ls 0) (ls 1) (ls 2) (ls 3)).objs.size=some _:=kC _ _ (Heap.get?_push_size _ rfl);have gA:(zC4 s.heap (ls 0) (ls 1) (ls 2) (ls 3)).get? (aZ (aZ (aZ (aZ s.heap (ls 0)) (ls 1)) (ls 2)) (ls 3)).objs.size=some _:=kB _ _ (Heap.get?_push_size _ rfl);have g0:(zC4 s.heap (ls 0) (ls 1) (ls 2) (ls 3)).get? s.heap.objs.size=some _:=k1 _ _ (Heap.get?_push_size _ rfl);have g1:(zC4 s.heap (ls 0) (ls 1) (ls 2) (ls 3)).get? (aZ s.heap (ls 0)).objs.size=some _:=k2 _ _ (Heap.get?_push_size _ rfl);have g2:(zC4 s.heap (ls 0) (ls 1) (ls 2) (ls 3)).get? (aZ (aZ s.heap (ls 0)) (ls 1)).objs.size=some _:=k3 _ _ (Heap.get?_push_size _ rfl);have g3:(zC4 s.heap (ls 0) (ls 1) (ls 2) (ls 3)).get? (aZ (aZ (aZ s.heap (ls 0)) (ls 1)) (ls 2)).objs.size=some _:=k4 _ _ (Heap.get?_push_size _ rfl);rw [zB,zA,z4]at gC;rw [zA]at gB;rw [z4,z3,z2,z1]at gA;rw [z1]at g1;rw [z2]at g2;rw [z3]at g3;show _/\Q (.ref (zB4 s.heap (ls 0) (ls 1) (ls 2) (ls 3)).objs.size) _
 rw [zB];refine ⟨⟨_,gC,rfl⟩,h _ ⟨gC,gA,gB,λj hj=>?_⟩ k0⟩
 match j,hj with
 |0,_=>exact ⟨_,g0,rfl,rfl⟩
 |1,_=>exact ⟨_,g1,rfl,rfl⟩
 |2,_=>exact ⟨_,g2,rfl,rfl⟩
 |3,_=>exact ⟨_,g3,rfl,rfl⟩
end L2
namespace L2
open PySem PySem.Spec PyProof.Rows
noncomputable def Itn (K:PySem.W.Frag) (n:Nat) (ls:Nat->Nat):It :=
 ⟨λi H=>∀j,j<n->∃xs x,SqL K H (ls j) xs/\xs[i]?=some x,λi H v H'=>∃(T:Addr) (xs:List V),H T=none/\v=.ref T/\H'=upd H T (.tup xs)/\xs.length=n/\∀j,j<n->∀ys,SqL K H (ls j) ys->xs[j]?=ys[i]?,
  λi H=>∃xs,SqL K H (ls 0) xs/\xs.length<=i⟩
noncomputable def zfp (n0 n:Nat):List Addr:=(List.range (n+3)).map λj=>n0+j
theorem kO {n0 n c:Nat} (h:c∈zfp n0 n):n0<=c/\c<n0+n+3:=by
 unfold zfp at h;obtain ⟨j,hj,rfl⟩:=List.mem_map.mp h;have:=List.mem_range.mp hj
 lia
theorem jZ {n0 n c:Nat} (h1:n0<=c) (h2:c<n0+n+3):c∈zfp n0 n:=List.mem_map.mpr ⟨c-n0,List.mem_range.mpr (by lia),by lia⟩
theorem mB {n0 n c:Nat} (h:c∉zfp n0 n):c<n0\/n0+n+2<c:=by
 by_cases h1:n0<=c
 ·by_cases h2:c<n0+n+3
  ·exact absurd (jZ h1 h2) h
  ·lia
 ·lia
theorem ZS.obj {h:Heap} {n0 n:Nat} {ls:Nat->Nat} {is:Nat->Nat} {f0:Value} {arr:List Value} (Z:ZS h n0 n ls is f0 arr) {c:Nat} (hc:c∈zfp n0 n):∃o,h.get? c=some o/\∀v,o.data≠.cell v:=by
 have:=kO hc;by_cases h1:c<n0+n
 ·obtain ⟨o,e,_,d⟩:=Z.it (c-n0) (by lia)
  rw [show n0+(c-n0)=c by lia]at e
  exact ⟨o,e,λv z=>by rw [d]at z;cases z⟩
 ·have h2:c=n0+n\/c=n0+n+1\/c=n0+n+2:=by lia
  rcases h2 with rfl | rfl | rfl
  ·exact ⟨_,Z.ti,λv z=>by cases z⟩
  ·exact ⟨_,Z.to,λv z=>by cases z⟩
  ·exact ⟨_,Z.zp,λv z=>by cases z⟩
theorem ZS.kept {h h':Heap} {n0 n:Nat} {ls:Nat->Nat} {is:Nat->Nat} {f0:Value} {arr:List Value} (Z:ZS h n0 n ls is f0 arr) (kp:∀b∈zfp n0 n,∀o,h.get? b=some o->h'.get? b=some o):ZS h' n0 n ls is f0 arr :=
 ⟨kp _ (jZ (by lia) (by lia)) _ Z.zp,kp _ (jZ (by lia) (by lia)) _ Z.ti,kp _ (jZ (by lia) (by lia)) _ Z.to,λj hj=>(Z.it j hj).at λo q=>kp _ (jZ (by lia) (by lia)) o q⟩
theorem Vals.of_get:∀{vs:List V} {us:List Value},vs.length=us.length->(∀j,j<vs.length->∃v u,vs[j]?=some v/\us[j]?=some u/\RelV v u)->Vals vs us
 |[],[],_,_=>.nil
 |v :: vs,u :: us,hl,h=>by
  obtain ⟨v',u',e1,e2,r⟩:=h 0 (by simp)
  cases e1;cases e2;refine .cons r (Vals.of_get (by simpa using hl) λj hj=>?_)
  obtain ⟨v',u',e1,e2,r⟩:=h (j+1) (by simpa using hj)
  exact ⟨v',u',by simpa using e1,by simpa using e2,r⟩
theorem ym {P:Program} {w:World} {K:PySem.W.Frag} {es:List Expr} {tk:Nat} {pos:Pos} (n0:Nat) (ls:Nat->Nat) (hlt:∀j,j<3->ls j<n0) :
  Turn P w K (.Tuple es tk pos) (Itn K 3 ls) (zfp n0 3) (n0+3+2) (λi h=>∃arr,arr.length=3/\ZS h n0 3 ls (λ_=>i) .none arr):=by
 constructor
 ·exact jZ (by lia) (by lia)
 ·rintro i h ⟨arr,_,Z⟩ c hc
  exact Z.obj hc
 ·rintro i h h' ⟨arr,ha,Z⟩ kp
  exact ⟨arr,ha,Z.kept kp⟩
 ·intro X hP hw hK hc i pins s σ H E I hf st hg
  subst hP hw hK;obtain ⟨arr,ha,Z⟩:=st;have pick:∀j,∃(xs:List V) (x:V) (its:List Value) (u:Value),j<3->SqL X.K H (ls j) xs/\xs[i]?=some x/\s.heap.IsList (ls j) its.toArray/\its[i]?=some u/\RelV x u:=λj=>by
   by_cases hj:j<3
   ·obtain ⟨xs,x,hq,hx⟩:=hg j hj
    obtain ⟨its,rv,p,_⟩:=I.list hq;obtain ⟨u,hu,ru⟩:=rv.get hx;exact ⟨xs,x,its,u,λ_=>⟨hq,hx,p.isList,hu,ru⟩⟩
   ·exact ⟨[],.non,[],.none,λz=>absurd z hj⟩
  obtain ⟨xs,pick⟩:=Classical.axiomOfChoice pick;obtain ⟨x,pick⟩:=Classical.axiomOfChoice pick;obtain ⟨its,pick⟩:=Classical.axiomOfChoice pick;obtain ⟨u,pick⟩:=Classical.axiomOfChoice pick;refine rX hlt Z ha (xs:=λj=>(its j).toArray) (x:=u) (λj hj=>(pick j hj).2.2.1) (λj hj=>by simpa using (pick j hj).2.2.2.1) λh3 Z3 hT hk=>?_
  refine ⟨_,rfl,wpAny_letOwnedTupleGo_zip Z3.zp λh4 hz4 hs4=>?_⟩
  have zlt:n0+3+2<s.heap.objs.size:=Heap.lt_size Z.zp;have hs4':∀c,c≠n0+3+2->h4.get? c=h3.get? c:=λc hc=>hs4.2 c (neN hc)
  have kk:∀c w',c∉zfp n0 3->s.heap.get? c=some w'->h4.get? c=some w':=λc w' hc q=>by
   have:=mB hc;exact (hs4' c (by lia)).trans (hk c w' this q)
  have hT4:=(hs4' s.heap.objs.size (by lia)).trans hT
  have Z4:ZS h4 n0 3 ls (λ_=>i+1) .none ((List.range 3).map u):=Z3.flag hs4.extBut hz4
  refine ⟨.ref s.heap.objs.size,upd H s.heap.objs.size (.tup ((List.range 3).map x)),kR (s:=s) (h':=h4) (t':=s.toks) I hf kk (Nat.le_refl _) ?_,rfl,⟨_,(List.range 3).map x,I.fresh,rfl,rfl,rfl,λj hj ys hy=>?_⟩,⟨_,rfl,Z4⟩,λc hc=>?_⟩
  ·refine ⟨by show 3<=sizeLine;decide,(List.range 3).map u,Vals.of_get rfl λj hj=>?_,_,hT4,rfl,_,rfl⟩
   have hj:j<3:=hj;exact ⟨x j,u j,by rw [List.getElem?_map,List.getElem?_range hj];rfl,by rw [List.getElem?_map,List.getElem?_range hj];rfl,(pick j hj).2.2.2.2⟩
  ·rw [List.getElem?_map,List.getElem?_range hj,I.list_inj hy (pick j hj).1,(pick j hj).2.1]
   rfl
  ·have:=kO hc
   rw [aL (neN (by lia))]
   exact (hf c hc).1
 ·intro X hP hw hK hc i pins s σ H E I hf st hg
  subst hP hw hK;obtain ⟨arr,ha,Z⟩:=st;obtain ⟨xs,hq,hx⟩:=hg;obtain ⟨its,rv,p,_⟩:=I.list hq;have l1:=rv.length;refine rW (I.ok.hd hc) (hlt 0 (by decide)) Z p.isList (by simp;lia) λh3 hk=>⟨rfl,l8 (t':=s.toks) I hf λc w' hc q=>hk c w' (mB hc) q⟩
 ·rintro A i s Q E ⟨arr,ha,Z⟩ h
  exact wpAny_pyIter_zip Z.zp h
noncomputable def iZ3 (K:PySem.W.Frag) (ta:TA):TI:=fun σ H R=>ta σ H λvs H1=>∃ls:Nat->Nat,vs=(List.range 3).map (λj=>V.ref (ls j))/\(∀j,j<3->∃xs,SqL K H1 (ls j) xs)/\R (Itn K 3 ls) H1
theorem IJ {X:Cx} {es:List Expr} {tk:Nat} {a b c:Expr} {ta:TA} {p pos tpos:Pos} (hg:Gl X "zip") (hm:X.mg "zip" = none) (ha:PA X [a,b,c] ta)
  (hs:starEach [a,b,c] X.env=(false,eval a X.env) :: starEach [b,c] X.env:=by rfl) (hs2:(backTo pos (starEach [b,c] X.env)).any (·.1)=false:=by rfl) :
  PI X (.Tuple es tk tpos) (.Call (.Name "zip" p) [a,b,c] [] pos) (iZ3 X.K ta):=by
 intro pins s σ H R I h;refine Call_ (ik I hg hm kX (PyProof.Rows.callWith_type1 (thn (ha pos pins s σ H _ I h) λus s1 ⟨vs,H1,I1,r1,q1⟩=>?_) hs hs2))
 obtain ⟨ls,e,hq,q⟩:=q1;subst e;have eu:us=(List.range 3).map λj=>Value.ref (ls j):=by
  have:∀(L:List Nat) (us:List Value),Vals (L.map λj=>V.ref (ls j)) us->us=L.map λj=>Value.ref (ls j):=λL=>by
   induction L with
   |nil =>
    intro us r;cases r;rfl
   |cons c L ih =>
    intro us r;cases r with
    |cons a b =>
     cases a;rw [ih _ b];rfl
  exact this _ _ r1
 subst eu;have pick:∀j,∃its:List Value,j<3->s1.heap.IsList (ls j) its.toArray:=λj=>by
  by_cases hj:j<3
  ·obtain ⟨xs,hq'⟩:=hq j hj
   obtain ⟨its,rv,pl,_⟩:=I1.list hq';exact ⟨its,λ_=>pl.isList⟩
  ·exact ⟨[],λz=>absurd z hj⟩
 obtain ⟨its,pick⟩:=Classical.axiomOfChoice pick;have lt:∀j,j<3->ls j<s1.heap.objs.size:=λj hj=>(let ⟨o,e,_⟩:=pick j hj;Heap.lt_size e)
 refine yU (ls:=ls) (xs:=λj=>(its j).toArray) pick λh1 Z hk=>?_
 refine wpAny_pyIter_zip Z.zp ?_;have I2:Inv X pins σ H1 { s1 with heap:=h1 }:=I1.kept (t':=s1.toks) hk
 refine ⟨s1.heap.objs.size+3+2,zfp s1.heap.objs.size 3,_,Itn X.K 3 ls,H1,rfl,I2,ym _ ls lt,⟨_,rfl,Z⟩,λc hc=>?_,q⟩
 have hc':=(kO hc).1;exact I1.fpOk hc' (I1.hok.fresh hc')
theorem yT {P:Program} {w:World} {K:PySem.W.Frag} {es:List Expr} {tk:Nat} {pos:Pos} (n0:Nat) (ls:Nat->Nat) (hlt:∀j,j<4->ls j<n0) :
  Turn P w K (.Tuple es tk pos) (Itn K 4 ls) (zfp n0 4) (n0+4+2) (λi h=>∃arr,arr.length=4/\ZS h n0 4 ls (λ_=>i) .none arr):=by
 constructor
 ·exact jZ (by lia) (by lia)
 ·rintro i h ⟨arr,_,Z⟩ c hc
  exact Z.obj hc
 ·rintro i h h' ⟨arr,ha,Z⟩ kp
  exact ⟨arr,ha,Z.kept kp⟩
 ·intro X hP hw hK hc i pins s σ H E I hf st hg
  subst hP hw hK;obtain ⟨arr,ha,Z⟩:=st;have pick:∀j,∃(xs:List V) (x:V) (its:List Value) (u:Value),j<4->SqL X.K H (ls j) xs/\xs[i]?=some x/\s.heap.IsList (ls j) its.toArray/\its[i]?=some u/\RelV x u:=λj=>by
   by_cases hj:j<4
   ·obtain ⟨xs,x,hq,hx⟩:=hg j hj
    obtain ⟨its,rv,p,_⟩:=I.list hq;obtain ⟨u,hu,ru⟩:=rv.get hx;exact ⟨xs,x,its,u,λ_=>⟨hq,hx,p.isList,hu,ru⟩⟩
   ·exact ⟨[],.non,[],.none,λz=>absurd z hj⟩
  obtain ⟨xs,pick⟩:=Classical.axiomOfChoice pick;obtain ⟨x,pick⟩:=Classical.axiomOfChoice pick;obtain ⟨its,pick⟩:=Classical.axiomOfChoice pick;obtain ⟨u,pick⟩:=Classical.axiomOfChoice pick;refine se hlt Z ha (xs:=λj=>(its j).toArray) (x:=u) (λj hj=>(pick j hj).2.2.1) (λj hj=>by simpa using (pick j hj).2.2.2.1) λh3 Z3 hT hk=>?_
  refine ⟨_,rfl,wpAny_letOwnedTupleGo_zip Z3.zp λh4 hz4 hs4=>?_⟩
  have zlt:n0+4+2<s.heap.objs.size:=Heap.lt_size Z.zp;have hs4':∀c,c≠n0+4+2->h4.get? c=h3.get? c:=λc hc=>hs4.2 c (neN hc)
  have kk:∀c w',c∉zfp n0 4->s.heap.get? c=some w'->h4.get? c=some w':=λc w' hc q=>by
   have:=mB hc;exact (hs4' c (by lia)).trans (hk c w' this q)
  have hT4:=(hs4' s.heap.objs.size (by lia)).trans hT
  have Z4:ZS h4 n0 4 ls (λ_=>i+1) .none ((List.range 4).map u):=Z3.flag hs4.extBut hz4
  refine ⟨.ref s.heap.objs.size,upd H s.heap.objs.size (.tup ((List.range 4).map x)),kR (s:=s) (h':=h4) (t':=s.toks) I hf kk (Nat.le_refl _) ?_,rfl,⟨_,(List.range 4).map x,I.fresh,rfl,rfl,rfl,λj hj ys hy=>?_⟩,⟨_,rfl,Z4⟩,λc hc=>?_⟩
  ·refine ⟨by show 4<=sizeLine;decide,(List.range 4).map u,Vals.of_get rfl λj hj=>?_,_,hT4,rfl,_,rfl⟩
   have hj:j<4:=hj;exact ⟨x j,u j,by rw [List.getElem?_map,List.getElem?_range hj];rfl,by rw [List.getElem?_map,List.getElem?_range hj];rfl,(pick j hj).2.2.2.2⟩
  ·rw [List.getElem?_map,List.getElem?_range hj,I.list_inj hy (pick j hj).1,(pick j hj).2.1]
   rfl
  ·have:=kO hc
   rw [aL (neN (by lia))]
   exact (hf c hc).1
 ·intro X hP hw hK hc i pins s σ H E I hf st hg
  subst hP hw hK;obtain ⟨arr,ha,Z⟩:=st;obtain ⟨xs,hq,hx⟩:=hg;obtain ⟨its,rv,p,_⟩:=I.list hq;have l1:=rv.length;refine sD (I.ok.hd hc) (hlt 0 (by decide)) Z p.isList (by simp;lia) λh3 hk=>⟨rfl,l8 (t':=s.toks) I hf λc w' hc q=>hk c w' (mB hc) q⟩
 ·rintro A i s Q E ⟨arr,ha,Z⟩ h
  exact wpAny_pyIter_zip Z.zp h
noncomputable def iZ4 (K:PySem.W.Frag) (ta:TA):TI:=fun σ H R=>ta σ H λvs H1=>∃ls:Nat->Nat,vs=(List.range 4).map (λj=>V.ref (ls j))/\(∀j,j<4->∃xs,SqL K H1 (ls j) xs)/\R (Itn K 4 ls) H1
theorem Gg {X:Cx} {es:List Expr} {tk:Nat} {a b c d:Expr} {ta:TA} {p pos tpos:Pos} (hg:Gl X "zip") (hm:X.mg "zip" = none) (ha:PA X [a,b,c,d] ta)
  (hs:starEach [a,b,c,d] X.env=(false,eval a X.env) :: starEach [b,c,d] X.env:=by rfl) (hs2:(backTo pos (starEach [b,c,d] X.env)).any (·.1)=false:=by rfl) :
  PI X (.Tuple es tk tpos) (.Call (.Name "zip" p) [a,b,c,d] [] pos) (iZ4 X.K ta):=by
 intro pins s σ H R I h;refine Call_ (ik I hg hm kX (PyProof.Rows.callWith_type1 (thn (ha pos pins s σ H _ I h) λus s1 ⟨vs,H1,I1,r1,q1⟩=>?_) hs hs2))
 obtain ⟨ls,e,hq,q⟩:=q1;subst e;have eu:us=(List.range 4).map λj=>Value.ref (ls j):=by
  have:∀(L:List Nat) (us:List Value),Vals (L.map λj=>V.ref (ls j)) us->us=L.map λj=>Value.ref (ls j):=λL=>by
   induction L with
   |nil =>
    intro us r;cases r;rfl
   |cons c L ih =>
    intro us r;cases r with
    |cons a b =>
     cases a;rw [ih _ b];rfl
  exact this _ _ r1
 subst eu;have pick:∀j,∃its:List Value,j<4->s1.heap.IsList (ls j) its.toArray:=λj=>by
  by_cases hj:j<4
  ·obtain ⟨xs,hq'⟩:=hq j hj
   obtain ⟨its,rv,pl,_⟩:=I1.list hq';exact ⟨its,λ_=>pl.isList⟩
  ·exact ⟨[],λz=>absurd z hj⟩
 obtain ⟨its,pick⟩:=Classical.axiomOfChoice pick;have lt:∀j,j<4->ls j<s1.heap.objs.size:=λj hj=>(let ⟨o,e,_⟩:=pick j hj;Heap.lt_size e)
 refine zf (ls:=ls) (xs:=λj=>(its j).toArray) pick λh1 Z hk=>?_
 refine wpAny_pyIter_zip Z.zp ?_;have I2:Inv X pins σ H1 { s1 with heap:=h1 }:=I1.kept (t':=s1.toks) hk
 refine ⟨s1.heap.objs.size+4+2,zfp s1.heap.objs.size 4,_,Itn X.K 4 ls,H1,rfl,I2,yT _ ls lt,⟨_,rfl,Z⟩,λc hc=>?_,q⟩
 have hc':=(kO hc).1;exact I1.fpOk hc' (I1.hok.fresh hc')
end L2
namespace L3
open PySem L2 PySem.Spec PyProof.Rows
noncomputable def EO (a b c:List PyData):List PyData:=(List.range a.length).map λi=>PyData.tuple [a.getD i .none,b.getD i .none,c.getD i .none]
noncomputable def zN3:List PyData->R (List PyData)
 |[.list a,.list b,.list c]=>if a.length=b.length/\a.length=c.length then .ok (EO a b c) else .bad
 |_=>.bad
section
variable {M:Mx} {n:Nat} {F H:Hp} {σ:St} {D:Ends} {R':It->Hp->Prop} {X:Cx}
end
noncomputable def nz (a b c d:List PyData):List PyData:=(List.range a.length).map λi=>PyData.tuple [a.getD i .none,b.getD i .none,c.getD i .none,d.getD i .none]
noncomputable def zN4:List PyData->R (List PyData)
 |[.list a,.list b,.list c,.list d]=>if a.length=b.length/\a.length=c.length/\a.length=d.length then .ok (nz a b c d) else .bad
 |_=>.bad
noncomputable def vI (al:Fa):Fi:=fun ρ=>(al ρ).bind λxs=>zN4 (xs.map OD.er)
theorem HF {a b c d:List PyData} (h:a.length=b.length/\a.length=c.length/\a.length=d.length):zN4 [.list a,.list b,.list c,.list d]=.ok (nz a b c d):=if_pos h
theorem oG {a b c d:List PyData} {i:Nat} {e:PyData} (h:(nz a b c d)[i]?=some e):i<a.length/\e=.tuple [a.getD i .none,b.getD i .none,c.getD i .none,d.getD i .none]:=by
 unfold nz at h;rw [List.getElem?_map]at h;obtain ⟨j,hj,rfl⟩:=Option.map_eq_some_iff.mp h;obtain ⟨h1,h2⟩:=List.getElem?_eq_some_iff.mp hj;rw [List.getElem_range]at h2;rw [List.length_range]at h1;subst h2;exact ⟨h1,rfl⟩
theorem oq (a b c d:List PyData):(nz a b c d).length=a.length:=by
 unfold nz;rw [List.length_map,List.length_range]
section
variable {M:Mx} {n:Nat} {F H:Hp} {σ:St} {D:Ends} {R':It->Hp->Prop} {X:Cx}
theorem HK {al:Fa} (h:tI M n (vI al) σ H R'):iZ4 M.K (tA M n al) σ H R':=by
 obtain ⟨F,ρ,fp,S,p⟩:=h;refine ⟨F,ρ,fp,S,(aE.bind p).mono λxs px vs F1 H1 fx e1 r1 w1=>?_⟩
 obtain ⟨G1,d1,k1⟩:=r1.frz e1 w1;generalize xs.map OD.er=es at px k1
 unfold zN4 at px;split at px
 ·rename_i a b c d
  split at px
  ·rename_i hl
   cases k1 with | cons rr0 t0 =>
   cases t0 with | cons rr1 t1 =>
   cases t1 with | cons rr2 t2 =>
   cases t2 with | cons rr3 t3 =>
   cases t3;cases rr0 with | @lst p0 vs0 _ h0 g0 =>
   cases rr1 with | @lst p1 vs1 _ h1 g1 =>
   cases rr2 with | @lst p2 vs2 _ h2 g2 =>
   cases rr3 with | @lst p3 vs3 _ h3 g3 =>
   refine ⟨λj=>[p0,p1,p2,p3].getD j 0,rfl,λj hj=>?_,px _ G1 H1 d1 λi G H' s1 s2=>?_⟩
   ·match j,hj with
    |0,_=>exact ⟨vs0,(h0.same d1.fh).sq⟩
    |1,_=>exact ⟨vs1,(h1.same d1.fh).sq⟩
    |2,_=>exact ⟨vs2,(h2.same d1.fh).sq⟩
    |3,_=>exact ⟨vs3,(h3.same d1.fh).sq⟩
   have q0:=(h0.same (s1.trans s2)).sq;have q1:=(h1.same (s1.trans s2)).sq;have q2:=(h2.same (s1.trans s2)).sq;have q3:=(h3.same (s1.trans s2)).sq;refine ⟨λe he=>?_,λhn=>⟨vs0,q0,?_⟩⟩
   ·obtain ⟨hi,rfl⟩:=oG he
    have y0:a[i]?=some (a.getD i .none):=by rw [List.getD_eq_getElem?_getD,List.getElem?_eq_getElem (by lia)];rfl
    obtain ⟨u0,hu0,ru0⟩:=RepAll.get g0 y0;have y1:b[i]?=some (b.getD i .none):=by rw [List.getD_eq_getElem?_getD,List.getElem?_eq_getElem (by lia)];rfl
    obtain ⟨u1,hu1,ru1⟩:=RepAll.get g1 y1;have y2:c[i]?=some (c.getD i .none):=by rw [List.getD_eq_getElem?_getD,List.getElem?_eq_getElem (by lia)];rfl
    obtain ⟨u2,hu2,ru2⟩:=RepAll.get g2 y2;have y3:d[i]?=some (d.getD i .none):=by rw [List.getD_eq_getElem?_getD,List.getElem?_eq_getElem (by lia)];rfl
    obtain ⟨u3,hu3,ru3⟩:=RepAll.get g3 y3;refine ⟨λj hj=>?_,λx H2 y=>?_⟩
    ·match j,hj with
     |0,_=>exact ⟨vs0,u0,q0,hu0⟩
     |1,_=>exact ⟨vs1,u1,q1,hu1⟩
     |2,_=>exact ⟨vs2,u2,q2,hu2⟩
     |3,_=>exact ⟨vs3,u3,q3,hu3⟩
    obtain ⟨T,us,hT,rfl,rfl,hlen,hz⟩:=y;have z0:=hz 0 (by decide) vs0 q0
    rw [hu0]at z0;have z1:=hz 1 (by decide) vs1 q1
    rw [hu1]at z1;have z2:=hz 2 (by decide) vs2 q2
    rw [hu2]at z2;have z3:=hz 3 (by decide) vs3 q3
    rw [hu3]at z3;obtain rfl:us=[u0,u1,u2,u3]:=by
     match us,hlen with
     |[w0,w1,w2,w3],_ =>
      cases z0;cases z1;cases z2;cases z3;rfl
    have sg:aP G (upd G T (.tup [u0,u1,u2,u3])):=(aP.refl G).upd (s2.free hT);exact ⟨upd G T _,Ext.allocF s2 hT,.tup bB (.cons ((ru0.same s1).same sg) (.cons ((ru1.same s1).same sg) (.cons ((ru2.same s1).same sg) (.cons ((ru3.same s1).same sg) .nil))))⟩
   ·rw [oq]at hn
    rw [RepAll.len g0];exact hn
  ·exact px.elim
 ·exact px.elim
theorem GN {ts:List Expr} {tk:Nat} {a b c d:Expr} {fa fb fc fd:Fe} {p tpos pos:Pos} (hg:Gl X "zip") (hm:X.mg "zip" = none) (ha:DE M X a fa) (hb:DE M X b fb) (hc:DE M X c fc) (hd:DE M X d fd)
  (s0:starEach [a,b,c,d] X.env=(false,eval a X.env) :: starEach [b,c,d] X.env:=by rfl)
  (s1:starEach [b,c,d] X.env=(false,eval b X.env) :: starEach [c,d] X.env:=by rfl)
  (s2:starEach [c,d] X.env=(false,eval c X.env) :: starEach [d] X.env:=by rfl)
  (s3:starEach [d] X.env=(false,eval d X.env) :: starEach [] X.env:=by rfl)
  (hs2:(backTo pos (starEach [b,c,d] X.env)).any (·.1)=false:=by rfl) :
  DI M X (.Tuple ts tk tpos) (.Call (.Name "zip" p) [a,b,c,d] [] pos) (vI (af fa (af fb (af fc (af fd av))))):=λhK hM=>by
 have q:=Gg (es:=ts) (tk:=tk) (tpos:=tpos) (p:=p) (pos:=pos) hg hm ((ab ha (ab hb (ab hc (ab hd aj s3) s2) s1) s0) hK hM) s0 hs2;rw [hK]at q;exact λpins s σ H R' I z=>q pins s σ H R' I (HK z)
end
theorem Il {al:Fa} {ρ:Env}:vI al ρ=unK (λxs=>zN4 (xs.map OD.er)) (al ρ):=by
 unfold vI;cases al ρ <;> rfl
end L3
namespace L2
open PySem PySem.Spec PyProof.Rows
end L2
namespace L3
open PySem L2 PySem.Spec PyProof.Rows
section
variable {M:Mx} {n:Nat} {F H:Hp} {σ:St} {D:Ends} {X:Cx} {b e:Expr} {fa fb:Fe} {x:Str} {p pos:Pos}
end
end L3
namespace L2
open PySem PySem.Spec PyProof.Rows
section
variable {prog:Program} {w:World} {A:Around} {E:Value->Shared->Prop} {s:Shared}
end
structure ZT (h:Heap) (n0 n:Nat) (ls:Nat->Nat) (is:Nat->Nat) (f0:Value) (arr:List Value):Prop where
 zp:h.get? (n0+n+2)=some { cls:=.type "zip",dict:=none,data:=.fields #[f0,.bool false,.bool false,.ref (n0+n),.ref (n0+n+1)],slots:=#[] }
 ti:h.get? (n0+n)=some { cls:=.type "tuple",data:=.seq (hX n0 n).toArray }
 to:h.get? (n0+n+1)=some { cls:=.type "tuple",data:=.seq arr.toArray }
 it:∀j,j<n->h.IsTupleIter (n0+j) (ls j) (is j)
section
variable {prog:Program} {w:World} {A:Around} {E:Value->Shared->Prop} {s:Shared}
end
end L2
namespace L2
open PySem PySem.Spec PyProof.Rows
end L2
namespace L3
open PySem L2 PySem.Spec PyProof.Rows
section
variable {M:Mx} {n:Nat} {F H:Hp} {σ:St} {D:Ends} {R':It->Hp->Prop} {X:Cx} {a b:Expr} {fa fb:Fe} {pos:Pos}
end
end L3
namespace L3
open PySem L2 PySem.Spec PyProof.Rows
mutual
noncomputable def nol:PyData->Bool
 |.tuple ds=>yB ds
 |.list _=>false
 |.dict _=>false
 |.none=>true
 |.bool _=>true
 |.int _=>true
 |.str _=>true
noncomputable def yB:List PyData->Bool
 |[]=>true
 |d :: ds=>nol d && yB ds
end
section
variable {K:PySem.W.Frag} {F H:Hp} {f:List Addr}
mutual
theorem wQ (hl:∀b∈f,∃ws,F b=some (.lst ws)) {v:V} {d:PyData}:Rep K F v d->nol d=true->Rep K (yx F f) v d
 |.non,_=>.non
 |.bl b,_=>.bl b
 |.int i,_=>.int i
 |.str x,_=>.str x
 |.lst _ _,e=>by rw [nol]at e;cases e
 |.dct _ _ _,e=>by unfold dD at e;rw [nol]at e;cases e
 |.ins _ _ _,e=>by unfold i6 at e;rw [nol]at e;cases e
 |.tup (a:=a) h1 h2,e=>by
  rw [nol]at e;refine .tup ?_ (ox hl h2 e);rw [x3 λm=>by
   obtain ⟨ws,q⟩:=hl a m;rw [h1]at q;cases q]
  exact h1
theorem ox (hl:∀b∈f,∃ws,F b=some (.lst ws)) {vs:List V} {ds:List PyData}:RepAll K F vs ds->yB ds=true->RepAll K (yx F f) vs ds
 |.nil,_=>.nil
 |.cons h r,e=>by
  rw [yB,Bool.and_eq_true]at e;exact .cons (wQ hl h e.1) (ox hl r e.2)
end
end
section
variable {M:Mx} {n:Nat} {σ:L2.St} {H:Hp} {Q:VK}
end
section
variable {M:Mx} {X:Cx} {e:Expr} {fa fb:Fe}
end
end L3
namespace L2
open PySem PySem.Spec PyProof.Rows
section
variable {prog:Program} {w:World} {A:Around} {E:Value->Shared->Prop} {s:Shared}
end
section
variable {prog:Program} {w:World} {A:Around} {E:Value->Shared->Prop} {s:Shared}
end
end L2
namespace L2
open PySem PySem.Spec PyProof.Rows
section
variable {prog:Program} {w:World} {A:Around} {E:Value->Shared->Prop} {s:Shared}
end
structure LZ (X:Cx) (H0 H:Hp) (xs ys:List V) (Ts:List Addr):Prop where
 up:aP H0 H
 new:∀c o,H c=some o->H0 c=some o\/c∈Ts
 free:∀T∈Ts,H0 T=none
 tup:∀(j:Nat) (T:Addr),Ts[j]?=some T->∃x y,xs[j]?=some x/\ys[j]?=some y/\H T=some (.tup [x,y])
end L2
namespace L2
open PySem PySem.Spec PyProof.Rows
end L2
namespace L3
open PySem L2 PySem.Spec PyProof.Rows
section
variable {M:Mx} {X:Cx}
open Classical in
end
end L3
namespace L3
open PySem L2 PySem.Spec PyProof.Rows
noncomputable def lN:PyData->Option Str
 |.dict ((.none,.str nm) :: _)=>some nm
 |_=>none
noncomputable def lJ (f:Str):List (PyData×PyData)->Option PyData
 |[]=>none
 | (.tuple [.str g],d) :: r=>if f=g then some d else lJ f r
 |_ :: r=>lJ f r
noncomputable def rO (f:Str):PyData->Option PyData
 |.dict (_ :: r)=>lJ f r
 |_=>none
theorem tX (f nm:Str) (ds:List (Str×PyData)):rO f (i6 nm ds)=lJ f (ds.map λp=>(.tuple [.str p.1],p.2)):=rfl
theorem nc (f g:Str) (d:PyData) (r:List (PyData×PyData)):lJ f ((.tuple [.str g],d) :: r)=if f=g then some d else lJ f r:=rfl
theorem xx (kvs:List (Key×PyData)):lN (dD kvs)=none:=by
 unfold dD;cases kvs with
 |nil=>rfl
 |cons p r =>
  obtain ⟨k,v⟩:=p;cases k <;> rfl
section
variable {K:PySem.W.Frag} {H:Hp}
theorem sO {f:Str} {d:PyData}:∀{ds:List (Str×PyData)} {fs:List (Str×V)},fs.map (·.1)=ds.map (·.1)->RepAll K H (fs.map (·.2)) (ds.map (·.2))->lJ f (ds.map λp=>(.tuple [.str p.1],p.2))=some d->∃v,fs.lookup f=some v/\Rep K H v d
 |[],_,_,_,e=>by cases e
 | (g,d0) :: ds,[],h,_,_=>by cases h
 | (g,d0) :: ds,(g',v0) :: fs,h,r,e=>by
  rw [List.map_cons,List.map_cons]at h r;rw [List.map_cons,nc]at e;obtain ⟨h1,h2⟩:=List.cons.inj h;have h1:g'=g:=h1;subst h1;cases r with
  |cons r1 r2 =>
   by_cases hf:f=g'
   ·rw [if_pos hf]at e
    cases e;have hb:(f == g')=true:=beq_iff_eq.mpr hf;refine ⟨v0,?_,r1⟩;simp only [List.lookup,hb]
   ·rw [if_neg hf]at e
    obtain ⟨v,q1,q2⟩:=sO h2 r2 e;have hb:(f == g')=false:=beq_eq_false_iff_ne.mpr hf;refine ⟨v,?_,q2⟩;simp only [List.lookup,hb];exact q1
theorem qx {f:Str}:∀{ds:List (Str×PyData)} {fs:List (Str×V)},fs.map (·.1)=ds.map (·.1)->lJ f (ds.map λp=>(.tuple [.str p.1],p.2))=none->fs.lookup f=none
 |[],[],_,_=>rfl
 |[],_ :: _,h,_=>by cases h
 | (g,d0) :: ds,[],h,_=>by cases h
 | (g,d0) :: ds,(g',v0) :: fs,h,e=>by
  rw [List.map_cons,List.map_cons]at h;rw [List.map_cons,nc]at e;obtain ⟨h1,h2⟩:=List.cons.inj h;have h1:g'=g:=h1;subst h1;by_cases hf:f=g'
  ·rw [if_pos hf]at e
   cases e
  ·rw [if_neg hf]at e
   have hb:(f == g')=false:=beq_eq_false_iff_ne.mpr hf;simp only [List.lookup,hb];exact qx h2 e
end
theorem vp {K:PySem.W.Frag} {F:Hp} {v:V} {d:PyData} {nm:Str} (r:Rep K F v d) (e:lN d=some nm) :
  ∃a C dx fs ds,v=.ref a/\d=i6 nm ds/\PySem.W.nsIn K mainGlobals nm=some (some (.ref C))/\F a=some (.ins C dx fs)/\fs.map (·.1)=ds.map (·.1)/\RepAll K F (fs.map (·.2)) (ds.map (·.2)):=by
 cases r with
 |non=>cases e
 |bl _=>cases e
 |int _=>cases e
 |str _=>cases e
 |lst _ _=>cases e
 |tup _ _=>cases e
 |dct _ _ _=>rw [xx]at e;cases e
 |@ins a C dx fs nm' ds h1 h2 h3 =>
  have e':some nm'=some nm:=e;cases e';exact ⟨a,C,dx,fs,ds,rfl,rfl,h1.1,h1.2,h2,h3⟩
noncomputable def yY (tb:Str->Bool) (f:Str) (a:Fe):Fe:=fun ρ=>(a ρ).bind λx=>match lN x.er,rO f x.er with
 |some nm,some d=>if tb nm=true then .ok (.sh d) else .bad
 |_,_=>.bad
section
variable {M:Mx} {n:Nat} {σ:L3.St} {H:Hp} {Q:VK} {fa:Fe} {al:Fa}
theorem Fp {tb:Str->Bool} {f:Str} (hN:∀C nm,PySem.W.nsIn M.K mainGlobals nm=some (some (.ref C))->tb nm=true->Cls M.K C/\gf M.K C f) (h:tD M n (yY tb f fa) σ H Q):Hk M.K (tD M n fa) f σ H Q:=by
 obtain ⟨F,ρ,fp,S,p⟩:=h;refine ⟨F,ρ,fp,S,(aE.bind p).mono λx px v F1 H1 fx e1 r1 w1=>?_⟩
 obtain ⟨G1,d1,k1⟩:=r1.frz e1 w1;cases e:lN x.er with
 |none=>rw [e]at px;exact px.elim
 |some nm =>
  rw [e]at px;obtain ⟨a,C,dx,fs,ds,hv,hd,hC,ha,hn,hr⟩:=vp k1 e;subst hv;cases e2:rO f x.er with
  |none=>rw [e2]at px;exact px.elim
  |some d =>
   rw [e2]at px;have px':aE M H fp (OkE M F H Q) (if tb nm=true then .ok (.sh d) else .bad):=px
   by_cases ht:tb nm=true
   ·rw [if_pos ht]at px'
    rw [hd,tX]at e2;obtain ⟨u,l,ru⟩:=sO hn hr e2;obtain ⟨hc,hna⟩:=hN C nm hC ht;exact ⟨a,C,dx,fs,u,rfl,d1.fh _ _ ha,hc,hna,l,OkE.val d1.fh (OkE.pre d1 px') ru⟩
   ·rw [if_neg ht]at px'
    exact px'.elim
noncomputable def jR (tb:Str->Option Fn) (m:Str) (a:Fe) (al:Fa):Fe:=fun ρ=>(a ρ).bind λx=>match lN x.er,rO m x.er with
 |some nm,none=>match tb nm with
  |some fn=>(al ρ).bind λxs=>fn (x.er :: xs.map OD.er)
  |none=>.bad
 |_,_=>.bad
structure HasM (P:Program) (w:World) (K:PySem.W.Frag) (mg:Str->Option Value) (base:Heap) (CX:CXT) (k:Nat) (m:Str) (C f:Addr) (sp:Sp):Prop where
 c:Cls K C
 m:Meth K C m f
 f:∃fd ps,FnOk P w K mg base CX k f fd ps sp/\Binds K fd ps []
noncomputable def vt (ok:Addr->Addr->Sp->Prop) (m:Str) (E:XK) (ta:TE) (t:TA):TE:=fun σ H Q=>ta σ H λx H1=>∃a C dx fs f sp,x=.ref a/\H1 a=some (.ins C dx fs)/\ok C f sp/\fs.lookup m=none/\t σ H1 λvs H2=>sp (x :: vs) H2 Q E
theorem Ca {ok:Addr->Addr->Sp->Prop} {tb:Str->Option Fn} {m:Str} (hT:∀C nm fn,PySem.W.nsIn M.K mainGlobals nm=some (some (.ref C))->tb nm=some fn->∃f,ok C f (sp3 M.K M.mg fn)) (h:tD M n (jR tb m fa al) σ H Q) :
  vt ok m M.E (tD M n fa) (tA M n al) σ H Q:=by
 obtain ⟨F,ρ,fp,S,p⟩:=h;refine ⟨F,ρ,fp,S,(aE.bind p).mono λx px v F1 H1 fx e1 r1 w1=>?_⟩
 obtain ⟨G1,d1,k1⟩:=r1.frz e1 w1;cases e:lN x.er with
 |none=>rw [e]at px;exact px.elim
 |some nm =>
  rw [e]at px;have k1':=k1;obtain ⟨a,C,dx,fs,ds,hv,hd,hC,ha,hn,hr⟩:=vp k1 e;subst hv;cases e2:rO m x.er with
  |some d=>rw [e2]at px;exact px.elim
  |none =>
   rw [e2]at px;have px':aE M H fp (OkE M F H Q) (match tb nm with
    |some fn=>(al ρ).bind λxs=>fn (x.er :: xs.map OD.er)
    |none=>.bad):=px
   cases e3:tb nm with
   |none=>rw [e3]at px';exact px'.elim
   |some fn =>
    rw [e3]at px';have px2:aE M H fp (OkE M F H Q) ((al ρ).bind λxs=>fn (x.er :: xs.map OD.er)):=px'
    rw [hd,tX]at e2;obtain ⟨f,hf⟩:=hT C nm fn hC e3;refine ⟨a,C,dx,fs,f,_,rfl,d1.fh _ _ ha,hf,qx hn e2,G1,ρ,fp,S.ext d1,((aE.bind px2).ext d1).mono λxs pxs vs F2 H2 fxs e2 r2 w2=>?_⟩
    obtain ⟨G2,d2,k2⟩:=r2.frz e2 w2;exact ⟨G2,x.er :: xs.map OD.er,d2.fh,.cons (k1'.same d2.ff) k2,(pxs.ext (d1.trans d2)).nofp.mono λz hz=>hz.pre (d1.trans d2)⟩
noncomputable def qf (nm:Str):Fe:=λ_=>.ok (.sh (i6 nm []))
noncomputable def vQ (C:Addr):TE:=fun σ H Q=>∀x dx,H x=none->H dx=none->dx≠x->Q (.ref x) (upd (upd H dx (.own x)) x (.ins C dx []))
theorem qo {F H:Hp} {x dx C:Addr} {fs:List (Str×V)} (s:aP F H) (hx:H x=none) (hdx:H dx=none) (ne:dx≠x) :
  Ext F H (upd F x (.ins C dx fs)) (upd (upd H dx (.own x)) x (.ins C dx fs)):=by
 have e1:Ext F H F (upd H dx (.own x)):=Ext.alloc s hdx;exact e1.trans (Ext.allocF e1.fh (by rw [aL ne.symm];exact hx))
theorem Dv {nm:Str} {C:Addr} (hC:PySem.W.nsIn M.K mainGlobals nm=some (some (.ref C))) (h:tD M n (qf nm) σ H Q):vQ C σ H Q:=by
 obtain ⟨F,ρ,fp,S,p⟩:=h;intro x dx hx hdx ne;exact (show OkE M F H Q (.sh (i6 nm [])) from p) (.ref x) _ _ [] (qo S.same hx hdx ne) (Res.sh (.ins ⟨hC,bB⟩ rfl .nil)) λ_ m=>by cases m
noncomputable def qU (nm f:Str) (al:Fa):Fe:=fun ρ=>(al ρ).bind λxs=>match xs with
 |[x]=>.ok (.sh (i6 nm [(f,x.er)]))
 |_=>.bad
noncomputable def spI (K:PySem.W.Frag) (f:Str):Sp:=λvs H Q _=>∃a C dx v,vs=[.ref a,v]/\H a=some (.ins C dx [])/\Cls K C/\gf K C f/\Q .non (upd H a (.ins C dx [(f,v)]))
theorem DP {nm f:Str} {C:Addr} (hC:PySem.W.nsIn M.K mainGlobals nm=some (some (.ref C))) (hc:Cls M.K C) (hn:gf M.K C f) (h:tD M n (qU nm f al) σ H Q):zP C (spI M.K f) [] M.E (tA M n al) σ H Q:=by
 obtain ⟨F,ρ,fp,S,p⟩:=h;refine ⟨F,ρ,fp,S,(aE.bind p).mono λxs px vs F1 H1 fx e1 r1 w1=>λx dx hx hdx ne=>?_⟩
 obtain ⟨G1,d1,k1⟩:=r1.frz e1 w1;cases xs with
 |nil=>exact px.elim
 |cons x0 xs =>
  cases xs with
  |cons _ _=>exact px.elim
  |nil =>
   cases k1 with
   |@cons v _ _ _ hv ht =>
    cases ht;refine ⟨x,C,dx,v,rfl,bB,hc,hn,rfl,?_⟩;rw [zc];have px':OkE M F H Q (.sh (i6 nm [(f,x0.er)])):=px;have e2:=qo (C:=C) (fs:=[(f,v)]) d1.fh hx hdx ne;exact px' (.ref x) _ _ [] (d1.trans e2) (Res.sh (.ins ⟨hC,bB⟩ rfl (.cons (hv.same e2.ff) .nil))) λ_ m=>by cases m
structure InsK (K:PySem.W.Frag) (C:Addr):Prop where
 c:Cls K C
 ha:PySem.W.findIn K (.ref C) "__class__" = some (some (.builtin "object.__class__"))
 hn:PySem.W.specialIn K (.builtin "object.__class__") "__get__" = some (some (.builtin "getset_descriptor.__get__"))
 ht:PySem.W.takesIn K (.builtin "object.__class__")=some true
 hm:PySem.W.mroIn K C (.type "object")=some true
end
section
variable {M:Mx} {X:Cx} {e o:Expr} {es:List Expr} {pos apos p:Pos} {fa:Fe} {al:Fa}
theorem CD {tb:Str->Bool} {f:Str} (hN:∀C nm,PySem.W.nsIn M.K mainGlobals nm=some (some (.ref C))->tb nm=true->Cls M.K C/\gf M.K C f) (h:DE M X e fa) (hb:attributeBase e f X.env (eval e X.env)=eval e X.env:=by rfl) :
  DE M X (.Attribute e f pos) (yY tb f fa):=λhK hM=>by
 have q:=CB (pos:=pos) (h hK hM) hb;rw [hK]at q;exact peI q λ_ _ _ z=>Fp hN z
theorem xH {CX:CXT} {k:Nat} {m:Str} {E:XK} {ta:TE} {t:TA} {pl:Sem Bool} (he:PE X o ta) (hr:Room k X.A) (hx:Passes CX X E) (ha:PA X (e :: es) t)
  (hst:starEach (e :: es) X.env=(false,eval e X.env) :: starEach es X.env:=by rfl) (hpl:(backTo pos (starEach es X.env)).any (·.1)=false:=by rfl)
  (ht:eval (.Call (.Attribute o m apos) (e :: es) [] pos) X.env=(do
   let ov <-eval o X.env
   standAt apos.atName
   let (f,first) <-holding [ov] (getMethod ov m pl)
   callWith pos f first (backTo pos (starEach (e :: es) X.env)) (backToKw pos (keywordEach [] X.env))):=by rfl) :
  PE X (.Call (.Attribute o m apos) (e :: es) [] pos) (vt (HasM X.prog X.w X.K X.mg X.base CX k m) m E ta t):=by
 intro pins s σ H Q I h;refine PySem.W.methodCall_KW (pl:=pl) (thn (he pins s σ H _ I h) λu s1 ⟨x,H1,I1,rx,a,C,dx,fs,f,sp,ex,ea,hm,l,q⟩=>?_) ht
 subst ex;obtain rfl:u=Value.ref a:=rx;obtain ⟨fd,ps,F,hb⟩:=hm.f;refine sC I1 ea hm.c hm.m l ?_;refine PySem.W.callWith_K (first:=[.ref a]) (h₀:=X.base) I.ok.mod.kin hm.m.kp (thn (ha pos pins s1 σ H1 _ I1 q) λus s2 ⟨vs,H2,I2,r,q2⟩=>⟨I2.kIn,?_⟩) hst hpl
 exact xc (us:=.ref a :: us) (vs:=.ref a :: vs) (dvs:=[]) (ds:=[]) F hr hb .nil hx I2 (.cons rfl r) (by rw [List.append_nil];exact q2)
theorem jw {CX:CXT} {k:Nat} {m:Str} {tb:Str->Option Fn} {pl:Sem Bool} (hT:∀C nm fn,PySem.W.nsIn M.K mainGlobals nm=some (some (.ref C))->tb nm=some fn->∃f,HasM X.prog X.w M.K M.mg X.base CX k m C f (sp3 M.K M.mg fn)) (hr:Room k X.A) (hx:Passes CX X M.E)
  (he:DE M X o fa) (ha:DA M X (e :: es) al)
  (hst:starEach (e :: es) X.env=(false,eval e X.env) :: starEach es X.env:=by rfl) (hpl:(backTo pos (starEach es X.env)).any (·.1)=false:=by rfl)
  (ht:eval (.Call (.Attribute o m apos) (e :: es) [] pos) X.env=(do
   let ov <-eval o X.env
   standAt apos.atName
   let (f,first) <-holding [ov] (getMethod ov m pl)
   callWith pos f first (backTo pos (starEach (e :: es) X.env)) (backToKw pos (keywordEach [] X.env))):=by rfl) :
  DE M X (.Call (.Attribute o m apos) (e :: es) [] pos) (jR tb m fa al):=λhK hM=>by
 have q:=xH (CX:=CX) (k:=k) (E:=M.E) (he hK hM) hr hx (ha hK hM) hst hpl ht;rw [hK,hM]at q;exact peI q λ_ _ _ z=>Ca hT z
structure Mk0 (K:PySem.W.Frag) (C:Addr):Prop where
 makes:PySem.W.makesIn K C=true
 init:PySem.W.findIn K (.ref C) "__init__" = some (some (.builtin "object.__init__"))
 kp:PySem.W.keepIn K (.ref C)=true
theorem uf {C:Addr} {x:Str} (Mk:Mk0 X.K C) (hg:Gl X x) (hm:X.mg x=some (.ref C)) (hdb:(x == ("__debug__" : Str))=false:=by decide):PE X (.Call (.Name x p) [] [] pos) (vQ C):=by
 intro pins s σ H Q I h;refine wpAny_Call_Name_kw (mh I hg hm ?_ hdb);refine PySem.W.callWith_K0 I.kIn Mk.kp ?_;have hq:=h (s.heap.objs.size+1) s.heap.objs.size (I.hok.fresh (Nat.le_succ _)) (I.hok.fresh (Nat.le_refl _)) (Nat.ne_of_lt (Nat.lt_succ_self _));have I2:=Inv.made (C:=C) I;have Y:=PySem.W.makes_of (M:=model X.prog X.w) I.kIn Mk.makes;refine wpAny_call (uw I.kIn Mk.makes Mk.init (λself=>PySem.W.Looks.of_pure (PySem.W.oi_bind self)) ?_)
 have hx:((s.heap.push PySem.W.emptyDict).push (PySem.W.instObj C s.heap.objs.size)).get? (s.heap.objs.size+1)=some (PySem.W.instObj C s.heap.objs.size):=by
  have:=Heap.get?_push_size (s.heap.push PySem.W.emptyDict) (o:=PySem.W.instObj C s.heap.objs.size) rfl
  rwa [Heap.size_push]at this
 have t1:PySem.W.Looks (model X.prog X.w) ((s.heap.push PySem.W.emptyDict).push (PySem.W.instObj C s.heap.objs.size)) (typeOf (.ref (s.heap.objs.size+1))) (.ref C):=(PySem.W.Looks.ld hx).andThen .now;have t2:PySem.W.Looks (model X.prog X.w) ((s.heap.push PySem.W.emptyDict).push (PySem.W.instObj C s.heap.objs.size)) (isInstance (.ref (s.heap.objs.size+1)) (.type "object")) true:=t1.andThen (Y.top.keeps λb o e=>Heap.get?_push_of_some _ (Heap.get?_push_of_some _ e))
 refine codeAny_call_builtin PySem.W.oi_plain PySem.W.entry_oi (@PySem.W.check_slot (model X.prog X.w) _ _ _ "object.__init__" "object" "__init__" (.ref (s.heap.objs.size+1)) [] [] _ PySem.W.oi_kind PySem.W.oi_split t2 (PySem.W.oi_args (.ref (s.heap.objs.size+1))) ?_);rw [PySem.W.oi_run];exact wpAny_pure (And.intro rfl ⟨V.ref (s.heap.objs.size+1),_,I2,rfl,hq⟩)
theorem ua {C:Addr} {x:Str} (hC:PySem.W.nsIn M.K mainGlobals x=some (some (.ref C))) (Mk:Mk0 M.K C) (hg:Gl X x) (hm:M.mg x=some (.ref C)) (hdb:(x == ("__debug__" : Str))=false:=by decide) :
  DE M X (.Call (.Name x p) [] [] pos) (qf x):=λhK hM =>
 peI (uf (by rw [hK];exact Mk) hg (by rw [hM];exact hm) hdb) λ_ _ _ q=>Dv hC q
theorem yJ {CX:CXT} {k:Nat} {C f:Addr} {fd:FuncData} {ps:List Str} {x fl:Str} (hC:PySem.W.nsIn M.K mainGlobals x=some (some (.ref C))) (hc:Cls M.K C) (hn:gf M.K C fl) (Mk:Mk M.K C f)
  (F:FnOk X.prog X.w M.K M.mg X.base CX k f fd ps (spI M.K fl)) (hr:Room (k+1) X.A) (hg:Gl X x) (hm:M.mg x=some (.ref C)) (hb:Binds M.K fd ps []) (hx:Passes CX X M.E) (ha:DA M X (e :: es) al)
  (hdb:(x == ("__debug__" : Str))=false:=by decide) (he:starEach (e :: es) X.env=(false,eval e X.env) :: starEach es X.env:=by rfl) (hpl:(backTo pos (starEach es X.env)).any (·.1)=false:=by rfl) :
  DE M X (.Call (.Name x p) (e :: es) [] pos) (qU x fl al):=λhK hM=>by
 have F':FnOk X.prog X.w X.K X.mg X.base CX k f fd ps (spI M.K fl):=by
  rw [hK,hM];exact F
 exact peI (yq (by rw [hK];exact Mk) F' hr hg (by rw [hM];exact hm) (by rw [hK];exact hb) .nil hx (ha hK hM) hdb he hpl) λ_ _ _ q=>DP hC hc hn q
end
theorem jF {α:Type} {K:PySem.W.Frag} {Pr:Addr->α->Prop}:∀C nm v,PySem.W.nsIn K mainGlobals nm=some (some (.ref C))->List.lookup nm ([]:List (Str×α))=some v->Pr C v:=λ_ _ _ _ e=>by cases e
theorem bY {α:Type} {K:PySem.W.Frag} {x:Str} {c:Addr} {v:α} {l:List (Str×α)} {Pr:Addr->α->Prop} (a:PySem.W.nsIn K mainGlobals x=some (some (.ref c))) (h:Pr c v)
  (r:∀C nm v',PySem.W.nsIn K mainGlobals nm=some (some (.ref C))->List.lookup nm l=some v'->Pr C v') :
  ∀C nm v',PySem.W.nsIn K mainGlobals nm=some (some (.ref C))->List.lookup nm ((x,v) :: l)=some v'->Pr C v':=λC nm v' hC e=>by
 by_cases hx:nm=x
 ·subst hx
  have hb:(nm == nm)=true:=beq_iff_eq.mpr rfl;simp only [List.lookup,hb]at e;cases e;rw [a]at hC;cases hC;exact h
 ·have hb:(nm == x)=false:=beq_eq_false_iff_ne.mpr hx
  simp only [List.lookup,hb]at e;exact r C nm v' hC e
theorem y8 {K:PySem.W.Frag} {x:Str} {c:Addr} {Pr:Addr->Prop} (a:PySem.W.nsIn K mainGlobals x=some (some (.ref c))) (h:Pr c):∀C nm,PySem.W.nsIn K mainGlobals nm=some (some (.ref C))->decide (nm=x)=true->Pr C:=λC nm hC e=>by
 have e:=of_decide_eq_true e;subst e;rw [a]at hC;cases hC;exact h
noncomputable def kv:Stmt->List Stmt
 |.ClassDef _ _ _ b _ _ _ _ _ _ _=>b
 |_=>[]
theorem vq {P:Program} {w:World} {K:PySem.W.Frag} {mg:Str->Option Value} {base:Heap} {x qual a b fl:Str} {st:Stmt} {f:Addr} {fd:FuncData} {p1 p2 p3 p4:Pos} (F:Fun K x qual st f fd) (S:FnScope [a,b] [a,b] (ag st))
  (hb:aB st=[.Assign [.Attribute (.Name a p1) fl p2] (.Name b p3) p4]) (va:Vis (ag st) a) (vb:Vis (ag st) b)
  (da:(a == ("__debug__" : Str))=false) (db:(b == ("__debug__" : Str))=false) (ca:(a == ("__classdict__" : Str))=false) (cb:(b == ("__classdict__" : Str))=false):FnOk P w K mg base CX0 1 f fd [a,b] (spI K fl):=by
 refine F.ok S (λvs H Q E h=>?_) (λcdv A outer s H vs Q E hr h=>?_)
 ·obtain ⟨_,_,_,_,rfl,_⟩:=h
  rfl
 ·obtain ⟨q,C,dx,v,rfl,hq,hc,hn,k⟩:=h
  rw [hb];refine ⟨_,tV (AN (gm (i:=0) rfl va da ca) (gm (i:=1) rfl vb db cb) rfl),?_⟩;exact ⟨v,rfl,.ref q,rfl,q,C,dx,[],rfl,hq,hc,hn,(by show 0<1000;decide),k⟩
section
variable {a:Fe} {al:Fa} {ρ:Env}
noncomputable def mtK (tb:Str->Option Fn) (m:Str) (r:R (List OD)) (d:PyData):R OD:=match lN d,rO m d with
 |some nm,none=>match tb nm with
  |some fn=>unK (λxs=>fn (d :: xs.map OD.er)) r
  |none=>.bad
 |_,_=>.bad
theorem su {tb:Str->Option Fn} {m:Str}:jR tb m a al ρ=unK (λx=>mtK tb m (al ρ) x.er) (a ρ):=by
 unfold jR;rw [cK];congr 1
noncomputable def G3 (tb:Str->Bool) (f:Str) (d:PyData):R OD:=match lN d,rO f d with
 |some nm,some d'=>if tb nm=true then .ok (.sh d') else .bad
 |_,_=>.bad
theorem EB {tb:Str->Bool} {f:Str}:yY tb f a ρ=unK (λx=>G3 tb f x.er) (a ρ):=cK _ _
theorem xF {nm:Str}:qf nm ρ=.ok (.sh (i6 nm [])):=rfl
noncomputable def zR (nm f:Str):List OD->R OD
 |[x]=>.ok (.sh (i6 nm [(f,x.er)]))
 |_=>.bad
theorem Bo {nm f:Str}:qU nm f al ρ=unK (zR nm f) (al ρ):=by
 unfold qU;rw [cK];congr 1
theorem CN {nm f:Str} {x:OD}:zR nm f [x]=.ok (.sh (i6 nm [(f,x.er)])):=rfl
noncomputable def nxK (g:Fg) (b:Fs) (ds:List PyData):Out->R Out
 |.nx ρ2=>br g b ds ρ2
 |.ct ρ2=>br g b ds ρ2
 |.bk ρ2=>.ok (.nx ρ2)
 |.rt x=>.ok (.rt x)
theorem xb {g:Fg} {b:Fs}:br g b [] ρ=.ok (.nx ρ):=rfl
theorem rL {g:Fg} {b:Fs} {d:PyData} {ds:List PyData}:br g b (d :: ds) ρ=unK (fun ρ1=>unK (nxK g b ds) (b ρ1)) (g (.sh d) ρ):=by
 rw [br,cK];congr 1
theorem BF {g:Fg} {b:Fs} {ds:List PyData} {ρ2:Env}:nxK g b ds (.nx ρ2)=br g b ds ρ2:=rfl
end
end L3
namespace B
noncomputable def IsE (n:Nat) (d:Nat->Nat->Int) (e:Nat->Int):Prop:=e 0=0/\∀k,0<k->k<n->(∀j,j<k->e j+d j k<=e k)/\∃j,j<k/\e k=e j+d j k
noncomputable def IsL (n:Nat) (d:Nat->Nat->Int) (T:Int) (l:Nat->Int):Prop:=l (n-1)=T/\∀k,k+1<n->(∀j,k<j->j<n->l k<=l j-d k j)/\∃j,k<j/\j<n/\l k=l j-d k j
theorem DJ {n:Nat} {d:Nat->Nat->Int} {T:Int} {e l:Nat->Int} (he:IsE n d e) (hl:IsL n d T l) (hT:T=e (n-1)):∀m k,k+m+1=n->e k<=l k:=by
 intro m
 induction m using Nat.strongRecOn with
 |ind m ih =>
  intro k hk;by_cases h0:m=0
  ·subst h0
   have:k=n-1:=by lia
   rw [this,hl.1,hT]
   lia
  ·obtain ⟨a1,j1,b1,b2,c1⟩:=hl.2 k (by lia)
   have:=ih (n-1-j1) (by lia) j1 (by lia)
   have:=(he.2 j1 (by lia) b2).1 k b1
   lia
theorem qT {n:Nat} {d:Nat->Nat->Int} {T:Int} {e l:Nat->Int} (hn:0<n) (he:IsE n d e) (hl:IsL n d T l) (hT:T=e (n-1)):l 0=0:=by
 have le:=DJ he hl hT;have key:∀k,k<n->l k=e k->l 0=e 0:=by
  intro k
  induction k using Nat.strongRecOn with
  |ind k ih =>
   intro hk hek;by_cases h0:k=0
   ·subst h0
    exact hek
   ·obtain ⟨a1,j1,b1,c1⟩:=he.2 k (by lia) hk
    have h1:=(hl.2 j1 (by lia)).1 k b1 hk
    have h2:=le (n-1-j1) j1 (by lia)
    exact ih j1 b1 (by lia) (by lia)
 have:=key (n-1) (by lia) (by rw [hl.1,hT])
 rw [this,he.1]
end B
namespace B
inductive F where
 |nil
 |cons (k:Nat) (c r:F)
namespace F
noncomputable def pre:F->List Nat
 |nil=>[]
 |cons k c r=>k :: (pre c++pre r)
noncomputable def roots:F->List Nat
 |nil=>[]
 |cons k _ r=>k :: roots r
noncomputable def BW:F->List Nat
 |nil=>[]
 |cons k c r=>BW r++(k :: BW c)
noncomputable def app:F->F->F
 |nil,g=>g
 |cons k c r,g=>cons k c (app r g)
noncomputable def mir:F->F
 |nil=>nil
 |cons k c r=>app (mir r) (cons k (mir c) nil)
noncomputable def map (h:Nat->Nat):F->F
 |nil=>nil
 |cons k c r=>cons (h k) (map h c) (map h r)
noncomputable def Con (ch:Nat->List Nat):F->Prop
 |nil=>True
 |cons k c r=>ch k=roots c/\Con ch c/\Con ch r
noncomputable def Eld (e:Nat->Int):Int->F->Prop
 |_,nil=>True
 |p,cons k c r=>e k=p/\Eld e (k:Int) c/\Eld e p r
theorem pre_app:∀f g:F,pre (app f g)=pre f++pre g
 |nil,g=>rfl
 |cons k c r,g=>by rw [app,pre,pre,pre_app r g,List.cons_append,List.append_assoc]
theorem tJ {e:Nat->Int} {p:Int}:∀f g:F,Eld e p (app f g) ↔ Eld e p f/\Eld e p g
 |nil,g=>by rw [app,Eld];simp
 |cons k c r,g=>by rw [app,Eld,Eld,tJ r g];simp only [and_assoc]
theorem snoc:∀f:F,f≠nil->∃g k c,f=app g (cons k c nil)
 |nil,h=>absurd rfl h
 |cons k c nil,_=>⟨nil,k,c,rfl⟩
 |cons k c (cons k' c' r'),_=>by
  obtain ⟨g,a,b,e⟩:=snoc (cons k' c' r') (λz=>nomatch z)
  exact ⟨cons k c g,a,b,by rw [app,e]⟩
theorem iE {e:Nat->Int} {q:Int}:∀(p:Int) (f:F),Eld e p f->q≠p->(∀j∈pre f,(j:Int)≠q)->(pre f).filter (λj=>decide (e j=q))=[]
 |_,nil,_,_,_=>rfl
 |p,cons k c r,h,hp,hq=>by
  obtain ⟨h1,h2,h3⟩:=h;rw [pre,List.filter_cons,if_neg (by rw [decide_eq_true_eq,h1];exact λz=>hp z.symm),List.filter_append,iE _ c h2 (λz=>hq k (by rw [pre];exact List.mem_cons_self) z.symm) (λj hj=>hq j (by rw [pre];simp [hj])),iE p r h3 hp (λj hj=>hq j (by rw [pre];simp [hj]))]
  rfl
theorem qz {e:Nat->Int}:∀(p:Int) (f:F),Eld e p f->(∀j∈pre f,(j:Int)≠p)->(pre f).filter (λj=>decide (e j=p))=roots f
 |_,nil,_,_=>rfl
 |p,cons k c r,h,hq=>by
  obtain ⟨h1,h2,h3⟩:=h;rw [pre,List.filter_cons,if_pos (by rw [decide_eq_true_eq,h1]),List.filter_append,iE _ c h2 (λz=>hq k (by rw [pre];exact List.mem_cons_self) z.symm) (λj hj=>hq j (by rw [pre];simp [hj])),qz p r h3 (λj hj=>hq j (by rw [pre];simp [hj])),roots]
  rfl
theorem jx {ch ch':Nat->List Nat}:∀f:F,(∀q∈pre f,ch q=ch' q)->Con ch' f->Con ch f
 |nil,_,_=>trivial
 |cons k c r,h,hc=>by
  obtain ⟨h1,h2,h3⟩:=hc;exact ⟨(h k (by rw [pre];exact List.mem_cons_self)).trans h1,jx c (λq m=>h q (by rw [pre];simp [m])) h2,jx r (λq m=>h q (by rw [pre];simp [m])) h3⟩
theorem oW {e:Nat->Int}:∀(p:Int) (f:F),Eld e p f->(pre f).Nodup->(∀j∈pre f,(j:Int)≠p)->Con (λq=>(pre f).filter (λj=>decide (e j=(q:Int)))) f
 |_,nil,_,_,_=>trivial
 |p,cons k c r,h,nd,hp=>by
  obtain ⟨h1,h2,h3⟩:=h;rw [pre,List.nodup_cons,List.nodup_append]at nd;obtain ⟨nk,n1,n2,n3⟩:=nd;have hpk:(k:Int)≠p:=hp k (by rw [pre];exact List.mem_cons_self)
  have kc:∀j∈pre c,(j:Int)≠(k:Int):=λj m z=>nk (by
   have:j=k:=by lia
   rw [<-this];simp [m])
  have kr:∀j∈pre r,(j:Int)≠(k:Int):=λj m z=>nk (by
   have:j=k:=by lia
   rw [<-this];simp [m])
  have pc:∀j∈pre c,(j:Int)≠p:=λj m=>hp j (by rw [pre];simp [m])
  have pr:∀j∈pre r,(j:Int)≠p:=λj m=>hp j (by rw [pre];simp [m])
  have split:∀q:Nat,(q:Int)≠p->(pre (cons k c r)).filter (λj=>decide (e j=(q:Int)))=(pre c).filter (λj=>decide (e j=(q:Int)))++(pre r).filter (λj=>decide (e j=(q:Int))):=λq hq=>by
   rw [pre,List.filter_cons,if_neg (by rw [decide_eq_true_eq,h1];exact λz=>hq z.symm),List.filter_append]
  refine ⟨?_,jx c (λq m=>?_) (oW _ c h2 n1 kc),jx r (λq m=>?_) (oW p r h3 n2 pr)⟩
  ·show (pre (cons k c r)).filter (λj=>decide (e j=(k:Int)))=roots c
   rw [split k hpk,qz _ c h2 kc,iE p r h3 hpk kr,List.append_nil]
  ·show (pre (cons k c r)).filter (λj=>decide (e j=(q:Int)))=(pre c).filter (λj=>decide (e j=(q:Int)))
   rw [split q (pc q m),iE p r h3 (pc q m) (λj mj z=>n3 q m j mj (by lia)),List.append_nil]
  ·show (pre (cons k c r)).filter (λj=>decide (e j=(q:Int)))=(pre r).filter (λj=>decide (e j=(q:Int)))
   rw [split q (pr q m),iE _ c h2 (λz=>kr q m z) (λj mj z=>n3 j mj q m (by lia)),List.nil_append]
end F
end B
namespace B
namespace F
structure Pf (n:Nat) (e:Nat->Int) (c:F):Prop where
 pre:0 :: pre c=List.range n
 root:e 0=-1
 eld:Eld e 0 c
variable {n:Nat} {e:Nat->Int} {c:F}
noncomputable def full (c:F):F:=cons 0 c nil
theorem Pf.pos (h:Pf n e c):0<n:=by
 have:=congrArg List.length h.pre;rw [List.length_cons,List.length_range]at this
 lia
theorem Pf.preF (h:Pf n e c):F.pre (full c)=List.range n:=by
 unfold full;rw [F.pre,F.pre,List.append_nil];exact h.pre
theorem Pf.eldF (h:Pf n e c):Eld e (-1) (full c):=⟨h.root,h.eld,trivial⟩
theorem Pf.con (h:Pf n e c):Con (λq=>(List.range n).filter (λj=>decide (e j=(q:Int)))) (full c):=by
 have:=oW (-1) (full c) h.eldF (by rw [h.preF];exact List.nodup_range) (λj _=>by lia)
 rw [h.preF]at this;exact this
noncomputable def R (c:F):List Nat:=BW (full c)
noncomputable def g (c:F) (k:Nat):Nat:=(R c).idxOf k
noncomputable def e1 (e:Nat->Int) (c:F) (i:Nat):Int:=match (R c)[i]? with
 |some k=>if e k<0 then -1 else (g c (e k).toNat:Int)
 |none=>-1
noncomputable def gi (c:F) (p:Int):Int:=if p<0 then -1 else (g c p.toNat:Int)
noncomputable def c1 (c:F):F:=map (g c) (mir c)
theorem pE {e:Nat->Int}:∀(p:Int) (f:F),Eld e p f->∀k∈F.pre f,e k=p\/∃j:Nat,j∈F.pre f/\e k=(j:Int)
 |_,nil,_,_,m=>by cases m
 |p,cons a c r,h,k,m=>by
  obtain ⟨h1,h2,h3⟩:=h;rw [F.pre]at m;rcases List.mem_cons.mp m with rfl | m
  ·exact .inl h1
  ·rcases List.mem_append.mp m with m | m
   ·rcases pE _ c h2 k m with z | ⟨j,j1,j2⟩
    ·exact .inr ⟨a,by rw [F.pre];exact List.mem_cons_self,z⟩
    ·exact .inr ⟨j,by rw [F.pre];simp [j1],j2⟩
   ·rcases pE p r h3 k m with z | ⟨j,j1,j2⟩
    ·exact .inl z
    ·exact .inr ⟨j,by rw [F.pre];simp [j1],j2⟩
end F
end B
namespace B
namespace F
noncomputable def path:F->List Nat
 |nil=>[]
 |cons k c nil=>k :: path c
 |cons _ _ (cons k c r)=>path (cons k c r)
noncomputable def iY:F->Nat->Nat->F
 |f,0,x=>app f (cons x nil nil)
 |nil,_+1,_=>nil
 |cons k c nil,d+1,x=>cons k (iY c d x) nil
 |cons k c (cons k' c' r'),d+1,x=>cons k c (iY (cons k' c' r') (d+1) x)
theorem oO:∀(f:F) (x:Nat),path (app f (cons x nil nil))=[x]
 |nil,x=>rfl
 |cons k c nil,x=>rfl
 |cons k c (cons k' c' r'),x=>by
  have:=oO (cons k' c' r') x;rw [app]at this ⊢;rw [app];rw [path];exact this
theorem lC {e e':Nat->Int}:∀(p:Int) (f:F),(∀k∈F.pre f,e' k=e k)->Eld e p f->Eld e' p f
 |_,nil,_,_=>trivial
 |p,cons k c r,h,hc=>by
  obtain ⟨h1,h2,h3⟩:=hc;exact ⟨(h k (by rw [F.pre];exact List.mem_cons_self)).trans h1,lC _ c (λq m=>h q (by rw [F.pre];simp [m])) h2,lC p r (λq m=>h q (by rw [F.pre];simp [m])) h3⟩
theorem xq {k d x:Nat} {c r:F}:∃k' c' r',iY (cons k c r) (d+1) x=cons k' c' r':=by
 cases r with
 |nil=>exact ⟨_,_,_,by rw [iY]⟩
 |cons a b t=>exact ⟨_,_,_,by rw [iY]⟩
theorem mJ {e:Nat->Int} {x:Nat}:∀(f:F) (d:Nat) (p:Int),d<=(path f).length->Eld e p f->e x=(if d=0 then p else ((path f)[d-1]?.getD 0:Int)) ->
  F.pre (iY f d x)=F.pre f++[x]/\path (iY f d x)=(path f).take d++[x]/\Eld e p (iY f d x)
 |f,0,p,_,h,hx=>by
  rw [iY,pre_app,oO,tJ];exact ⟨rfl,rfl,h,by simpa using hx,trivial,trivial⟩
 |nil,d+1,p,hd,_,_=>by
  rw [path]at hd;simp at hd
 |cons k c nil,d+1,p,hd,h,hx=>by
  obtain ⟨h1,h2,h3⟩:=h;rw [path,List.length_cons]at hd;have ih:=mJ (e:=e) (x:=x) c d (k:Int) (by lia) h2 (by
   rw [hx,if_neg (by lia),path]
   by_cases d0:d=0
   ·subst d0
    rfl
   ·obtain ⟨m,rfl⟩:∃m,d=m+1:=⟨d-1,by lia⟩
    rw [if_neg (by lia)]
    rfl)
  rw [iY,F.pre,F.pre,ih.1,F.pre];refine ⟨by simp [F.pre],?_,h1,ih.2.2,trivial⟩
  rw [path,path,ih.2.1,List.take_succ_cons,List.cons_append]
 |cons k c (cons k' c' r'),d+1,p,hd,h,hx=>by
  obtain ⟨h1,h2,h3⟩:=h;have hp:path (cons k c (cons k' c' r'))=path (cons k' c' r'):=by rw [path]
  rw [hp]at hd hx;have ih:=mJ (e:=e) (x:=x) (cons k' c' r') (d+1) p hd h3 hx;obtain ⟨a,b,t,hq⟩:=xq (k:=k') (d:=d) (x:=x) (c:=c') (r:=r');rw [iY,F.pre,ih.1,hp];refine ⟨?_,?_,h1,h2,ih.2.2⟩
  ·show k :: (F.pre c++(F.pre (cons k' c' r')++[x]))=(k :: (F.pre c++F.pre (cons k' c' r')))++[x]
   rw [List.cons_append,List.append_assoc]
  rw [hq]at ih ⊢;rw [path];exact ih.2.1
theorem wo {e:Nat->Int}:∀(f:F) (p:Int),Eld e p f->(∀k∈F.pre f,p<=(k:Int))->∀k∈F.pre f,p<=e k
 |nil,_,_,_,_,m=>by cases m
 |cons a c r,p,h,hp,k,m=>by
  obtain ⟨h1,h2,h3⟩:=h;rcases pE p (cons a c r) ⟨h1,h2,h3⟩ k m with z | ⟨j,j1,j2⟩
  ·lia
  ·rw [j2]
   exact hp j j1
end F
end B
namespace B
open PySem L2 L3
noncomputable def fO:Fs:=(bR (pV (pB "int" (ae 0)) (wV (pB "bool" (ae 0)))))
noncomputable def eW:Fn:=cw 1 1 fO
local macro_rules
 |`(tactic| push_cast only [$a,*] $[$l:location]?)=>do
  let e <- ("v_var v_c Ir Ib Bu Bl Gn Bq v_and v_or v_not HH xS md Ee FR Bz v_b G4 v_bor Cc Ct Em EA Ew yX yu HM Dh AQ HG Im IH IF El F_ Ei Gj HB AK ER HZ Ip Iv HC F6 GZ Dl Ed Bm Ce Hh Hz DC Fh Gr EH Hd FL Hj Fm HX Hs HL ED Bv AV Ge EX yH y9 CI Dm Bw C0 Gd GU Cj Ec BU BS AH En D_ BX Ii FV CM Fw Bg AO Gy zd Fx FC Eo FI HS HY Iu FP Ax BK EI G_ Bj Fz FO GQ GL Fy FE GR Gx Hn Fc EM HJ IG Ij Iy Iz IE Df Eh EG Bi B0 BE Cn BY Cd Hr Cf EW DQ at0 at1 at2 Ey AI CY Bs AS AE CQ AR AD AL BH Cz DL Cu BV AF CL H_ IA HN Ig IB Ie eM oj zN flat List.map_cons List.map_nil List.length_cons List.length_nil List.getElem?_cons_zero List.getElem?_cons_succ List.getElem?_nil List.set_cons_zero List.set_cons_succ List.cons_append List.nil_append List.append_nil List.replicate_succ List.replicate_zero Nat.reduceAdd Nat.reduceSub Nat.reduceLeDiff Nat.reduceLT Nat.reduceEqDiff Nat.zero_add Bool.not_true Bool.not_false if_true if_false Bool.false_eq_true reduceIte decide_true decide_false reduceCtorEq vg FH Int.reduceLT Int.reduceLE Int.reduceNeg Int.reducePow Int.reduceToNat Int.reduceMul Int.reduceAdd Int.reduceSub Nat.reducePow and_true true_and and_self List.length_map GP Gi v_sub Gf G8 Ht Et Ej EJ Hg GD Int.cast_ofNat_Int Int.reduceEq Int.reduceNe FW AG x6 GW Hb Fj GY FA".splitOn " ").toArray.mapM λs=>`(Lean.Parser.Tactic.simpLemma| $(Lean.mkIdent s.toName):ident)
  `(tactic| simp (maxSteps:=1000000) -implicitDefEqProofs only [$e,*,$a,*] $[$l]?)
theorem uJ (z:Int):eW [.int z]=.ok (.sh (.bool true)):=by
 unfold eW fO;push_cast only [and_self]
structure Nd where
 e:Int
 l:Str
 t:Int
noncomputable def vS (l:Str):Prop:=1<=l.length/\l.length<=9/\∀c∈l.cps.toList,97<=c/\c<=122
noncomputable def yO (n:Nd):Prop:=vS n.l/\1<=n.t/\n.t<=9
noncomputable def ndD (n:Nd):PyData:=.tuple [.int n.e,.str n.l,.int n.t]
noncomputable def aO (ts:List Nd):List PyData:=ts.map ndD
inductive Grown (deep:Nat):List Nd->List Int->Prop
 |root {n:Nd}:yO n->n.e=-1->Grown deep [n] [0]
 |step {ns:List Nd} {way:List Int} {c:Nat} {n:Nd}:Grown deep ns way->1<=c->c<=way.length->c<=deep->yO n->way[c-1]?=some n.e->Grown deep (ns++[n]) (way.take c++[(ns.length:Int)])
theorem Grown.pos {deep:Nat} {ns:List Nd} {way:List Int} (g:Grown deep ns way):0<ns.length/\0<way.length:=by
 cases g with
 |root=>simp
 |step=>simp
theorem Grown.way_lt {deep:Nat} {ns:List Nd} {way:List Int} (g:Grown deep ns way):∀x∈way,0<=x/\x<ns.length:=by
 induction g with
 |root=>simp
 |@step ns way c n g h1 h2 h3 h4 h5 ih =>
  intro x hx;rw [List.mem_append]at hx;rw [List.length_append];rcases hx with hx | hx
  ·have:=ih x (List.mem_of_mem_take hx)
   simp
   lia
  ·have:x=ns.length:=by simpa using hx
   simp
   lia
theorem Grown.ok {deep:Nat} {ns:List Nd} {way:List Int} (g:Grown deep ns way):∀n∈ns,yO n:=by
 induction g with
 |root h=>simpa using h
 |@step ns way c n g h1 h2 h3 h4 h5 ih =>
  intro x hx;rcases List.mem_append.mp hx with hx | hx
  ·exact ih x hx
  ·have:x=n:=by simpa using hx
   rw [this];exact h4
theorem y7 {k:Int} (h0:0<=k) (h1:k<26):∃c,atI (Str.ofString "abcdefghijklmnopqrstuvwxyz").cps.toList k=some c/\97<=c/\c<=122:=by
 have e:(Str.ofString "abcdefghijklmnopqrstuvwxyz").cps.toList=List.range' 97 26:=by decide +kernel
 rw [e];obtain ⟨v,e1,e2⟩:=Cg (List.range' 97 26) k h0 (by simpa using h1)
 refine ⟨v,e2,?_⟩;have:=List.mem_range'.mp (List.mem_of_getElem? e1)
 lia
theorem vU (k:Int) (h0:0<=k) (h1:k<26):∃c,atI (Str.ofString "abcdefghijklmnopqrstuvwxyz").cps.toList k=some c/\(97<=c/\c<=122):=y7 h0 h1
theorem tY (a b:Str):(a++b).cps.toList=a.cps.toList++b.cps.toList:=PyProof.Rows.cps_toList_append a b
theorem tf (a:Str):a.length=a.cps.toList.length:=by simp [Str.length]
theorem xf (a:Str) (c:Nat):(a++⟨#[c]⟩:Str).length=a.length+1:=by
 rw [tf,tY,tf,List.length_append];rfl
theorem m6 (xs:List PyData) (k:Nat):cutD xs none (some (k:Int))=xs.take k:=by
 unfold cutD;rw [HT.mG,HT.sF,List.drop_zero,Nat.sub_zero];rcases Nat.le_total k xs.length with h | h
 ·rw [Nat.min_eq_left h]
 ·rw [Nat.min_eq_right h,List.take_of_length_le (Nat.le_refl _),List.take_of_length_le h]
theorem oF {way:List Int} {k:Nat} (h1:1<=k) (h2:k<=way.length):∃e,way[k-1]?=some e/\atI ((way.take k).map PyData.int) (-1)=some (.int e):=by
 have hk:k-1<way.length:=by lia
 refine ⟨way[k-1],by simp [hk],?_⟩
 have h:way.take (k-1+1)=way.take (k-1)++[way[k-1]]:=by
  rw [List.take_add_one];simp [hk]
 rw [show k-1+1=k by lia]at h
 rw [h,List.map_append];exact mU _ _
theorem b7 (ts:List Nd):(aO ts).length=ts.length:=by unfold aO;rw [List.length_map]
theorem mQ (ts:List Nd) (n:Nd):aO (ts++[n])=aO ts++[.tuple [.int n.e,.str n.l,.int n.t]]:=by
 unfold aO;rw [List.map_append];rfl
theorem wI {ts:List Nd} {k:Nat} {n:Nd} (h:ts[k]?=some n):atI (aO ts) (k:Int)=some (.tuple [.int n.e,.str n.l,.int n.t]):=dn (by unfold aO;rw [List.getElem?_map,h];rfl)
instance:Inhabited Nd:=⟨⟨0, "",0⟩⟩
noncomputable def eOf (ts:List Nd) (k:Nat):Int:=(ts[k]?.map (·.e)).getD 0
noncomputable def PT (ts:List Nd) (c:F):Prop:=F.Pf ts.length (eOf ts) c
theorem fg {ts:List Nd} {k:Nat} {n:Nd} (h:ts[k]?=some n):eOf ts k=n.e:=by unfold eOf;rw [h];rfl
theorem wR {deep:Nat} {ns:List Nd} {way:List Int} (g:Grown deep ns way):∃c,PT ns c/\way=(0 :: F.path c).map (λk:Nat=>(k:Int)):=by
 induction g with
 |@root n h1 h2=>exact ⟨F.nil,⟨rfl,by rw [fg (n:=n) rfl];exact h2,trivial⟩,rfl⟩
 |@step ns way k n g h1 h2 h3 h4 h5 ih =>
  obtain ⟨c,p,hw⟩:=ih;subst hw;rw [List.length_map,List.length_cons]at h2;have same:∀j,j<ns.length->eOf (ns++[n]) j=eOf ns j:=λj hj=>by
   unfold eOf;rw [List.getElem?_append_left hj]
  have new:eOf (ns++[n]) ns.length=n.e:=fg (by simp)
  have inR:∀j∈F.pre c,j<ns.length:=λj m=>by
   have:j∈0 :: F.pre c:=List.mem_cons_of_mem _ m;rw [p.pre,List.mem_range]at this;exact this
  have he:F.Eld (eOf (ns++[n])) 0 c:=F.lC 0 c (λj m=>same j (inR j m)) p.eld
  obtain ⟨q1,q2,q3⟩:=F.mJ (x:=ns.length) c (k-1) 0 (by lia) he (by
   rw [new];rw [List.getElem?_map]at h5;by_cases k1:k=1
   ·subst k1
    have:=Option.some.inj h5;rw [if_pos rfl];exact this.symm
   ·obtain ⟨m,rfl⟩:∃m,k=m+2:=⟨k-2,by lia⟩
    rw [if_neg (by lia)]
    have e:(0 :: F.path c)[m+2-1]?=(F.path c)[m+2-1-1]?:=rfl;rw [e]at h5;obtain ⟨v,hv,hv2⟩:=Option.map_eq_some_iff.mp h5;rw [hv,<-hv2];rfl)
  refine ⟨F.iY c (k-1) ns.length,⟨?_,?_,q3⟩,?_⟩
  ·rw [q1,<-List.cons_append,p.pre,List.length_append,List.length_cons,List.length_nil,List.range_succ]
  ·rw [same 0 p.pos]
   exact p.root
  ·rw [q2]
   obtain ⟨m,rfl⟩:∃m,k=m+1:=⟨k-1,by lia⟩
   rw [List.map_cons,List.map_cons,List.take_succ_cons,List.map_append,Nat.add_sub_cancel,List.map_take];rfl
noncomputable def cR (ts:List Nd) (k:Nat):Nd:=ts[k]?.getD default
theorem De {ts:List Nd} {k:Nat} (h:k<ts.length):(cR ts k).e=eOf ts k:=by
 unfold cR eOf;rw [List.getElem?_eq_getElem h];rfl
section
variable {ts:List Nd} {c:F}
end
namespace F
theorem rJ {ch:Nat->List Nat}:∀(f:F),Con ch f->∀q∈F.pre f,∀b∈ch q,b∈F.pre f
 |nil,_,q,m,_,_=>by cases m
 |cons k c r,h,q,m,b,hb=>by
  obtain ⟨h1,h2,h3⟩:=h;have rs:∀g:F,∀x∈roots g,x∈F.pre g:=by
   intro g
   induction g with
   |nil=>intro x hx;cases hx
   |cons a d t _ ih =>
    intro x hx;rw [roots]at hx;rw [F.pre];rcases List.mem_cons.mp hx with rfl | hx
    ·exact List.mem_cons_self
    ·exact List.mem_cons_of_mem _ (List.mem_append_right _ (ih x hx))
  rw [F.pre]at m ⊢;rcases List.mem_cons.mp m with rfl | m
  ·rw [h1]at hb
   exact List.mem_cons_of_mem _ (List.mem_append_left _ (rs c b hb))
  ·rcases List.mem_append.mp m with m | m
   ·exact List.mem_cons_of_mem _ (List.mem_append_left _ (rJ c h2 q m b hb))
   ·exact List.mem_cons_of_mem _ (List.mem_append_right _ (rJ r h3 q m b hb))
theorem p6 {e:Nat->Int} {ch:Nat->List Nat}:∀(f:F) (a m:Nat) (p:Int),F.pre f=List.range' a m->Eld e p f->Con ch f->p<(a:Int)->∀j,a<=j->j<a+m ->
  ∃cj s,F.pre cj=List.range' (j+1) s/\Eld e (j:Int) cj/\j+1+s<=a+m/\(j+1+s<a+m->e (j+1+s)<(j:Int))/\Con ch cj/\ch j=roots cj
 |nil,a,m,p,hp,_,_,_,j,h1,h2=>by
  have:=congrArg List.length hp;rw [F.pre,List.length_nil,List.length_range']at this
  lia
 |cons k c r,a,m,p,hp,he,hcon,hpa,j,h1,h2=>by
  obtain ⟨e1,e2,e3⟩:=he;obtain ⟨o1,o2,o3⟩:=hcon;obtain ⟨m',rfl⟩:∃m',m=m'+1:=⟨m-1,by lia⟩
  rw [F.pre,List.range'_succ]at hp;obtain ⟨hk,hrest⟩:=List.cons.inj hp;subst hk;have hl:=congrArg List.length hrest;rw [List.length_append,List.length_range']at hl;have hm:m'=(F.pre c).length+(F.pre r).length:=by lia
  rw [hm,<-List.range'_append_1]at hrest;obtain ⟨hc,hr⟩:=List.append_inj hrest (by rw [List.length_range'])
  have first:(F.pre r).length≠0->e (k+1+(F.pre c).length)=p:=λhne=>by
   cases r with
   |nil=>exact absurd rfl hne
   |cons b1 b2 b3 =>
    have hb:b1=k+1+(F.pre c).length:=by
     have:=congrArg (λl=>l[0]?) hr
     rw [F.pre]at this;rw [List.length_cons,List.range'_succ]at this;exact Option.some.inj this
    rw [<-hb];exact e3.1
  by_cases hj:j=k
  ·subst hj
   refine ⟨c,(F.pre c).length,hc,e2,by lia,λh=>?_,o2,o1⟩
   rw [first (by lia)]
   lia
  ·by_cases hj2:j<k+1+(F.pre c).length
   ·obtain ⟨cj,s,q1,q2,q3,q4,q5,q6⟩:=p6 c (k+1) (F.pre c).length (k:Int) hc e2 o2 (by lia) j (by lia) hj2
    refine ⟨cj,s,q1,q2,by lia,λh=>?_,q5,q6⟩
    by_cases hs:j+1+s<k+1+(F.pre c).length
    ·exact q4 hs
    ·have:j+1+s=k+1+(F.pre c).length:=by lia
     rw [this,first (by lia)]
     lia
   ·obtain ⟨cj,s,q1,q2,q3,q4,q5,q6⟩:=p6 r (k+1+(F.pre c).length) (F.pre r).length p hr e3 o3 (by lia) j (by lia) (by lia)
    exact ⟨cj,s,q1,q2,by lia,λh=>q4 (by lia),q5,q6⟩
end F
theorem Dw {ts:List Nd} {c:F} (p:PT ts c) {j:Nat} (hj:j<ts.length):∃s,j+1+s<=ts.length/\(∀k,j<k->k<=j+s->(j:Int)<=eOf ts k)/\(j+1+s<ts.length->eOf ts (j+1+s)<(j:Int)) /\
  ∀b,b<ts.length->(j:Int)<=eOf ts b->eOf ts b<=((j+s:Nat):Int)->j<b/\b<=j+s:=by
 obtain ⟨cj,s,q1,q2,q3,q4,q5,q6⟩:=F.p6 (e:=eOf ts) (F.full c) 0 ts.length (-1) (by rw [p.preF,List.range_eq_range']) p.eldF p.con (by decide) j (by lia) (by lia)
 rw [Nat.zero_add]at q3 q4;have ge:=F.wo cj (j:Int) q2 (λk m=>by rw [q1,List.mem_range'_1]at m;lia)
 refine ⟨s,q3,λk k1 k2=>ge k (by rw [q1,List.mem_range'_1];lia),q4,λb hb b1 b2=>?_⟩
 have hm:b∈F.pre cj:=by
  obtain ⟨q,hq⟩:∃q:Nat,eOf ts b=(q:Int):=⟨(eOf ts b).toNat,by lia⟩
  have hin:b∈(List.range ts.length).filter (λx=>decide (eOf ts x=(q:Int))):=List.mem_filter.mpr ⟨List.mem_range.mpr hb,decide_eq_true hq⟩
  by_cases hqj:q=j
  ·subst hqj
   have hin2:b∈F.roots cj:=by rw [<-q6];exact hin
   have rs:∀g:F,∀x∈F.roots g,x∈F.pre g:=by
    intro g
    induction g with
    |nil=>intro x hx;cases hx
    |cons a d t _ ih =>
     intro x hx;rw [F.roots]at hx;rw [F.pre];rcases List.mem_cons.mp hx with rfl | hx
     ·exact List.mem_cons_self
     ·exact List.mem_cons_of_mem _ (List.mem_append_right _ (ih x hx))
   exact rs cj b hin2
  ·exact F.rJ cj q5 q (by rw [q1,List.mem_range'_1];lia) b hin
 rw [q1,List.mem_range'_1]at hm
 lia
noncomputable def fQ:Fs:=(sIf (kg (aW (eOp gLt (ae 1) (eC (.int 0)))) (aW (eOp gGe (ae 1) (eB dP (af (ae 0) av))))) Dc sNx)
noncomputable def eS:Fn:=cw 2 2 fQ
noncomputable def fA:Fs:=(aF (aR 1 (fJ av))
 (aF (eP (gS (ae 0)) (gNm 2) (ji 1 (eSh (p8 (eIf (aW (eOp gEq (eOp gIx (ae 2) (eC (.int 0))) (eUn gG (eC (.int 1))))) (eC (.int 0)) (eOp dJ (eOp gIx (ae 1) (eOp gIx (ae 2) (eC (.int 0)))) (eC (.int 1))))))))
 (gD 1)))
noncomputable def bK:Fn:=cw 1 3 fA
noncomputable def iW:Fs:=(bR (dr (gS (ae 0)) (gNm 0) eN (eOp lS (eB dP (af (eOp gIx (ae 0) (eC (.int 1))) av)) (eC (.int 2))) 1 []))
noncomputable def df:Fn:=cw 1 1 iW
noncomputable def fB:Fs:=(aF (sQ (aM eS (af (ae 0) (af (ae 1) av))))
 (bR (dr (iEn (ae 0)) (gTp 2 (cJ (gNm 0) (cJ (gNm 1) iX))) (aW (eOp gEq (eOp gIx (ae 1) (eC (.int 0))) (ae 2))) (ae 0) 2 [1])))
noncomputable def dt:Fn:=cw 2 2 fB
noncomputable def gL:Fs:=(aF (aR 1 (fJ av))
 (aF (eP (iEn (aM bK (af (ae 0) av))) (gTp 2 (cJ (gNm 2) (cJ (gNm 3) iX))) (aF (sIf (yZ (aW (eOp gEq (ae 3) (eB dP (af (ae 1) av))))) (ji 1 (fJ av)) sNx)
 (kZ 1 (ae 3) (ae 2))))
 (gD 1)))
noncomputable def fq:Fn:=cw 1 4 gL
noncomputable def EL (ts:List Nd):Prop:=∀(k:Nat) (n:Nd),ts[k]?=some n->(k=0->n.e=-1)/\(0<k->0<=n.e)/\n.e<k
noncomputable def dN (acc:List Nat) (n:Nd):Nat:=if n.e=-1 then 0 else (acc[n.e.toNat]?).getD 0+1
noncomputable def lvs (ts:List Nd):List Nat:=ts.foldl (λacc n=>acc++[dN acc n]) []
theorem iF (ts:List Nd) (n:Nd):lvs (ts++[n])=lvs ts++[dN (lvs ts) n]:=by
 unfold lvs;rw [List.foldl_append];rfl
theorem snoc_ind {α:Type} {P:List α->Prop} (h0:P []) (hs:∀xs x,P xs->P (xs++[x])) (xs:List α):P xs:=by
 have:∀ys:List α,P ys.reverse:=by
  intro ys
  induction ys with
  |nil=>exact h0
  |cons y ys ih=>rw [List.reverse_cons];exact hs _ _ ih
 have h:=this xs.reverse
 rwa [List.reverse_reverse]at h
theorem dq:∀ts:List Nd,(lvs ts).length=ts.length:=by
 intro ts;refine snoc_ind (P:=λts=>(lvs ts).length=ts.length) rfl (λts n ih=>?_) ts
 rw [iF,List.length_append,List.length_append,ih];rfl
theorem take_snoc {α:Type} {xs:List α} {i:Nat} {x:α} (h:xs[i]?=some x):xs.take (i+1)=xs.take i++[x]:=by rw [List.take_add_one,h];rfl
theorem kP (ts:List Nd):∀i:Nat,(lvs ts).take i=lvs (ts.take i):=by
 refine snoc_ind (P:=λts=>∀i:Nat,(lvs ts).take i=lvs (ts.take i)) (λi=>by simp [lvs]) (λts n ih=>?_) ts
 ·intro i
  rcases Nat.le_total i ts.length with h | h
  ·rw [iF,List.take_append_of_le_length (by rw [dq];exact h),List.take_append_of_le_length h,ih]
  ·by_cases h2:i=ts.length
   ·subst h2
    rw [iF,List.take_append_of_le_length (by rw [dq];exact Nat.le_refl _),List.take_append_of_le_length (Nat.le_refl _),ih]
   ·rw [List.take_of_length_le (by rw [dq,List.length_append];simp;lia),List.take_of_length_le (by rw [List.length_append];simp;lia)]
theorem jz {ts:List Nd} {i:Nat} {n:Nd} (h:ts[i]?=some n):(lvs ts)[i]?=some (dN (lvs (ts.take i)) n):=by
 have hi:=(List.getElem?_eq_some_iff.mp h).1;have e:=kP ts (i+1);rw [take_snoc h,iF]at e;have:((lvs ts).take (i+1))[i]?=some (dN (lvs (ts.take i)) n):=by
  rw [e,List.getElem?_append_right (by rw [dq,List.length_take];lia),dq,List.length_take,Nat.min_eq_left (by lia),Nat.sub_self]
  rfl
 rw [List.getElem?_take_of_lt (by lia)]at this
 exact this
noncomputable def g5 (ks:List Nat):List PyData:=ks.map λk:Nat=>PyData.int (k:Int)
theorem kN (ks:List Nat):(g5 ks).length=ks.length:=by unfold g5;rw [List.length_map]
theorem sZ {ks:List Nat} {k v:Nat} (h:ks[k]?=some v):atI (g5 ks) (k:Int)=some (.int v):=dn (by unfold g5;rw [List.getElem?_map,h];rfl)
theorem lu (ks:List Nat) (k:Nat):(g5 ks).map OD.sh++[OD.sh (.int (k:Int))]=(g5 (ks++[k])).map OD.sh:=by
 unfold g5;rw [List.map_append,List.map_append];rfl
theorem gX (ts:List Nd) (he:EL ts) (hl:ts.length<=100):bK [.list (aO ts)]=.ok (.ol ((g5 (lvs ts)).map OD.sh)):=by
 unfold bK fA;push_cast only [and_self];generalize hL:br _ _ _ _=r'
 refine cD hL (λi ρ=>∃v2:Option OD,ρ=[some (.sh (.list (aO ts))),some (.ol ((g5 (lvs (ts.take i))).map OD.sh)),v2]) ⟨_,rfl⟩ ?_ ?_
 ·rintro i d ρ hd ⟨v2,rfl⟩
  unfold aO at hd;rw [List.getElem?_map]at hd;obtain ⟨n,hn,rfl⟩:=Option.map_eq_some_iff.mp hd;have hi:=(List.getElem?_eq_some_iff.mp hn).1;have lb:((g5 (lvs (ts.take i))).length<BIG)=True:=by rw [kN,dq,List.length_take];exact gz (by lia)
  have e0:(lvs (ts.take (i+1)))=lvs (ts.take i)++[dN (lvs (ts.take i)) n]:=by rw [take_snoc hn,iF]
  have el:=he i n hn;by_cases h1:n.e=-1
  ·have e1:dN (lvs (ts.take i)) n=0:=by unfold dN;rw [if_pos h1]
   rw [e1]at e0;have sn:=lu (lvs (ts.take i)) 0;rw [<-e0,Int.natCast_zero]at sn;push_cast only [ndD,decide_eq_true h1,lb,dk,sn];exact ⟨_,rfl⟩
  ·have h0:0<i:=by
    rcases Nat.eq_zero_or_pos i with h | h
    ·exact absurd (el.1 h) h1
    ·exact h
   obtain ⟨k,hk⟩:∃k:Nat,n.e=(k:Int):=⟨n.e.toNat,by have:=el.2.1 h0;lia⟩
   have hki:k<i:=by have:=el.2.2;lia
   obtain ⟨v,hv⟩:∃v,(lvs (ts.take i))[k]?=some v:=⟨(lvs (ts.take i))[k]'(by rw [dq,List.length_take];lia),by simp⟩
   have e1:dN (lvs (ts.take i)) n=v+1:=by unfold dN;rw [if_neg h1,hk,Int.toNat_natCast,hv];rfl
   rw [e1]at e0;have sn:=lu (lvs (ts.take i)) (v+1);rw [<-e0,Int.natCast_add,Int.natCast_one]at sn;have ga:=sZ hv;have h1':¬((k:Int)=-1):=by lia
   push_cast only [ndD,hk,decide_eq_false h1',lb,dk,ga,sn];exact ⟨_,rfl⟩
 ·rintro ρ' rfl ⟨v2,rfl⟩
  push_cast only [and_self];rw [b7,List.take_of_length_le (Nat.le_refl _)]
noncomputable def vf (nums:List (List Nat)) (k lv:Nat):List (List Nat):=if lv=nums.length then nums++[[k]] else nums.set lv ((nums[lv]?).getD []++[k])
noncomputable def cM (L:List Nat):Nat->List (List Nat)
 |0=>[]
 |i+1=>vf (cM L i) i ((L[i]?).getD 0)
structure NumOk (L:List Nat) (i:Nat) (nums:List (List Nat)):Prop where
 row:∀(j:Nat) (r:List Nat),nums[j]?=some r->r≠[]/\r.Pairwise (·<·)/\∀k,k∈r ↔ k<i/\L[k]?=some j
 lt:∀(k v:Nat),k<i->L[k]?=some v->v<nums.length
 sum:(nums.map List.length).sum=i
theorem sum_set (f:List Nat->Nat):∀(nums:List (List Nat)) (j:Nat) (r r':List Nat),nums[j]?=some r->f r'=f r+1->((nums.set j r').map f).sum=(nums.map f).sum+1
 |[],j,_,_,h,_=>by simp at h
 |x :: xs,0,r,r',h,e=>by
  simp at h
  subst h;simp
  lia
 |x :: xs,j+1,r,r',h,e=>by
  have:=sum_set f xs j r r' (by simpa using h) e
  simp at this ⊢
  lia
theorem rB:∀(nums:List (List Nat)) (j:Nat) (r:List Nat),nums[j]?=some r->r.length<=(nums.map List.length).sum
 |[],j,r,h=>by simp at h
 |x :: xs,0,r,h=>by
  simp at h
  subst h;simp
 |x :: xs,j+1,r,h=>by
  have:=rB xs j r (by simpa using h)
  simp
  lia
theorem NumOk.step {L:List Nat} {i:Nat} {nums:List (List Nat)} (h:NumOk L i nums) {v:Nat} (hv:L[i]?=some v) (hle:v<=nums.length):NumOk L (i+1) (vf nums i v):=by
 unfold vf;by_cases h1:v=nums.length
 ·rw [if_pos h1]
  refine ⟨λj r hr=>?_,λk w hk hw=>?_,by rw [List.map_append,List.sum_append,h.sum];simp⟩
  ·by_cases hj:j<nums.length
   ·rw [List.getElem?_append_left hj]at hr
    obtain ⟨a,b,c⟩:=h.row j r hr;refine ⟨a,b,λk=>?_⟩
    rw [c k];constructor
    ·exact λz=>⟨by lia,z.2⟩
    ·rintro ⟨z1,z2⟩
     refine ⟨?_,z2⟩;by_cases hki:k=i
     ·subst hki
      rw [hv]at z2;have:=Option.some.inj z2
      lia
     ·lia
   ·rw [List.getElem?_append_right (by lia)]at hr
    have hj':j=nums.length:=by
     have:=(List.getElem?_eq_some_iff.mp hr).1;simp at this
     lia
    subst hj';have:[i]=r:=by simpa using hr
    subst this;refine ⟨by simp,by simp,λk=>?_⟩
    rw [List.mem_singleton];constructor
    ·rintro rfl
     exact ⟨by lia,by rw [hv,h1]⟩
    ·rintro ⟨z1,z2⟩
     by_cases hki:k=i
     ·exact hki
     ·have:=h.lt k _ (by lia) z2
      lia
  ·rw [List.length_append,List.length_singleton]
   by_cases hki:k=i
   ·subst hki
    rw [hv]at hw;have:=Option.some.inj hw
    lia
   ·have:=h.lt k w (by lia) hw
    lia
 ·rw [if_neg h1]
  have hlt:v<nums.length:=by lia
  obtain ⟨r0,hr0⟩:∃r,nums[v]?=some r:=⟨nums[v],by simp [hlt]⟩
  rw [hr0,Option.getD_some];obtain ⟨a,b,c⟩:=h.row v r0 hr0;refine ⟨λj r hr=>?_,λk w hk hw=>?_,?_⟩
  ·by_cases hj:v=j
   ·subst hj
    rw [List.getElem?_set_self hlt]at hr;cases hr;refine ⟨by simp,?_,λk=>?_⟩
    ·rw [List.pairwise_append]
     refine ⟨b,by simp,λx hx y hy=>?_⟩
     have hy':y=i:=by simpa using hy
     rw [hy'];exact ((c x).mp hx).1
    ·rw [List.mem_append,List.mem_singleton,c k]
     constructor
     ·rintro (⟨z1,z2⟩ | rfl)
      ·exact ⟨by lia,z2⟩
      ·exact ⟨by lia,hv⟩
     ·rintro ⟨z1,z2⟩
      by_cases hki:k=i
      ·exact .inr hki
      ·exact .inl ⟨by lia,z2⟩
   ·rw [List.getElem?_set_ne hj]at hr
    obtain ⟨a',b',c'⟩:=h.row j r hr;refine ⟨a',b',λk=>?_⟩
    rw [c' k];constructor
    ·exact λz=>⟨by lia,z.2⟩
    ·rintro ⟨z1,z2⟩
     refine ⟨?_,z2⟩;by_cases hki:k=i
     ·subst hki
      rw [hv]at z2;exact absurd (Option.some.inj z2) hj
     ·lia
  ·rw [List.length_set]
   by_cases hki:k=i
   ·subst hki
    rw [hv]at hw;have:=Option.some.inj hw
    lia
   ·exact h.lt k w (by lia) hw
  ·rw [sum_set List.length nums v r0 _ hr0 (by simp),h.sum]
theorem wA {ts:List Nd} (he:EL ts) {i:Nat} {nums:List (List Nat)} (h:NumOk (lvs ts) i nums) {n:Nd} (hn:ts[i]?=some n):dN (lvs (ts.take i)) n<=nums.length:=by
 unfold dN;split
 ·exact Nat.zero_le _
 ·rename_i h1
  have el:=he i n hn;have h0:0<i:=by
   rcases Nat.eq_zero_or_pos i with h | h
   ·exact absurd (el.1 h) h1
   ·exact h
  have hi:=(List.getElem?_eq_some_iff.mp hn).1;have hk:n.e.toNat<i:=by have:=el.2.1 h0;have:=el.2.2;lia
  obtain ⟨v,hv⟩:∃v,(lvs ts)[n.e.toNat]?=some v:=⟨(lvs ts)[n.e.toNat]'(by rw [dq];lia),by simp⟩
  have:(lvs (ts.take i))[n.e.toNat]?=some v:=by rw [<-kP,List.getElem?_take_of_lt hk];exact hv
  rw [this,Option.getD_some];exact h.lt _ v hk hv
theorem iI {ts:List Nd} (he:EL ts):∀i,i<=ts.length->NumOk (lvs ts) i (cM (lvs ts) i)
 |0,_=>⟨λj r h=>by simp [cM]at h,λk v h=>by lia,rfl⟩
 |i+1,hi=>by
  have ih:=iI he i (by lia)
  obtain ⟨n,hn⟩:∃n,ts[i]?=some n:=⟨ts[i]'(by lia),by simp⟩
  have hv:=jz hn;rw [cM,hv,Option.getD_some];exact ih.step hv (wA he ih hn)
noncomputable def DY (r:List Nat):OD:=.ol ((g5 r).map OD.sh)
noncomputable def jt (nums:List (List Nat)):List OD:=nums.map DY
noncomputable def nH (nums:List (List Nat)):List PyData:=nums.map λr=>.list (g5 r)
theorem pO (nums:List (List Nat)):(jt nums).map OD.er=nH nums:=by
 unfold jt nH;rw [List.map_map];refine List.map_congr_left λr _=>?_
 show (DY r).er=_
 unfold DY;rw [oj,dk]
theorem f7 (nums:List (List Nat)):(jt nums).length=nums.length:=by unfold jt;rw [List.length_map]
theorem uP (ts:List Nd) (he:EL ts) (hl:ts.length<=100):fq [.list (aO ts)]=.ok (.ol (jt (cM (lvs ts) ts.length))):=by
 unfold fq gL;push_cast only [gX ts he hl,dk];generalize hL:br _ _ _ _=r'
 refine cD hL (λi ρ=>∃v2 v3:Option OD,ρ=[some (.sh (.list (aO ts))),some (.ol (jt (cM (lvs ts) i))),v2,v3]) ⟨_,_,rfl⟩ ?_ ?_
 ·rintro i d ρ hd ⟨v2,v3,rfl⟩
  obtain ⟨e,he',rfl⟩:=oh hd;unfold g5 at he';rw [List.getElem?_map]at he';obtain ⟨v,hv,rfl⟩:=Option.map_eq_some_iff.mp he';have hi:=(List.getElem?_eq_some_iff.mp hv).1;rw [dq]at hi;have ok:=iI he i (by lia)
  obtain ⟨n,hn⟩:∃n,ts[i]?=some n:=⟨ts[i]'(by lia),by simp⟩
  have hle:=wA he ok hn;rw [jz hn]at hv;rw [Option.some.inj hv]at hle;have hv':(lvs ts)[i]?=some v:=by rw [jz hn];exact hv
  have e0:cM (lvs ts) (i+1)=vf (cM (lvs ts) i) i v:=by rw [cM,hv'];rfl
  have hnl:(cM (lvs ts) i).length<=i:=by
   have hs:=ok.sum;have:∀nums:List (List Nat),(∀(j:Nat) (r:List Nat),nums[j]?=some r->r≠[])->nums.length<=(nums.map List.length).sum:=by
    intro nums
    induction nums with
    |nil=>intro _;simp
    |cons x xs ih =>
     intro h;have h1:=h 0 x rfl;have h2:=ih λj r hr=>h (j+1) r (by simpa using hr)
     have:1<=x.length:=by
      cases x with
      |nil=>exact absurd rfl h1
      |cons a b=>simp
     simp
     lia
   have:=this _ λj r hr=>(ok.row j r hr).1
   lia
  by_cases h1:v=(cM (lvs ts) i).length
  ·have d1:decide ((v:Int)=((cM (lvs ts) i).length:Int))=true:=decide_eq_true (by lia)
   have lb:((cM (lvs ts) i).length<BIG)=True:=gz (by lia)
   push_cast only [pO,f7,d1,nH,lb];have ap:=tH (i:=1) (ρ:=[some (OD.sh (PyData.list (aO ts))),some (OD.ol (jt (cM (lvs ts) i)++[OD.ol []])),some (OD.sh (PyData.int i)),some (OD.sh (PyData.int v))]) (k:=ae 3) (a:=ae 2) (xs:=jt (cM (lvs ts) i)++[OD.ol []]) (ys:=[]) (z:=v) (j:=v) (y:=.sh (.int i)) rfl rfl (iM (by rw [List.length_append,f7,List.length_singleton];lia)) (by rw [List.getElem?_append_right (by rw [f7];lia),f7,h1,Nat.sub_self];rfl) rfl (by decide)
   rw [ap];push_cast only [and_self];have e1:(jt (cM (lvs ts) i)++[OD.ol []]).set v (OD.ol [OD.sh (.int i)])=jt (cM (lvs ts) (i+1)):=by
    rw [e0];unfold vf;rw [if_pos h1,List.set_append_right _ _ (by rw [f7];lia),f7,h1,Nat.sub_self]
    unfold jt;rw [List.map_append];rfl
   rw [e1];exact ⟨_,_,rfl⟩
  ·have d1:decide ((v:Int)=((cM (lvs ts) i).length:Int))=false:=decide_eq_false (by lia)
   have hlt:v<(cM (lvs ts) i).length:=by lia
   obtain ⟨r0,hr0⟩:∃r,(cM (lvs ts) i)[v]?=some r:=⟨(cM (lvs ts) i)[v],by simp [hlt]⟩
   have hr0l:r0.length<=i:=by
    have:=rB _ _ _ hr0;rw [ok.sum]at this;exact this
   push_cast only [pO,f7,d1,nH];have ap:=tH (i:=1) (ρ:=[some (OD.sh (PyData.list (aO ts))),some (OD.ol (jt (cM (lvs ts) i))),some (OD.sh (PyData.int i)),some (OD.sh (PyData.int v))]) (k:=ae 3) (a:=ae 2) (xs:=jt (cM (lvs ts) i)) (ys:=(g5 r0).map OD.sh) (z:=v) (j:=v) (y:=.sh (.int i)) rfl rfl (iM (by rw [f7];lia)) (by unfold jt;rw [List.getElem?_map,hr0];rfl) rfl (by rw [List.length_map,kN];exact of_eq_true (gz (by lia)))
   rw [ap];push_cast only [and_self];have e1:(jt (cM (lvs ts) i)).set v (OD.ol ((g5 r0).map OD.sh++[OD.sh (.int i)]))=jt (cM (lvs ts) (i+1)):=by
    rw [e0];unfold vf;rw [if_neg h1,hr0,lu];unfold jt;rw [List.map_set];rfl
   rw [e1];exact ⟨_,_,rfl⟩
 ·rintro ρ' rfl ⟨v2,v3,rfl⟩
  have:(fZ (g5 (lvs ts))).length=ts.length:=by
   unfold fZ;rw [List.length_map,List.length_zipIdx,kN,dq]
  rw [this];push_cast only [and_self]
noncomputable def aV (ts:List Nd):List Int:=ts.map λn=>(n.l.length:Int) / 2
theorem kf (ts:List Nd) (h:∀n∈ts,n.l.length<=1000) (hl:ts.length<=100):df [.list (aO ts)]=.ok (.ol ((aV ts).map λz=>OD.sh (.int z))):=by
 unfold df iW;push_cast only [and_self];generalize hL:bV _ _ _ _ _ _=r
 have e:=et hL ndD (λn:Nd=>.sh (.int ((n.l.length:Int) / 2))) ts rfl (of_eq_true (bM (by lia))) (by
  intro n hn;have:=bM (h n hn);push_cast only [ndD,this])
 subst e;push_cast only [and_self];unfold aV;rw [List.map_map];rfl
theorem nu (nums:List (List Nat)):(nH nums).length=nums.length:=by unfold nH;rw [List.length_map]
theorem vj (xs:List PyData) (j:Nat) (h:j<xs.length):eS [.list xs,.int j]=.ok (.sh .none):=by
 unfold eS fQ;have d1:decide ((j:Int)<0)=false:=decide_eq_false (by lia)
 have d2:decide ((xs.length:Int)<=(j:Int))=false:=decide_eq_false (by lia)
 push_cast only [d1,d2]
noncomputable def iL (rs:List Nat):List Int:=rs.map λk:Nat=>(k:Int)
noncomputable def nD (rs:List Nat):List PyData:=(iL rs).map PyData.int
noncomputable def nO (rs:List Nat):List OD:=(nD rs).map OD.sh
theorem Ai (rs:List Nat):(nO rs).map OD.er=nD rs:=dk _
theorem rq (rs:List Nat):(nD rs).length=rs.length:=by unfold nD iL;rw [List.length_map,List.length_map]
noncomputable def chN (ts:List Nd) (q:Nat):List Nat:=(List.range ts.length).filter (λj=>decide (eOf ts j=(q:Int)))
theorem uU (ts:List Nd):fZ (aO ts)=(List.range ts.length).map λk:Nat=>PyData.tuple [.int (k:Int),ndD (cR ts k)]:=by
 apply List.ext_getElem?
 intro i;rw [List.getElem?_map];by_cases hi:i<ts.length
 ·rw [List.getElem?_range hi]
  unfold fZ aO;rw [List.getElem?_map,List.getElem?_zipIdx,List.getElem?_map,List.getElem?_eq_getElem hi];unfold cR;simp [List.getElem?_eq_getElem hi]
 ·rw [List.getElem?_eq_none (by unfold fZ aO;simp;lia),List.getElem?_eq_none (by rw [List.length_range];lia)]
  rfl
theorem yi (L:List Nat):(L.map λk:Nat=>OD.sh (.int (k:Int)))=nO L:=by
 unfold nO nD iL;rw [List.map_map,List.map_map];rfl
theorem qe (ts:List Nd) (q:Nat) (hq:q<ts.length) (hl:ts.length<=100):dt [.list (aO ts),.int q]=.ok (.ol (nO (chN ts q))):=by
 unfold dt fB;have ck:=vj (aO ts) q (by rw [b7];exact hq)
 push_cast only [ck];generalize hC:bV _ _ _ _ _ _=rc
 have e:=mr hC (λk:Nat=>PyData.tuple [.int (k:Int),ndD (cR ts k)]) (λk=>decide (eOf ts k=(q:Int))) (λk:Nat=>.sh (.int (k:Int))) (List.range ts.length) (uU ts) (by rw [List.length_range];exact of_eq_true (bM (by lia))) (by
  intro k hk;rw [List.mem_range]at hk;have he:=De hk;refine ⟨?_,λ_=>?_⟩
  ·push_cast only [ndD,he]
  ·push_cast only [ndD])
 subst e;rw [yi];push_cast only [and_self];rfl
noncomputable def bU (ns:List Int):List OD:=(ns.map PyData.int).map OD.sh
theorem bP (ns:List Int):(bU ns).map OD.er=ns.map PyData.int:=dk _
theorem f6 (ns:List Int):(bU ns).length=ns.length:=by unfold bU;rw [List.length_map,List.length_map]
theorem xj:∀{a b:List Nat},a.Pairwise (·<·)->b.Pairwise (·<·)->(∀k,k∈a ↔ k∈b)->a=b
 |[],[],_,_,_=>rfl
 |[],y :: ys,_,_,h=>absurd ((h y).mpr List.mem_cons_self) (by simp)
 |x :: xs,[],_,_,h=>absurd ((h x).mp List.mem_cons_self) (by simp)
 |x :: xs,y :: ys,pa,pb,h=>by
  obtain ⟨a1,a2⟩:=List.pairwise_cons.mp pa;obtain ⟨b1,b2⟩:=List.pairwise_cons.mp pb;have e:x=y:=by
   have h1:=(h x).mp List.mem_cons_self;have h2:=(h y).mpr List.mem_cons_self;rcases List.mem_cons.mp h1 with z | z
   ·exact z
   ·rcases List.mem_cons.mp h2 with z2 | z2
    ·exact z2.symm
    ·have:=b1 x z
     have:=a1 y z2
     lia
  subst e;rw [xj a2 b2 λk=>⟨λm=>?_,λm=>?_⟩]
  ·have h1:=(h k).mp (List.mem_cons_of_mem _ m)
   rcases List.mem_cons.mp h1 with z | z
   ·have:=a1 k m
    lia
   ·exact z
  ·have h1:=(h k).mpr (List.mem_cons_of_mem _ m)
   rcases List.mem_cons.mp h1 with z | z
   ·have:=b1 k m
    lia
   ·exact z
theorem vZ {ts:List Nd} (he:EL ts):cM (lvs ts) ts.length=(List.range (cM (lvs ts) ts.length).length).map λj=>(List.range ts.length).filter λk=>decide ((((lvs ts)[k]?).getD 0)=j):=by
 have ok:=iI he ts.length (Nat.le_refl _);apply List.ext_getElem?
 intro j;rw [List.getElem?_map];by_cases hj:j<(cM (lvs ts) ts.length).length
 ·rw [List.getElem?_range hj,List.getElem?_eq_getElem hj]
  show some _=some _
  congr 1
  obtain ⟨r1,r2,r3⟩:=ok.row j _ (List.getElem?_eq_getElem hj);refine xj r2 (List.Pairwise.filter _ List.pairwise_lt_range) λk=>?_
  rw [r3 k,List.mem_filter,List.mem_range,decide_eq_true_eq];constructor
  ·rintro ⟨a,b⟩
   exact ⟨a,by rw [b];rfl⟩
  ·rintro ⟨a,b⟩
   refine ⟨a,?_⟩;obtain ⟨v,hv⟩:∃v,(lvs ts)[k]?=some v:=⟨(lvs ts)[k]'(by rw [dq];exact a),by simp⟩
   rw [hv]at b ⊢;rw [<-b];rfl
 ·rw [List.getElem?_eq_none (by lia),List.getElem?_eq_none (by rw [List.length_range];lia)]
  rfl
theorem qZ {ts:List Nd} (he:EL ts) (h0:0<ts.length):0<(cM (lvs ts) ts.length).length/\(cM (lvs ts) ts.length).length<=ts.length:=by
 have ok:=iI he ts.length (Nat.le_refl _);constructor
 ·obtain ⟨v,hv⟩:∃v,(lvs ts)[0]?=some v:=⟨(lvs ts)[0]'(by rw [dq];exact h0),by simp⟩
  have:=ok.lt 0 v h0 hv
  lia
 ·have:∀nums:List (List Nat),(∀(j:Nat) (r:List Nat),nums[j]?=some r->r≠[])->nums.length<=(nums.map List.length).sum:=by
   intro nums
   induction nums with
   |nil=>intro _;simp
   |cons x xs ih =>
    intro h;have h1:=h 0 x rfl;have h2:=ih λj r hr=>h (j+1) r (by simpa using hr)
    have:1<=x.length:=by
     cases x with
     |nil=>exact absurd rfl h1
     |cons a b=>simp
    simp
    lia
  have:=this _ λj r hr=>(ok.row j r hr).1
  rw [ok.sum]at this;exact this
noncomputable def plA (pl:List Int) (k:Nat):Int:=(pl[k]?).getD 0
theorem qt (ts:List Nd):(aV ts).length=ts.length:=by unfold aV;rw [List.length_map]
theorem rsh (ts:List Nd):((aV ts).map λz=>OD.sh (.int z)).map OD.er=(aV ts).map PyData.int:=by
 rw [List.map_map];exact List.map_congr_left λz _=>eM _
noncomputable abbrev nums (ts:List Nd):List (List Nat):=cM (lvs ts) ts.length
noncomputable def iD (ns:List Int):PyData:=.list (ns.map PyData.int)
theorem Ea {ts:List Nd} (he:EL ts) {j:Nat} {r:List Nat} (h:(nums ts)[j]?=some r):r≠[]/\∀k∈r,k<ts.length:=by
 have ok:=iI he ts.length (Nat.le_refl _);obtain ⟨r1,_,r3⟩:=ok.row j r h;exact ⟨r1,λk hk=>((r3 k).mp hk).1⟩
noncomputable def inB (j:Nat) (n:Nd):Bool:=decide ((j:Int)<=n.e)
theorem x_ {α:Type} (p:α->Bool):∀(L:List α) (s:Nat),s<=L.length->(∀k,k<s->∀x,L[k]?=some x->p x=true)->(∀x,L[s]?=some x->p x=false)->(L.takeWhile p).length=s
 |[],s,h,_,_=>by simp at h;subst h;rfl
 |a :: L,0,_,_,h=>by
  have:=h a rfl;rw [List.takeWhile_cons,this];rfl
 |a :: L,s+1,h,h1,h2=>by
  have:=h1 0 (by lia) a rfl
  rw [List.takeWhile_cons,this,if_pos rfl,List.length_cons,x_ p L s (by simp at h;lia) (λk hk x hx=>h1 (k+1) (by lia) x hx) (λx hx=>h2 x hx)]
namespace F
theorem rR {e:Nat->Int}:∀(f:F) (a m:Nat) (p:Int),F.pre f=List.range' a m->Eld e p f->p<(a:Int)->∀k∈F.pre f,e k<(k:Int)
 |nil,a,m,p,hp,_,_,j,h1=>by cases h1
 |cons k c r,a,m,p,hp,he,hpa,j,hj=>by
  obtain ⟨e1,e2,e3⟩:=he;obtain ⟨m',rfl⟩:∃m',m=m'+1:=⟨m-1,by
   have:=congrArg List.length hp;rw [F.pre,List.length_cons,List.length_range']at this
   lia⟩
  rw [F.pre,List.range'_succ]at hp;obtain ⟨hk,hrest⟩:=List.cons.inj hp;subst hk;have hl:=congrArg List.length hrest;rw [List.length_append,List.length_range']at hl;have hm:m'=(F.pre c).length+(F.pre r).length:=by lia
  rw [hm,<-List.range'_append_1]at hrest;obtain ⟨hc,hr⟩:=List.append_inj hrest (by rw [List.length_range'])
  rw [F.pre]at hj;rcases List.mem_cons.mp hj with rfl | hj
  ·lia
  ·rcases List.mem_append.mp hj with hj | hj
   ·exact rR c (k+1) _ (k:Int) hc e2 (by lia) j hj
   ·exact rR r (k+1+(F.pre c).length) _ p hr e3 (by lia) j hj
end F
theorem FN {ts:List Nd} {c:F} (p:PT ts c) {k:Nat} (hk:k<ts.length):eOf ts k<(k:Int):=by
 refine F.rR (F.full c) 0 ts.length (-1) (by rw [p.preF,List.range_eq_range']) p.eldF (by decide) k ?_
 rw [p.preF,List.mem_range];exact hk
theorem cW {ts:List Nd} {c:F} (p:PT ts c):EL ts:=by
 intro k n hn;have hk:=(List.getElem?_eq_some_iff.mp hn).1;have lt:=FN p hk;rw [fg hn]at lt;have rt:=p.eldF.1;refine ⟨λz=>?_,λz=>?_,lt⟩
 ·subst z
  rw [fg hn]at rt;exact rt
 ·have pc:F.pre (F.full c)=List.range ts.length:=p.preF
  have:F.pre c=List.range' 1 (ts.length-1):=by
   unfold F.full at pc;rw [F.pre,List.range_eq_range',show ts.length=ts.length-1+1 by lia,List.range'_succ]at pc
   have:=(List.cons.inj pc).2;rw [F.pre,List.append_nil]at this;exact this
  have ge:=F.wo c 0 p.eldF.2.1 (λk m=>by rw [this,List.mem_range'_1]at m;lia) k (by rw [this,List.mem_range'_1];lia)
  rw [fg hn]at ge;exact ge
theorem Ae {ts:List Nd} {k:Nat} (h:k<ts.length):ts[k]?=some (cR ts k):=by
 unfold cR;rw [List.getElem?_eq_getElem h];rfl
noncomputable def iT:Fs:=(aF (aR 3 (eOp eh (eC (.int 256)) (eOp dJ (ae 2) (eC (.int 1)))))
 (aF (aR 4 (eSh (dr (iZp (ae 0) (ae 1)) (gTp 2 (cJ (gNm 0) (cJ (gNm 1) iX))) eN (eOp dF (eOp dJ (eOp gIx (ae 0) (eC (.int 1))) (ae 2)) (eOp gIx (ae 1) (eC (.int 0)))) 2 [3])))
 (aF (aR 5 (eB i4 (af (ae 4) av)))
 (bR (gk (af (ae 5) (af (ye (ae 4) (ae 5)) av)))))))
noncomputable def en:Fn:=cw 3 6 iT
noncomputable def dU:Fs:=(aF (aR 2 (fJ (af (eC (.int 0)) av)))
 (aF (eP (iR2 (eC (.int 1)) (eB dP (af (ae 0) av))) (gNm 3) (aF (aR 4 (eSh (qr (dr (iR1 (ae 3)) (gNm 0) eN (eOp dJ (eOp gIx (ae 1) (ae 0)) (eOp gIx (aM en (af (eOp gIx (ae 2) (ae 0)) (af (eOp gIx (ae 2) (ae 3)) (af (ae 4) av)))) (eC (.int 0)))) 1 [2,0,3,1]))))
 (ji 2 (eB i4 (af (ae 4) av)))))
 (gD 2)))
noncomputable def cO:Fn:=cw 2 5 dU
noncomputable def eI:Fs:=(aF (aR 3 (eB dP (af (ae 0) av)))
 (aF (aR 4 (eOp eh (fJ (af (ae 2) av)) (ae 3)))
 (aF (eP (iR3 (eOp dF (ae 3) (eC (.int 2))) (eUn gG (eC (.int 1))) (eUn gG (eC (.int 1)))) (gNm 5) (aF (aR 6 (eOp gIx (ae 0) (ae 5)))
 (aF (aR 7 (eSh (qr (dr (iR2 (eOp dJ (ae 5) (eC (.int 1))) (ae 3)) (gNm 0) eN (eOp dF (eOp gIx (ae 1) (ae 0)) (eOp gIx (aM en (af (ae 2) (af (eOp gIx (ae 3) (ae 0)) (af (ae 4) av)))) (eC (.int 0)))) 1 [4,6,0,1]))))
 (pS 4 (ae 5) (eB jq (af (ae 7) av))))))
 (gD 4))))
noncomputable def dB:Fn:=cw 3 8 eI
noncomputable def iS:Fs:=(aF (aR 2 (eSh (aM cO (af (ae 0) (af (ae 1) av)))))
 (bR (gk (af (ae 2) (af (eSh (aM dB (af (ae 0) (af (ae 1) (af (eOp gIx (ae 2) (eUn gG (eC (.int 1)))) av))))) av)))))
noncomputable def gQ:Fn:=cw 2 3 iS
noncomputable def eO (os:List (Int×Int)):List PyData:=os.map λp=>.tuple [.int p.1,.int p.2]
noncomputable def ask (gap:Int) (os ps:List (Int×Int)):List Int:=(os.zip ps).map λz=>z.1.2+256 * (gap+1)-z.2.1
theorem qq:∀(os ps:List (Int×Int)),lQ (eO os) (eO ps)=(os.zip ps).map λz=>.tuple [.tuple [.int z.1.1,.int z.1.2],.tuple [.int z.2.1,.int z.2.2]]
 |[],_=>rfl
 |_ :: _,[]=>rfl
 |p :: os,q :: ps=>by
  have:=qq os ps;unfold eO lQ at this ⊢;simp only [List.map_cons,List.zip_cons_cons];rw [this]
theorem rh (os ps:List (Int×Int)) (gap:Int) (ho:1<=os.length) (hp:1<=ps.length) (hb:os.length<=100):∃(m:Int) (l:Nat),en [.list (eO os),.list (eO ps),.int gap]=.ok (.sh (.tuple [.int m,.int l])) /\
  (∀z∈ask gap os ps,z<=m)/\(ask gap os ps)[l]?=some m/\∀j,j<l->(ask gap os ps)[j]?≠some m:=by
 unfold en iT;push_cast only [and_self];generalize hL:bV _ _ _ _ _ _=r
 have e:=et hL (λz:(Int×Int)×(Int×Int)=>.tuple [.tuple [.int z.1.1,.int z.1.2],.tuple [.int z.2.1,.int z.2.2]]) (λz=>.sh (.int (z.1.2+256 * (gap+1)-z.2.1))) (os.zip ps) (qq os ps) (by rw [List.length_zip];exact of_eq_true (bM (by lia))) (by
  intro z _;push_cast only [and_self])
 subst e;have e2:((os.zip ps).map λz:(Int×Int)×(Int×Int)=>OD.sh (.int (z.1.2+256 * (gap+1)-z.2.1))).map OD.er=(ask gap os ps).map PyData.int:=by
  unfold ask;rw [List.map_map,List.map_map];exact List.map_congr_left λz _=>eM _
 obtain ⟨a,as,ha⟩:∃a as,ask gap os ps=a :: as:=by
  cases h:ask gap os ps with
  |nil =>
   have:=congrArg List.length h;unfold ask at this;rw [List.length_map,List.length_zip,List.length_nil]at this
   lia
  |cons a as=>exact ⟨a,as,rfl⟩
 obtain ⟨m1,m2⟩:=iw as a;have hi:oV (PyData.int a :: as.map PyData.int) (.int (fX a as))=.ok (.sh (.int ((a :: as).idxOf (fX a as):Nat))):=FD (a :: as) _ m1;refine ⟨fX a as,(a :: as).idxOf (fX a as),?_,?_,?_,?_⟩
 ·push_cast only [e2,ha,pA,hi]
 ·rw [ha];exact m2
 ·rw [ha]
  have hj:=List.idxOf_lt_length_iff.mpr m1;rw [List.getElem?_eq_getElem hj,List.getElem_idxOf hj]
 ·rw [ha]
  intro j hj e;obtain ⟨h1,h2⟩:=List.getElem?_eq_some_iff.mp e;have:=List.not_of_lt_findIdx (p:=(· == fX a as)) hj;rw [h2]at this;simp at this
theorem xE {os:List (Int×Int)} {k:Nat} {p:Int×Int} (h:os[k]?=some p):atI (eO os) (k:Int)=some (.tuple [.int p.1,.int p.2]):=dn (by unfold eO;rw [List.getElem?_map,h];rfl)
theorem zo {gap:Int} {os ps:List (Int×Int)} {k:Nat} {p q:Int×Int} (h1:os[k]?=some p) (h2:ps[k]?=some q):(ask gap os ps)[k]?=some (p.2+256 * (gap+1)-q.1):=by
 unfold ask;rw [List.getElem?_map,List.getElem?_zip_eq_some (z:=(p,q)) |>.mpr ⟨h1,h2⟩]
 rfl
noncomputable abbrev Ol:=List (Int×Int)
noncomputable def cH (O:List Ol):List PyData:=O.map λos=>.list (eO os)
theorem jD (O:List Ol):(cH O).length=O.length:=by unfold cH;rw [List.length_map]
theorem jk {O:List Ol} {k:Nat} {os:Ol} (h:O[k]?=some os):atI (cH O) (k:Int)=some (.list (eO os)):=dn (by unfold cH;rw [List.getElem?_map,h];rfl)
noncomputable def okO (O:List Ol):Prop:=(∀os∈O,1<=os.length/\os.length<=100)/\1<=O.length/\O.length<=100
noncomputable def dist (gap:Int) (os ps:Ol):Int:=match ask gap os ps with
 |a :: as=>fX a as
 |[]=>0
theorem wb {gap:Int} {os ps:Ol} (h1:1<=os.length) (h2:1<=ps.length):∃a as,ask gap os ps=a :: as:=by
 cases h:ask gap os ps with
 |nil =>
  have:=congrArg List.length h;unfold ask at this;rw [List.length_map,List.length_zip,List.length_nil]at this
  lia
 |cons a as=>exact ⟨a,as,rfl⟩
theorem oy (os ps:Ol) (gap:Int) (ho:1<=os.length) (hp:1<=ps.length) (hb:os.length<=100):∃l:Nat,en [.list (eO os),.list (eO ps),.int gap]=.ok (.sh (.tuple [.int (dist gap os ps),.int l])):=by
 obtain ⟨m,l,e,h1,h2,_⟩:=rh os ps gap ho hp hb;obtain ⟨a,as,ha⟩:=wb (gap:=gap) ho hp;have:dist gap os ps=m:=by
  unfold dist;rw [ha]at h1 h2 ⊢;obtain ⟨k1,k2⟩:=iw as a;exact Int.le_antisymm (h1 _ k1) (k2 _ (List.mem_of_getElem? h2))
 rw [this];exact ⟨l,e⟩
noncomputable def jK:List Int->Int
 |[]=>0
 |a :: as=>fX a as
theorem nv {xs:List Int} (h:xs≠[]):i4 [.list (xs.map PyData.int)]=.ok (.sh (.int (jK xs))):=by
 cases xs with
 |nil=>exact absurd rfl h
 |cons a as=>exact pA a as
theorem sR (gap:Int) (os ps:Ol):dist gap os ps=jK (ask gap os ps):=by
 unfold dist jK;cases ask gap os ps <;> rfl
noncomputable def rZ (gap:Int) (O:List Ol) (E:List Int) (k:Nat):List Int:=(List.range k).map λj=>E[j]?.getD 0+dist gap (O[j]?.getD []) (O[k]?.getD [])
noncomputable def gj (gap:Int) (O:List Ol):Nat->List Int
 |0=>[0]
 |k+1=>gj gap O k++[jK (rZ gap O (gj gap O k) (k+1))]
theorem gR (gap:Int) (O:List Ol):∀k,(gj gap O k).length=k+1
 |0=>rfl
 |k+1=>by rw [gj,List.length_append,gR gap O k];rfl
theorem iu (ns:List Int) (z:Int):bU ns++[OD.sh (.int z)]=bU (ns++[z]):=by unfold bU;rw [List.map_append,List.map_append];rfl
theorem int_at {ns:List Int} {k:Nat} {z:Int} (h:ns[k]?=some z):atI (ns.map PyData.int) (k:Int)=some (.int z):=dn (by rw [List.getElem?_map,h];rfl)
theorem uj (ns:List Int):(bU ns).all (λy=>flat y.er)=true:=by
 unfold bU;rw [List.all_eq_true];intro x hx;obtain ⟨d,hd,rfl⟩:=List.mem_map.mp hx;obtain ⟨n,_,rfl⟩:=List.mem_map.mp hd;rw [eM];rfl
theorem oo (ns:List Int):zX (.ol (bU ns))=.ok (.ol (bU ns)):=by
 show (if (bU ns).all (λy=>flat y.er)=true then R.ok (OD.ol ((bU ns).map λy=>.sh y.er)) else .bad)=_
 rw [uj,if_pos rfl];congr 2
 unfold bU;rw [List.map_map];exact List.map_congr_left λx _=>by show OD.sh (OD.sh x).er=_;rw [eM]
theorem xy {gap:Int} {O:List Ol} {E:List Int} {k j:Nat} {z:Int} {os ps:Ol} (hj:E[j]?=some z) (h1:O[j]?=some os) (h2:O[k]?=some ps):E[j]?.getD 0+dist gap (O[j]?.getD []) (O[k]?.getD [])=z+dist gap os ps:=by rw [hj,h1,h2];rfl
theorem sT {gap:Int} {O:List Ol} {E:List Int} {k:Nat} (h:0<k):rZ gap O E k≠[]:=by
 intro z;have:=congrArg List.length z;unfold rZ at this;simp at this
 lia
theorem rE {α:Type} (L:List α) (f:α->Int):(L.map λx=>OD.sh (.int (f x)))=bU (L.map f):=by
 unfold bU;rw [List.map_map,List.map_map];rfl
theorem qs (O:List Ol) (gap:Int) (hO:okO O):cO [.list (cH O),.int gap]=.ok (.ol (bU (gj gap O (O.length-1)))):=by
 unfold cO dU;obtain ⟨ho,hl0,hl1⟩:=hO;have s1:aI 1=true:=g9 (by decide) (by decide)
 have s2:aI (O.length:Int)=true:=g9 (by lia) (by lia)
 push_cast only [jD,s1,s2,Bool.and_self];generalize hL:br _ _ _ _=r'
 refine cD hL (λi ρ=>∃v3 v4:Option OD,ρ=[some (.sh (.list (cH O))),some (.sh (.int gap)),some (.ol (bU (gj gap O i))),v3,v4]) ⟨_,_,rfl⟩ ?_ ?_
 ·rintro i d ρ hd ⟨v3,v4,rfl⟩
  obtain ⟨hi,rfl⟩:=dv hd;have ei:(1:Int)+(i:Int)=((i+1:Nat):Int):=by lia
  rw [ei];have s3:aI ((i+1:Nat):Int)=true:=g9 (by lia) (by lia)
  push_cast only [bP,s3];generalize hC:bV _ _ _ _ _ _=rc
  have e:=et hC (λk:Nat=>PyData.int (0+(k:Int))) (λj=>.sh (.int ((gj gap O i)[j]?.getD 0+dist gap (O[j]?.getD []) (O[i+1]?.getD [])))) (List.range (i+1)) (by rw [Int.toNat_natCast];rfl) (by rw [List.length_range];exact of_eq_true (bM (by lia))) (by
   intro k hk;rw [List.mem_range]at hk;obtain ⟨z,hz⟩:∃z,(gj gap O i)[k]?=some z:=⟨(gj gap O i)[k]'(by rw [gR];exact hk),by simp⟩
   obtain ⟨os,h1⟩:∃p,O[k]?=some p:=⟨O[k]'(by lia),by simp⟩
   obtain ⟨ps,h2⟩:∃p,O[i+1]?=some p:=⟨O[i+1]'(by lia),by simp⟩
   obtain ⟨l,hn⟩:=oy os ps gap (ho os (List.mem_of_getElem? h1)).1 (ho ps (List.mem_of_getElem? h2)).1 (by have:=(ho os (List.mem_of_getElem? h1)).2;lia)
   have g1:=int_at hz;have g2:=jk h1;have g3:=jk h2;rw [Int.zero_add,xy hz h1 h2];push_cast only [g1,g2,g3,hn])
  subst e;rw [rE];have hg:=nv (sT (gap:=gap) (O:=O) (E:=gj gap O i) (k:=i+1) (by lia))
  have ea:(List.range (i+1)).map (λj=>(gj gap O i)[j]?.getD 0+dist gap (O[j]?.getD []) (O[i+1]?.getD []))=rZ gap O (gj gap O i) (i+1):=rfl
  rw [ea];have lb:((bU (gj gap O i)).length<BIG)=True:=by rw [f6,gR];exact gz (by lia)
  push_cast only [oo,bP,hg,lb,iu];exact ⟨_,_,rfl⟩
 ·rintro ρ' rfl ⟨v3,v4,rfl⟩
  rw [eU];push_cast only [and_self];rw [show ((O.length:Int)-1).toNat=O.length-1 by lia]
theorem mV (ns:List Int) (j:Nat) (z:Int):(bU ns).set j (.sh (.int z))=bU (ns.set j z):=by
 unfold bU;rw [List.map_map,List.map_map,List.map_set];rfl
noncomputable def gv (ls:List Int) (k:Nat):Int:=ls[k]?.getD 0
noncomputable def dO (gap:Int) (O:List Ol) (i j:Nat):Int:=dist gap (O[i]?.getD []) (O[j]?.getD [])
theorem fI {xs:List Int} (h:xs≠[]):jK xs∈xs/\∀z∈xs,z<=jK xs:=by
 cases xs with
 |nil=>exact absurd rfl h
 |cons a as=>exact iw as a
theorem wq {xs:List Int} (h:xs≠[]):∃m,jq [.list (xs.map PyData.int)]=.ok (.sh (.int m))/\m∈xs/\∀z∈xs,m<=z:=by
 cases xs with
 |nil=>exact absurd rfl h
 |cons a as=>exact ⟨_,rA a as,jA as a⟩
theorem qu (gap:Int) (O:List Ol) (m:Nat):∀c j,j<=m->(gj gap O (m+c))[j]?=(gj gap O m)[j]?
 |0,_,_=>rfl
 |c+1,j,h=>by
  rw [<-qu gap O m c j h,<-Nat.add_assoc];show (gj gap O (m+c)++_)[j]?=_
  rw [List.getElem?_append_left (by rw [gR];lia)]
theorem vy (gap:Int) (O:List Ol) (n:Nat) (hn:0<n):IsE n (dO gap O) (gv (gj gap O (n-1))):=by
 have pre:∀m j,j<=m->m<n->gv (gj gap O (n-1)) j=gv (gj gap O m) j:=λm j h h2=>by
  unfold gv;have:=qu gap O m (n-1-m) j h;rw [show m+(n-1-m)=n-1 by lia]at this
  rw [this]
 refine ⟨?_,λk h0 hk=>?_⟩
 ·rw [pre 0 0 (Nat.le_refl _) hn]
  rfl
 ·obtain ⟨m,rfl⟩:∃m,k=m+1:=⟨k-1,by lia⟩
  have ev:gv (gj gap O (n-1)) (m+1)=jK (rZ gap O (gj gap O m) (m+1)):=by
   rw [pre (m+1) (m+1) (Nat.le_refl _) hk];unfold gv;show (gj gap O m++_)[m+1]?.getD 0=_
   rw [List.getElem?_append_right (by rw [gR];lia),gR,Nat.sub_self]
   rfl
  obtain ⟨s1,s2⟩:=fI (sT (gap:=gap) (O:=O) (E:=gj gap O m) (k:=m+1) (by lia))
  rw [ev];refine ⟨λj hj=>?_,?_⟩
  ·refine s2 _ ?_
   unfold rZ;rw [List.mem_map];exact ⟨j,List.mem_range.mpr hj,by rw [pre m j (by lia) (by lia)];rfl⟩
  ·unfold rZ at s1
   rw [List.mem_map]at s1;obtain ⟨j,hj,e⟩:=s1;rw [List.mem_range]at hj;refine ⟨j,hj,?_⟩;rw [pre m j (by lia) (by lia)]
   exact e.symm
noncomputable def LI (n:Nat) (d:Nat->Nat->Int) (last:Int) (m:Nat) (ls:List Int):Prop:=ls.length=n/\gv ls (n-1)=last/\∀k,m<=k->k+1<n->(∀j,k<j->j<n->gv ls k<=gv ls j-d k j)/\∃j,k<j/\j<n/\gv ls k=gv ls j-d k j
theorem Ci {ls:List Int} {m:Nat} {v:Int} (h:m<ls.length) (k:Nat):gv (ls.set m v) k=if k=m then v else gv ls k:=by
 unfold gv;by_cases hk:k=m
 ·subst hk
  rw [if_pos rfl,List.getElem?_set_self h];rfl
 ·rw [if_neg hk,List.getElem?_set_ne (λz=>hk z.symm)]
theorem y6 {n:Nat} {d:Nat->Nat->Int} {last:Int} {m:Nat} {ls:List Int} {v:Int} (h:LI n d last (m+1) ls) (hm:m+1<n) (h1:v∈(List.range (n-(m+1))).map λk=>gv ls (m+1+k)-d m (m+1+k)) (h2:∀z∈(List.range (n-(m+1))).map λk=>gv ls (m+1+k)-d m (m+1+k),v<=z):LI n d last m (ls.set m v):=by
 obtain ⟨a,b,c⟩:=h;have sv:=Ci (v:=v) (show m<ls.length by lia)
 refine ⟨by rw [List.length_set];exact a,?_,λk hk hk2=>?_⟩
 ·rw [sv,if_neg (by lia)]
  exact b
 ·by_cases e:k=m
  ·subst e
   refine ⟨λj j1 j2=>?_,?_⟩
   ·rw [sv,sv,if_pos rfl,if_neg (by lia)]
    refine h2 _ ?_;rw [List.mem_map];exact ⟨j-(k+1),List.mem_range.mpr (by lia),by rw [show k+1+(j-(k+1))=j by lia]⟩
   ·rw [List.mem_map]at h1
    obtain ⟨q,hq,e⟩:=h1;rw [List.mem_range]at hq;refine ⟨k+1+q,by lia,by lia,?_⟩
    rw [sv,sv,if_pos rfl,if_neg (by lia)]
    exact e.symm
  ·obtain ⟨c1,j,c2,c3,c4⟩:=c k (by lia) hk2
   refine ⟨λj j1 j2=>?_,j,c2,c3,?_⟩
   ·rw [sv,sv,if_neg e,if_neg (by lia)]
    exact c1 j j1 j2
   ·rw [sv,sv,if_neg e,if_neg (by lia)]
    exact c4
theorem vd (O:List Ol) (gap last:Int) (hO:okO O):∃ls:List Int,LI O.length (dO gap O) last 0 ls/\dB [.list (cH O),.int gap,.int last]=.ok (.ol (bU ls)):=by
 unfold dB eI;obtain ⟨ho,hl0,hl1⟩:=hO;have rp:eh (.list [.int last]) (.int (O.length:Int))=.ok (.ol (bU (List.replicate O.length last))):=by
  rw [mm _ _ (by lia)]
  unfold bU;simp only [List.map_replicate]
 have r3:=λ(ρ:L3.Env) (h1:(eOp dF (ae 3) (eC (.int 2))) ρ=.ok (.sh (.int ((O.length:Int)-2))))=>Fu (fa:=eOp dF (ae 3) (eC (.int 2))) (fb:=eUn gG (eC (.int 1))) (fc:=eUn gG (eC (.int 1))) (ρ:=ρ) (x:=(O.length:Int)-2) (y:=-1) (z:=-1) h1 rfl rfl rfl (g9 (by lia) (by lia)) (g9 (by decide) (by decide))
 push_cast only [jD,rp];rw [r3 _ rfl];push_cast only [and_self];generalize hL:br _ _ _ _=r'
 have st:LI O.length (dO gap O) last (O.length-1-0) (List.replicate O.length last):=by
  refine ⟨by simp,?_,λk h1 h2=>by lia⟩
  unfold gv;rw [List.getElem?_replicate,if_pos (by lia)]
  rfl
 refine cD hL (λi ρ=>∃(ls:List Int) (v5 v6 v7:Option OD),LI O.length (dO gap O) last (O.length-1-i) ls/\ρ=[some (.sh (.list (cH O))),some (.sh (.int gap)),some (.sh (.int last)),some (.sh (.int O.length)),some (.ol (bU ls)),v5,v6,v7]) ⟨List.replicate O.length last,_,_,_,st,rfl⟩ ?_ ?_
 ·rintro i d ρ hd ⟨ls,v5,v6,v7,hli,rfl⟩
  have hls:=hli.1;obtain ⟨hi,rfl⟩:=qb hd;obtain ⟨m,hm⟩:∃m:Nat,(O.length:Int)-2-(i:Int)=(m:Int):=⟨((O.length:Int)-2-(i:Int)).toNat,by lia⟩
  have hm2:m+1<O.length:=by lia
  rw [hm];obtain ⟨os,h1⟩:∃p,O[m]?=some p:=⟨O[m]'(by lia),by simp⟩
  have g1:=jk h1;have em:(m:Int)+1=((m+1:Nat):Int):=by lia
  have s3:aI ((m+1:Nat):Int)=true:=g9 (by lia) (by lia)
  have s4:aI (O.length:Int)=true:=g9 (by lia) (by lia)
  push_cast only [g1,em,s3,s4,Bool.and_self,bP];generalize hC:bV _ _ _ _ _ _=rc
  have hcnt:((O.length:Int)-((m+1:Nat):Int)).toNat=O.length-(m+1):=by lia
  have e:=et hC (λk:Nat=>PyData.int (((m+1:Nat):Int)+(k:Int))) (λk=>.sh (.int (gv ls (m+1+k)-dO gap O m (m+1+k)))) (List.range (O.length-(m+1))) (by rw [hcnt];rfl) (by rw [List.length_range];exact of_eq_true (bM (by lia))) (by
   intro k hk;rw [List.mem_range]at hk;have ek:((m+1:Nat):Int)+(k:Int)=((m+1+k:Nat):Int):=by lia
   rw [ek];obtain ⟨z,hz⟩:∃z,ls[m+1+k]?=some z:=⟨ls[m+1+k]'(by lia),by simp⟩
   obtain ⟨ps,h2⟩:∃p,O[m+1+k]?=some p:=⟨O[m+1+k]'(by lia),by simp⟩
   obtain ⟨l,hn⟩:=oy os ps gap (ho os (List.mem_of_getElem? h1)).1 (ho ps (List.mem_of_getElem? h2)).1 (by have:=(ho os (List.mem_of_getElem? h1)).2;lia)
   have g1:=int_at hz;have g3:=jk h2;have q1:gv ls (m+1+k)=z:=by unfold gv;rw [hz];rfl
   have q2:dO gap O m (m+1+k)=dist gap os ps:=by unfold dO;rw [h1,h2];rfl
   rw [q1,q2];push_cast only [g1,g3,hn])
  subst e;rw [rE];obtain ⟨mn,hmn,hmem,hle⟩:=wq (xs:=(List.range (O.length-(m+1))).map λk=>gv ls (m+1+k)-dO gap O m (m+1+k)) (by
   intro z;have:=congrArg List.length z;simp at this
   lia)
  have ix:ixN (bU ls).length (m:Int)=some m:=iM (by rw [f6];lia)
  have nx:=y6 (by rw [show m+1=O.length-1-i by lia];exact hli) hm2 hmem hle
  rw [show m=O.length-1-(i+1) by lia]at nx
  push_cast only [oo,bP,hmn,vJ ix,mV];rw [show m=O.length-1-(i+1) by lia]
  exact ⟨_,_,_,_,nx,rfl⟩
 ·rintro ρ' rfl ⟨ls,v5,v6,v7,hli,rfl⟩
  push_cast only [and_self];refine ⟨ls,?_,rfl⟩;have:O.length-1-(mW ((O.length:Int)-2) ((O.length:Int)-2 - -1).toNat).length=0:=by
   unfold mW;rw [List.length_map,List.length_range]
   lia
  rw [this]at hli;exact hli
theorem lH {ls:List Int} {k:Nat} (h:k<ls.length):ls[k]?=some (gv ls k):=by
 unfold gv;rw [List.getElem?_eq_getElem h];rfl
theorem tL {ls:List Int} {n:Nat} (h:ls.length=n) (hn:0<n):atI (ls.map PyData.int) (-1)=some (.int (gv ls (n-1))):=by
 have hne:ls≠[]:=λz=>by rw [z]at h;simp at h;lia
 have e:gv ls (n-1)=ls.getLast hne:=by
  have h1:=lH (ls:=ls) (k:=n-1) (by lia)
  rw [List.getLast_eq_getElem];rw [List.getElem?_eq_getElem (by lia)]at h1
  have h2:=Option.some.inj h1;rw [<-h2];congr 1
  lia
 rw [e]
 conv=>lhs;rw [<-List.dropLast_concat_getLast hne,List.map_append]
 exact mU _ _
theorem yI (O:List Ol) (gap:Int) (hO:okO O):∃es ls:List Int,es.length=O.length/\ls.length=O.length/\IsE O.length (dO gap O) (gv es)/\IsL O.length (dO gap O) (gv es (O.length-1)) (gv ls)/\gQ [.list (cH O),.int gap]=.ok (.sh (.tuple [.list (es.map PyData.int),.list (ls.map PyData.int)])):=by
 have h1:=hO.2.1;have le:(gj gap O (O.length-1)).length=O.length:=by rw [gR];lia
 have hz:=tL le (by lia)
 obtain ⟨ls,hl,e⟩:=vd O gap (gv (gj gap O (O.length-1)) (O.length-1)) hO;refine ⟨_,ls,le,hl.1,vy gap O O.length (by lia),⟨hl.2.1,λk hk=>hl.2.2 k (Nat.zero_le _) hk⟩,?_⟩
 unfold gQ iS;push_cast only [qs O gap hO,bP,hz,e]
noncomputable def d9:Fs:=(aF (aR 2 (fJ av))
 (aF (eP (iR1 (eB i4 (af (dr (gS (ae 0)) (gNm 0) eN (eB dP (af (ae 0) av)) 1 []) av))) (gNm 3) (aF (aR 4 (eSh (dr (iEn (ae 0)) (gTp 2 (cJ (gNm 0) (cJ (gNm 1) iX))) (aW (eOp gLt (ae 2) (eB dP (af (ae 1) av)))) (ae 0) 2 [3])))
 (aF (aR 5 (eB jq (af (dr (gS (ae 4)) (gNm 0) eN (eOp dJ (eOp gIx (ae 1) (ae 0)) (eOp gIx (eOp gIx (eOp gIx (ae 2) (ae 0)) (ae 3)) (eC (.int 0)))) 1 [1,0,3]) av)))
 (aF (aR 6 (eB i4 (af (dr (gS (ae 4)) (gNm 0) eN (eOp dJ (eOp gIx (ae 1) (ae 0)) (eOp gIx (eOp gIx (eOp gIx (ae 2) (ae 0)) (ae 3)) (eC (.int 1)))) 1 [1,0,3]) av)))
 (ji 2 (gk (af (ae 5) (af (ae 6) av))))))))
 (gD 2)))
noncomputable def bN:Fn:=cw 2 7 d9
noncomputable def e6:Fs:=(aF (aR 2 (eSh (aM gQ (af (ae 0) (af (ae 1) av)))))
 (aF (aR 3 (eOp lS (eOp gIx (eOp gIx (ae 2) (eC (.int 0))) (eUn gG (eC (.int 1)))) (eC (.int 2))))
 (bR (dr (iZp (eOp gIx (ae 2) (eC (.int 0))) (eOp gIx (ae 2) (eC (.int 1)))) (gTp 2 (cJ (gNm 0) (cJ (gNm 1) iX))) eN (eOp dF (eOp lS (eOp dJ (ae 0) (ae 1)) (eC (.int 2))) (ae 2)) 2 [3]))))
noncomputable def bh:Fn:=cw 2 4 e6
noncomputable def jH:Fs:=(aF (aR 2 (eOp eh (fJ (af (eC (.int 0)) av)) (eB dP (af (ae 0) av))))
 (aF (aR 3 (dr (gS (aM df (af (ae 0) av))) (gNm 0) eN (fJ (af (eSh (gk (af (eOp eh (eUn gG (eC (.int 256))) (ae 0)) (af (eOp eh (eC (.int 256)) (ae 0)) av)))) av)) 1 []))
 (aF (eP (iR3 (eOp dF (eB dP (af (ae 0) av)) (eC (.int 1))) (eUn gG (eC (.int 1))) (eUn gG (eC (.int 1)))) (gNm 4) (aF (aR 5 (eSh (aM dt (af (ae 0) (af (ae 4) av)))))
 (sIf (aW (eOp gGt (eB dP (af (ae 5) av)) (eC (.int 0)))) (aF (nq 3 5 (aR 6 (eSh (sA 3 5))))
 (aF (aR 7 (eSh (aM bh (af (ae 6) (af (ae 1) av)))))
 (aF (eP (iZp (ae 5) (ae 7)) (gTp 2 (cJ (gNm 8) (cJ (gNm 9) iX))) (pS 2 (ae 8) (ae 9)))
 (j7 3 (ae 4) (aM bN (af (ae 6) (af (ae 7) av))))))) sNx)))
 (nT 3 (nT 2 (bR (gk (af (ae 2) (af (ae 3) av)))))))))
noncomputable def iA:Fn:=cw 2 10 jH
noncomputable def eL:Fs:=(aF (aR 3 (eB jq (af (dr (iZp (ae 1) (aM df (af (ae 0) av))) (gTp 2 (cJ (gNm 0) (cJ (gNm 1) iX))) eN (eOp dF (ae 0) (eOp eh (ae 2) (ae 1))) 2 [2]) av)))
 (bR (dr (gS (ae 1)) (gNm 0) eN (eOp dF (ae 0) (ae 1)) 1 [3])))
noncomputable def du:Fn:=cw 3 4 eL
noncomputable def kA:Fs:=(aF (aR 2 (eOp gIx (aM iA (af (ae 0) (af (ae 1) av))) (eC (.int 0))))
 (aF (aR 3 (fJ (af (eC (.int 0)) av)))
 (aF (eP (iR2 (eC (.int 1)) (eB dP (af (ae 0) av))) (gNm 4) (ji 3 (p8 (eOp dJ (eOp gIx (ae 3) (eOp gIx (eOp gIx (ae 0) (ae 4)) (eC (.int 0)))) (eOp gIx (ae 2) (ae 4))))))
 (nT 3 (bR (aM du (af (ae 0) (af (ae 3) (af (eC (.int 256)) av)))))))))
noncomputable def g7:Fn:=cw 2 5 kA
noncomputable def qC:List Int->Int
 |[]=>0
 |a :: as=>kE a as
theorem qH {xs:List Int} (h:xs≠[]):jq [.list (xs.map PyData.int)]=.ok (.sh (.int (qC xs))):=by
 cases xs with
 |nil=>exact absurd rfl h
 |cons a as=>exact rA a as
theorem ow {xs:List Int} (h:xs≠[]):qC xs∈xs/\∀z∈xs,qC xs<=z:=by
 cases xs with
 |nil=>exact absurd rfl h
 |cons a as=>exact jA as a
noncomputable def oA (O:List Ol) (j l:Nat):Int×Int:=((O[j]?.getD [])[l]?).getD (0,0)
noncomputable def jI (O:List Ol) (j:Nat):Nat:=(O[j]?.getD []).length
noncomputable def there (O:List Ol) (l:Nat):List Nat:=(List.range O.length).filter λj=>decide (l<jI O j)
noncomputable def jl (O:List Ol) (st:List Int) (l:Nat):Int×Int:=(qC ((there O l).map λj=>gv st j+(oA O j l).1),jK ((there O l).map λj=>gv st j+(oA O j l).2))
noncomputable def mxN (O:List Ol):Nat:=(jK (O.map λo=>(o.length:Int))).toNat
noncomputable def jo (O:List Ol) (st:List Int):Ol:=(List.range (mxN O)).map (jl O st)
theorem jj (os:Ol):(eO os).length=os.length:=by unfold eO;rw [List.length_map]
theorem pZ {O:List Ol} (h:O≠[]):jK (O.map λo=>(o.length:Int))=(mxN O:Int)/\(∃j,j<O.length/\jI O j=mxN O)/\∀j,j<O.length->jI O j<=mxN O:=by
 obtain ⟨s1,s2⟩:=fI (xs:=O.map λo=>(o.length:Int)) (λz=>h (List.map_eq_nil_iff.mp z))
 obtain ⟨o,ho,eo⟩:=List.mem_map.mp s1;have e:jK (O.map λo=>(o.length:Int))=(mxN O:Int):=by
  unfold mxN;rw [<-eo];rfl
 refine ⟨e,?_,λj hj=>?_⟩
 ·obtain ⟨j,hj,ej⟩:=List.getElem_of_mem ho
  refine ⟨j,hj,?_⟩;unfold jI;rw [List.getElem?_eq_getElem hj,ej];show o.length=_
  have:(o.length:Int)=(mxN O:Int):=by rw [<-e];exact eo
  lia
 ·have:=s2 (jI O j:Int) (List.mem_map.mpr ⟨O[j],List.getElem_mem hj,by unfold jI;rw [List.getElem?_eq_getElem hj];rfl⟩)
  rw [e]at this
  lia
theorem kF {O:List Ol} {l:Nat} (h:O≠[]) (hl:l<mxN O):there O l≠[]:=by
 obtain ⟨_,⟨j,hj,ej⟩,_⟩:=pZ h;intro z;have:j∈there O l:=List.mem_filter.mpr ⟨List.mem_range.mpr hj,decide_eq_true (by lia)⟩
 rw [z]at this;cases this
theorem uB (O:List Ol):fZ (cH O)=(List.range O.length).map λj:Nat=>PyData.tuple [.int (j:Int),.list (eO (O[j]?.getD []))]:=by
 apply List.ext_getElem?
 intro i;rw [List.getElem?_map];by_cases hi:i<O.length
 ·rw [List.getElem?_range hi]
  unfold fZ cH;rw [List.getElem?_map,List.getElem?_zipIdx,List.getElem?_map,List.getElem?_eq_getElem hi];simp [List.getElem?_eq_getElem hi]
 ·rw [List.getElem?_eq_none (by unfold fZ cH;simp;lia),List.getElem?_eq_none (by rw [List.length_range];lia)]
  rfl
theorem qB (O:List Ol) {j:Nat} (h:j<O.length):atI (cH O) (j:Int)=some (.list (eO (O[j]?.getD []))):=by
 rw [List.getElem?_eq_getElem h];exact jk (List.getElem?_eq_getElem h)
theorem ue (os:Ol) {l:Nat} (h:l<os.length):atI (eO os) (l:Int)=some (.tuple [.int ((os[l]?).getD (0,0)).1,.int ((os[l]?).getD (0,0)).2]):=by
 rw [List.getElem?_eq_getElem h];exact xE (List.getElem?_eq_getElem h)
theorem iU {st:List Int} {j:Nat} (h:j<st.length):atI (st.map PyData.int) (j:Int)=some (.int (gv st j)):=int_at (lH h)
theorem Iw (L:List Nat):(L.map λk:Nat=>OD.sh (.int (k:Int))).map OD.er=g5 L:=by
 unfold g5;rw [List.map_map];exact List.map_congr_left λk _=>eM _
theorem u4 (os:Ol) (p:Int×Int):(eO os).map OD.sh++[OD.sh (.tuple [.int p.1,.int p.2])]=(eO (os++[p])).map OD.sh:=by
 unfold eO;rw [List.map_append,List.map_append];rfl
theorem u9 (O:List Ol) (st:List Int) (hO:okO O) (hs:st.length=O.length):bN [.list (cH O),.list (st.map PyData.int)]=.ok (.ol ((eO (jo O st)).map OD.sh)):=by
 unfold bN d9;obtain ⟨ho,hl0,hl1⟩:=hO;have hne:O≠[]:=λz=>by rw [z]at hl0;simp at hl0
 obtain ⟨mx1,mx2,mx3⟩:=pZ hne;have mb:mxN O<=100:=by
  obtain ⟨j,hj,ej⟩:=mx2;have:=(ho O[j] (List.getElem_mem hj)).2;unfold jI at ej;rw [List.getElem?_eq_getElem hj]at ej;have ej':O[j].length=mxN O:=ej
  lia
 push_cast only [and_self];generalize hC:bV _ _ _ _ _ _=rc
 have e:=et hC (λo:Ol=>.list (eO o)) (λo:Ol=>.sh (.int (o.length:Int))) O rfl (of_eq_true (bM (by lia))) (by
  intro o ho;push_cast only [jj])
 subst e;have e2:(O.map λo:Ol=>OD.sh (.int (o.length:Int))).map OD.er=(O.map λo:Ol=>(o.length:Int)).map PyData.int:=by
  rw [List.map_map,List.map_map];exact List.map_congr_left λo _=>eM _
 have hg:=nv (xs:=O.map λo:Ol=>(o.length:Int)) (λz=>hne (List.map_eq_nil_iff.mp z))
 rw [mx1]at hg;have s1:aI (mxN O:Int)=true:=g9 (by lia) (by lia)
 push_cast only [e2,hg,s1];generalize hL:br _ _ _ _=r'
 refine cD hL (λi ρ=>∃v3 v4 v5 v6:Option OD,ρ=[some (.sh (.list (cH O))),some (.sh (.list (st.map PyData.int))),some (.ol ((eO ((List.range i).map (jl O st))).map OD.sh)),v3,v4,v5,v6]) ⟨_,_,_,_,rfl⟩ ?_ ?_
 ·rintro i d ρ hd ⟨v3,v4,v5,v6,rfl⟩
  obtain ⟨hi,rfl⟩:=dv hd;rw [Int.toNat_natCast]at hi;rw [Int.zero_add];have tne:=kF hne hi;have tin:∀j∈there O i,j<O.length/\i<jI O j:=λj hj=>by
   have:=List.mem_filter.mp hj;exact ⟨List.mem_range.mp this.1,of_decide_eq_true this.2⟩
  have tl:(there O i).length<=100:=by
   have:=List.length_filter_le (λj=>decide (i<jI O j)) (List.range O.length)
   rw [List.length_range]at this;unfold there
   lia
  push_cast only [and_self];generalize hC:bV _ _ _ _ _ _=rc
  have e:=mr hC (λj:Nat=>PyData.tuple [.int (j:Int),.list (eO (O[j]?.getD []))]) (λj=>decide (i<jI O j)) (λj:Nat=>.sh (.int (j:Int))) (List.range O.length) (uB O) (by rw [List.length_range];exact of_eq_true (bM (by lia))) (by
   intro j hj;have dj:decide ((i:Int)<((O[j]?.getD []).length:Int))=decide (i<jI O j):=by
    unfold jI;by_cases h:i<(O[j]?.getD []).length
    ·rw [decide_eq_true h,decide_eq_true (by lia)]
    ·rw [decide_eq_false h,decide_eq_false (by lia)]
   refine ⟨?_,λ_=>?_⟩
   ·push_cast only [jj,dj]
   ·push_cast only [and_self])
  subst e;clear hC;have e3:((List.range O.length).filter λj=>decide (i<jI O j))=there O i:=rfl
  rw [e3];push_cast only [Iw];generalize hC:bV _ _ _ _ _ _=rc
  have e:=et hC (λj:Nat=>PyData.int (j:Int)) (λj=>.sh (.int (gv st j+(oA O j i).1))) (there O i) rfl (of_eq_true (bM (by lia))) (by
   intro j hj;obtain ⟨j1,j2⟩:=tin j hj;have g1:=iU (st:=st) (j:=j) (by lia)
   have g2:=qB O j1;have g3:=ue (O[j]?.getD []) (l:=i) j2;push_cast only [g1,g2,g3];rfl)
  subst e;clear hC;have hm1:=qH (xs:=(there O i).map λj=>gv st j+(oA O j i).1) (λz=>tne (List.map_eq_nil_iff.mp z))
  have hm2:=nv (xs:=(there O i).map λj=>gv st j+(oA O j i).2) (λz=>tne (List.map_eq_nil_iff.mp z))
  rw [rE];push_cast only [bP,hm1];generalize hC:bV _ _ _ _ _ _=rc
  have e:=et hC (λj:Nat=>PyData.int (j:Int)) (λj=>.sh (.int (gv st j+(oA O j i).2))) (there O i) rfl (of_eq_true (bM (by lia))) (by
   intro j hj;obtain ⟨j1,j2⟩:=tin j hj;have g1:=iU (st:=st) (j:=j) (by lia)
   have g2:=qB O j1;have g3:=ue (O[j]?.getD []) (l:=i) j2;push_cast only [g1,g2,g3];rfl)
  subst e;clear hC;rw [rE];have lb:((eO ((List.range i).map (jl O st))).length<BIG)=True:=by rw [jj,List.length_map,List.length_range];exact gz (by lia)
  push_cast only [bP,hm2,lb];have sn:=u4 ((List.range i).map (jl O st)) (jl O st i);rw [show (List.range i).map (jl O st)++[jl O st i]=(List.range (i+1)).map (jl O st) by rw [List.range_succ,List.map_append];rfl]at sn
  rw [<-sn];exact ⟨_,_,_,_,rfl⟩
 ·rintro ρ' rfl ⟨v3,v4,v5,v6,rfl⟩
  rw [eU,Int.toNat_natCast];push_cast only [and_self];rfl
theorem xB (O:List Ol) (st:List Int):(jo O st).length=mxN O:=by unfold jo;rw [List.length_map,List.length_range]
theorem xh {es ls:List Int} {n:Nat} (he:es.length=n) (hl:ls.length=n):lQ (es.map PyData.int) (ls.map PyData.int)=(List.range n).map λk=>PyData.tuple [.int (gv es k),.int (gv ls k)]:=by
 apply List.ext_getElem?
 intro i;unfold lQ;rw [List.getElem?_map,List.getElem?_map];by_cases hi:i<n
 ·rw [List.getElem?_range hi,(List.getElem?_zip_eq_some (z:=(PyData.int (gv es i),PyData.int (gv ls i)))).mpr ⟨by rw [List.getElem?_map,lH (by lia)];rfl,by rw [List.getElem?_map,lH (by lia)];rfl⟩]
  rfl
 ·rw [List.getElem?_eq_none (by simp;lia),List.getElem?_eq_none (by simp;lia)]
  rfl
structure IsSt (gap:Int) (O:List Ol) (es ls st:List Int):Prop where
 le:es.length=O.length
 ll:ls.length=O.length
 lst:st.length=O.length
 isE:IsE O.length (dO gap O) (gv es)
 isL:IsL O.length (dO gap O) (gv es (O.length-1)) (gv ls)
 eq:∀k,k<O.length->gv st k=(gv es k+gv ls k) / 2-gv es (O.length-1) / 2
theorem uR (O:List Ol) (gap:Int) (hO:okO O):∃es ls st:List Int,IsSt gap O es ls st/\bh [.list (cH O),.int gap]=.ok (.ol (bU st)):=by
 obtain ⟨es,ls,h1,h2,h3,h4,h5⟩:=yI O gap hO;have hn:=hO.2.1;refine ⟨es,ls,(List.range O.length).map λk=>(gv es k+gv ls k) / 2-gv es (O.length-1) / 2,⟨h1,h2,by simp,h3,h4,λk hk=>by
  unfold gv;rw [List.getElem?_map,List.getElem?_range hk];rfl⟩,?_⟩
 unfold bh e6;have la:=tL h1 (by lia)
 have lb:=hO.2.2;push_cast only [h5,bP,la,xh h1 h2];generalize hC:bV _ _ _ _ _ _=rc
 have e:=et hC (λk:Nat=>PyData.tuple [.int (gv es k),.int (gv ls k)]) (λk=>.sh (.int ((gv es k+gv ls k) / 2-gv es (O.length-1) / 2))) (List.range O.length) rfl (by rw [List.length_range];exact of_eq_true (bM (by lia))) (by
  intro k hk;push_cast only [and_self])
 subst e;rw [rE];push_cast only [and_self]
open Classical in
noncomputable def stF (gap:Int) (O:List Ol):List Int:=if h:∃st:List Int,bh [.list (cH O),.int gap]=.ok (.ol (bU st)) then choose h else []
theorem wj {a b:List Int} (h:bU a=bU b):a=b:=by
 have:=congrArg (List.map OD.er) h;rw [bP,bP]at this;have inj:∀x y:List Int,x.map PyData.int=y.map PyData.int->x=y:=by
  intro x
  induction x with
  |nil=>intro y hy;cases y with | nil=>rfl | cons b y=>simp at hy
  |cons a x ih =>
   intro y hy;cases y with
   |nil=>simp at hy
   |cons b y =>
    simp at hy
    rw [hy.1,ih y (by simpa using hy.2)]
 exact inj a b this
theorem pf {O:List Ol} {gap:Int} (hO:okO O):(∃es ls,IsSt gap O es ls (stF gap O))/\bh [.list (cH O),.int gap]=.ok (.ol (bU (stF gap O))):=by
 obtain ⟨es,ls,st,h1,h2⟩:=uR O gap hO;have hex:∃st:List Int,bh [.list (cH O),.int gap]=.ok (.ol (bU st)):=⟨st,h2⟩;have hs:bh [.list (cH O),.int gap]=.ok (.ol (bU (stF gap O))):=by
  unfold stF;rw [dif_pos hex];exact Classical.choose_spec hex
 have:stF gap O=st:=by
  rw [h2]at hs;exact (wj (OD.ol.inj (R.ok.inj hs))).symm
 exact ⟨⟨es,ls,by rw [this];exact h1⟩,hs⟩
noncomputable def ini (ts:List Nd) (k:Nat):Ol:=[(-256 * gv (aV ts) k,256 * gv (aV ts) k)]
noncomputable def ir (out:List Ol) (k:Nat):Ol:=(out[k]?).getD []
noncomputable def bj (ts:List Nd) (out:List Ol) (k:Nat):List Ol:=(chN ts k).map (ir out)
noncomputable def joB (ts:List Nd) (gap:Int) (out:List Ol) (k:Nat):Ol:=jo (bj ts out k) (stF gap (bj ts out k))
noncomputable def qI (ts:List Nd) (gap:Int) (k:Nat) (out:List Ol):List Ol:=if chN ts k=[] then out else out.set k (ir out k++joB ts gap out k)
noncomputable def di:List Int->List Nat->List Int->List Int
 |o,c :: cs,s :: ss=>di (o.set c s) cs ss
 |o,_,_=>o
noncomputable def qS (ts:List Nd) (gap:Int) (k:Nat) (out:List Ol) (off:List Int):List Int:=if chN ts k=[] then off else di off (chN ts k) (stF gap (bj ts out k))
noncomputable def PO (ts:List Nd) (gap:Int):Nat->List Ol×List Int
 |0=>((List.range ts.length).map (ini ts),List.replicate ts.length 0)
 |m+1=>(qI ts gap (ts.length-1-m) (PO ts gap m).1,qS ts gap (ts.length-1-m) (PO ts gap m).1 (PO ts gap m).2)
theorem lI:∀(o:List Int) (cs:List Nat) (ss:List Int) (c:Nat) (s:Int),cs.length=ss.length->di o (cs++[c]) (ss++[s])=(di o cs ss).set c s
 |o,[],[],c,s,_=>rfl
 |o,[],s' :: ss,c,s,h=>by simp at h
 |o,c' :: cs,[],c,s,h=>by simp at h
 |o,c' :: cs,s' :: ss,c,s,h=>by
  rw [List.cons_append,List.cons_append,di,di,lI _ cs ss c s (by simpa using h)]
theorem jV:∀(o:List Int) (cs:List Nat) (ss:List Int),(di o cs ss).length=o.length
 |o,[],ss=>by rw [di];intro c cs s ss h;cases h
 |o,c :: cs,[]=>by rw [di];intro c cs s ss _ h;cases h
 |o,c :: cs,s :: ss=>by rw [di,jV _ cs ss,List.length_set]
theorem iR:∀(o:List Int) (cs:List Nat) (ss:List Int) (x:Nat),x∉cs->gv (di o cs ss) x=gv o x
 |o,[],ss,x,_=>by rw [di];intro c cs s ss h;cases h
 |o,c :: cs,[],x,_=>by rw [di];intro c cs s ss _ h;cases h
 |o,c :: cs,s :: ss,x,h=>by
  rw [di,iR _ cs ss x (λz=>h (List.mem_cons_of_mem _ z))]
  unfold gv;rw [List.getElem?_set_ne (λz=>h (by rw [z];exact List.mem_cons_self))]
theorem oN:∀(o:List Int) (cs:List Nat) (ss:List Int) (i:Nat) (x:Nat),cs.Nodup->(∀c∈cs,c<o.length)->cs.length=ss.length->cs[i]?=some x->gv (di o cs ss) x=gv ss i
 |o,[],ss,i,x,_,_,_,h=>by simp at h
 |o,c :: cs,[],i,x,_,_,h,_=>by simp at h
 |o,c :: cs,s :: ss,i,x,nd,hb,hl,h=>by
  obtain ⟨n1,n2⟩:=List.nodup_cons.mp nd;rw [di];cases i with
  |zero =>
   have hx:c=x:=by simpa using h
   subst hx;rw [iR _ cs ss c n1];unfold gv;rw [List.getElem?_set_self (hb c List.mem_cons_self)];rfl
  |succ i =>
   rw [oN _ cs ss i x n2 (λd hd=>by rw [List.length_set];exact hb d (List.mem_cons_of_mem _ hd)) (by simpa using hl) (by simpa using h)]
   rfl
theorem bZ {ts:List Nd} {k j:Nat}:j∈chN ts k ↔ j<ts.length/\eOf ts j=(k:Int):=by
 unfold chN;rw [List.mem_filter,List.mem_range,decide_eq_true_eq]
theorem f9 {ts:List Nd} (he:EL ts) {k j:Nat} (h:j∈chN ts k):k<j/\j<ts.length:=by
 obtain ⟨h1,h2⟩:=bZ.mp h;obtain ⟨n,hn⟩:∃n,ts[j]?=some n:=⟨ts[j],by simp [h1]⟩
 have:=(he j n hn).2.2;rw [fg hn]at h2;exact ⟨by lia,h1⟩
theorem vN (ts:List Nd) (k:Nat):(chN ts k).Nodup:=List.Pairwise.imp (λh=>Nat.ne_of_lt h) (show (chN ts k).Pairwise (·<·) by unfold chN;exact List.Pairwise.filter _ List.pairwise_lt_range)
theorem zM (ts:List Nd) (k:Nat):(chN ts k).Pairwise (·<·):=by unfold chN;exact List.Pairwise.filter _ List.pairwise_lt_range
theorem sE (ts:List Nd) (k:Nat):(chN ts k).length<=ts.length:=by
 unfold chN;have:=List.length_filter_le (λj=>decide (eOf ts j=(k:Int))) (List.range ts.length)
 rw [List.length_range]at this;exact this
theorem qO {out:List Ol} {k j:Nat} {o:Ol} (h:k≠j):ir (out.set k o) j=ir out j:=by unfold ir;rw [List.getElem?_set_ne h]
theorem uZ {out:List Ol} {k:Nat} {o:Ol} (h:k<out.length):ir (out.set k o) k=o:=by unfold ir;rw [List.getElem?_set_self h];rfl
theorem uM {ts:List Nd} (he:EL ts) {out:List Ol} {k q:Nat} {o:Ol} (h:k<=q):bj ts (out.set k o) q=bj ts out q:=by
 unfold bj;exact List.map_congr_left λj hj=>qO (by have:=(f9 he hj).1;lia)
structure PI (ts:List Nd) (gap:Int) (m:Nat):Prop where
 l1:(PO ts gap m).1.length=ts.length
 l2:(PO ts gap m).2.length=ts.length
 lo:∀k,k<ts.length-m->ir (PO ts gap m).1 k=ini ts k
 hi:∀k,ts.length-m<=k->k<ts.length->ir (PO ts gap m).1 k=ini ts k++(if chN ts k=[] then [] else joB ts gap (PO ts gap m).1 k)
 ln:∀k,k<ts.length->1<=(ir (PO ts gap m).1 k).length/\(ir (PO ts gap m).1 k).length<=ts.length-k
 of:∀k,ts.length-m<=k->k<ts.length->∀i j,(chN ts k)[i]?=some j->gv (PO ts gap m).2 j=gv (stF gap (bj ts (PO ts gap m).1 k)) i
 z:gv (PO ts gap m).2 0=0
theorem ni {ts:List Nd} {gap:Int} {m k:Nat} (he:EL ts) (hl:ts.length<=100) (h:PI ts gap m) (hk:chN ts k≠[]):okO (bj ts (PO ts gap m).1 k):=by
 refine ⟨λos ho=>?_,?_,?_⟩
 ·unfold bj at ho
  obtain ⟨j,hj,rfl⟩:=List.mem_map.mp ho;have:=h.ln j (f9 he hj).2
  lia
 ·unfold bj
  rw [List.length_map];exact List.length_pos_iff.mpr hk
 ·unfold bj
  rw [List.length_map];have:=sE ts k
  lia
theorem tN {ts:List Nd} {gap:Int} {m k:Nat} (he:EL ts) (h:PI ts gap m) (hk:chN ts k≠[]):(joB ts gap (PO ts gap m).1 k).length<=ts.length-(k+1):=by
 unfold joB;rw [xB];have hne:bj ts (PO ts gap m).1 k≠[]:=by unfold bj;simp [hk]
 obtain ⟨_,⟨j,hj,ej⟩,_⟩:=pZ hne;rw [<-ej];unfold jI bj;unfold bj at hj;rw [List.length_map]at hj;rw [List.getElem?_map,List.getElem?_eq_getElem hj];show (ir _ (chN ts k)[j]).length<=_
 have g:=f9 he (List.getElem_mem hj);have:=(h.ln _ g.2).2
 lia
theorem m5 {ts:List Nd} (gap:Int) (he:EL ts) (h0:0<ts.length) (hl:ts.length<=100):∀m,m<=ts.length->PI ts gap m
 |0,_=>by
  have o:∀k,k<ts.length->ir (PO ts gap 0).1 k=ini ts k:=λk hk=>by
   unfold PO ir;rw [List.getElem?_map,List.getElem?_range hk];rfl
  refine ⟨by unfold PO;simp,by unfold PO;simp,λk hk=>o k (by lia),λk h1 h2=>by lia,λk hk=>?_,λk h1 h2=>by lia,?_⟩
  ·rw [o k hk]
   unfold ini;simp
   lia
  ·unfold PO gv
   rw [List.getElem?_replicate,if_pos h0];rfl
 |m+1,hm=>by
  have ih:=m5 gap he h0 hl m (by lia)
  obtain ⟨k0,hk0⟩:∃k0,k0=ts.length-1-m:=⟨_,rfl⟩;have hk0l:k0<ts.length:=by lia
  by_cases hc:chN ts k0=[]
  ·have e1:(PO ts gap (m+1)).1=(PO ts gap m).1:=by rw [PO,<-hk0,qI,if_pos hc]
   have e2:(PO ts gap (m+1)).2=(PO ts gap m).2:=by rw [PO,<-hk0,qS,if_pos hc]
   refine ⟨by rw [e1];exact ih.l1,by rw [e2];exact ih.l2,λk hk=>by rw [e1];exact ih.lo k (by lia),λk h1 h2=>?_,λk hk=>by rw [e1];exact ih.ln k hk,λk h1 h2 i j hj=>?_,by rw [e2];exact ih.z⟩
   ·rw [e1]
    by_cases hk:k=k0
    ·subst hk
     rw [ih.lo k (by lia),if_pos hc,List.append_nil]
    ·exact ih.hi k (by lia) h2
   ·rw [e1,e2]
    by_cases hk:k=k0
    ·subst hk
     rw [hc]at hj;simp at hj
    ·exact ih.of k (by lia) h2 i j hj
  ·have e1:(PO ts gap (m+1)).1=(PO ts gap m).1.set k0 (ir (PO ts gap m).1 k0++joB ts gap (PO ts gap m).1 k0):=by rw [PO,<-hk0,qI,if_neg hc]
   have e2:(PO ts gap (m+1)).2=di (PO ts gap m).2 (chN ts k0) (stF gap (bj ts (PO ts gap m).1 k0)):=by rw [PO,<-hk0,qS,if_neg hc]
   have bl:∀q,k0<=q->bj ts (PO ts gap (m+1)).1 q=bj ts (PO ts gap m).1 q:=λq hq=>by rw [e1];exact uM he hq
   have jb:∀q,k0<=q->joB ts gap (PO ts gap (m+1)).1 q=joB ts gap (PO ts gap m).1 q:=λq hq=>by unfold joB;rw [bl q hq]
   have self:ir (PO ts gap (m+1)).1 k0=ini ts k0++joB ts gap (PO ts gap m).1 k0:=by rw [e1,uZ (by rw [ih.l1];exact hk0l),ih.lo k0 (by lia)]
   have oth:∀k,k≠k0->ir (PO ts gap (m+1)).1 k=ir (PO ts gap m).1 k:=λk hk=>by rw [e1,qO (Ne.symm hk)]
   obtain ⟨⟨es,ls,hst⟩,_⟩:=pf (gap:=gap) (ni he hl ih hc);have sl:(chN ts k0).length=(stF gap (bj ts (PO ts gap m).1 k0)).length:=by rw [hst.lst];unfold bj;rw [List.length_map]
   refine ⟨by rw [e1,List.length_set];exact ih.l1,by rw [e2,jV];exact ih.l2,λk hk=>by rw [oth k (by lia)];exact ih.lo k (by lia),λk h1 h2=>?_,λk hk=>?_,λk h1 h2 i j hj=>?_,?_⟩
   ·by_cases hk:k=k0
    ·subst hk
     rw [self,if_neg hc,jb k (Nat.le_refl _)]
    ·rw [oth k hk,jb k (by lia)]
     exact ih.hi k (by lia) h2
   ·by_cases hk':k=k0
    ·subst hk'
     rw [self,List.length_append];have:=tN (gap:=gap) he ih hc;have:(ini ts k).length=1:=rfl
     lia
    ·rw [oth k hk']
     exact ih.ln k hk
   ·by_cases hk:k=k0
    ·subst hk
     rw [e2,bl k (Nat.le_refl _)];exact oN _ _ _ i j (vN ts k) (λc hc'=>by rw [ih.l2];exact (f9 he hc').2) sl hj
    ·rw [e2,bl k (by lia),iR _ _ _ j (λz=>?_)]
     ·exact ih.of k (by lia) h2 i j hj
     ·have a:=(bZ.mp (List.mem_of_getElem? hj)).2
      have b:=(bZ.mp z).2;rw [a]at b
      lia
   ·rw [e2,iR _ _ _ 0 (λz=>by have:=(f9 he z).1;lia)]
    exact ih.z
theorem ky {ch:List Nat} {j:Nat}:p7 (nD ch) j=true ↔ j∈ch:=by
 unfold p7 nD iL;rw [List.any_eq_true];constructor
 ·rintro ⟨d,hd,e⟩
  rw [List.map_map]at hd;obtain ⟨k,hk,rfl⟩:=List.mem_map.mp hd;have e':decide ((k:Int)=(j:Int))=true:=e;have:=of_decide_eq_true e';rw [show j=k by lia]
  exact hk
 ·intro h
  exact ⟨.int (j:Int),by rw [List.map_map];exact List.mem_map.mpr ⟨j,h,rfl⟩,decide_eq_true rfl⟩
theorem tK {ch:List Nat} {xs:List OD}:∀ch':List Nat,(∀j∈ch',j∈ch/\j<xs.length)->iC (fG (nD ch) 0 xs) (nD ch')=some (ch'.map λj=>(xs[j]?.map OD.er).getD .none)
 |[],_=>rfl
 |j :: r,h=>by
  have ih:=tK r λk hk=>h k (List.mem_cons_of_mem _ hk)
  obtain ⟨h1,h2⟩:=h j List.mem_cons_self;show iC (fG (nD ch) 0 xs) (.int (j:Int) :: nD r)=_
  unfold iC;have ix:ixN (fG (nD ch) 0 xs).length (j:Int)=some j:=iM (by rw [kl];exact h2)
  have gt:(fG (nD ch) 0 xs)[j]?=some (.sh (xs[j]).er):=by
   rw [i9,List.getElem?_eq_getElem h2];show some (if p7 (nD ch) (0+j)=true then OD.sh (xs[j]).er else xs[j])=_
   rw [Nat.zero_add,if_pos (ky.mpr h1)]
  rw [ix];show (match (fG (nD ch) 0 xs)[j]? with | some (.sh d)=>(iC (fG (nD ch) 0 xs) (nD r)).map λds=>d :: ds | _=>none)=_
  rw [gt];show (iC (fG (nD ch) 0 xs) (nD r)).map (λds=>(xs[j]).er :: ds)=_
  rw [ih,List.map_cons,List.getElem?_eq_getElem h2];rfl
noncomputable def pcs (q:Fs):Fs:=(aF (aR 2 (eOp eh (fJ (af (eC (.int 0)) av)) (eB dP (af (ae 0) av))))
 (aF (aR 3 (dr (gS (aM df (af (ae 0) av))) (gNm 0) eN (fJ (af (eSh (gk (af (eOp eh (eUn gG (eC (.int 256))) (ae 0)) (af (eOp eh (eC (.int 256)) (ae 0)) av)))) av)) 1 []))
 (aF (eP (iR3 (eOp dF (eB dP (af (ae 0) av)) (eC (.int 1))) (eUn gG (eC (.int 1))) (eUn gG (eC (.int 1)))) (gNm 4) (aF (aR 5 (eSh (aM dt (af (ae 0) (af (ae 4) av)))))
 (sIf (aW (eOp gGt (eB dP (af (ae 5) av)) (eC (.int 0)))) (aF (nq 3 5 (aR 6 (eSh (sA 3 5))))
 (aF (aR 7 (eSh (aM bh (af (ae 6) (af (ae 1) av)))))
 (aF (eP (iZp (ae 5) (ae 7)) (gTp 2 (cJ (gNm 8) (cJ (gNm 9) iX))) (pS 2 (ae 8) (ae 9)))
 (j7 3 (ae 4) (aM bN (af (ae 6) (af (ae 7) av))))))) sNx)))
 q)))
theorem qX (ts:List Nd) (gap:Int) (he:EL ts) (h0:0<ts.length) (hl:ts.length<=100) (hlab:∀n∈ts,n.l.length<=1000) :
  ∃(xs:List OD) (ys:List PyData) (v4 v5 v6 v7 v8 v9:Option OD),(∀q:Fs,pcs q [some (.sh (.list (aO ts))),some (.sh (.int gap)),none,none,none,none,none,none,none,none]=q [some (.sh (.list (aO ts))),some (.sh (.int gap)),some (.ol (bU (PO ts gap ts.length).2)),some (.ol xs),v4,v5,v6,v7,v8,v9])/\xs.map OD.er=cH (PO ts gap ts.length).1/\xs[0]?=some (.ol (ys.map OD.sh)):=by
 unfold pcs;have rp:=mm (.int 0) ts.length (by lia)
 have ri:(List.replicate ts.length (PyData.int 0)).map OD.sh=bU (List.replicate ts.length 0):=by unfold bU;simp only [List.map_replicate]
 have rs:((aV ts).map λz=>OD.sh (.int z)).map OD.er=(aV ts).map PyData.int:=by
  rw [List.map_map];exact List.map_congr_left λz _=>eM _
 have rl:(aV ts).length=ts.length:=by unfold aV;rw [List.length_map]
 push_cast only [b7,rp,ri,kf ts hlab hl,rs];generalize hC:bV _ _ _ _ _ _=rc
 have e:=et hC PyData.int (λz:Int=>.ol [.sh (.tuple [.int (-256 * z),.int (256 * z)])]) (aV ts) rfl (by rw [rl];exact of_eq_true (bM (by lia))) (by
  intro z hz;push_cast only [and_self])
 subst e;clear hC;obtain ⟨xs0,hx0⟩:∃xs0,xs0=(aV ts).map λz:Int=>OD.ol [.sh (.tuple [.int (-256 * z),.int (256 * z)])]:=⟨_,rfl⟩
 have x0:∀k,k<ts.length->xs0[k]?=some (.ol ((eO (ini ts k)).map OD.sh)):=λk hk=>by
  rw [hx0,List.getElem?_map,lH (by rw [rl];exact hk)]
  rfl
 have xe0:xs0.map OD.er=cH (PO ts gap 0).1:=by
  apply List.ext_getElem?
  intro k;unfold cH PO;rw [List.getElem?_map,List.map_map,List.getElem?_map];by_cases hk:k<ts.length
  ·rw [x0 k hk,List.getElem?_range hk]
   show some (OD.ol _).er=some _
   rw [oj,dk];rfl
  ·rw [List.getElem?_eq_none (by rw [hx0,List.length_map,rl];lia),List.getElem?_eq_none (by rw [List.length_range];lia)]
   rfl
 rw [<-hx0];have r3:=λ(ρ:L3.Env) (h1:(eOp dF (eB dP (af (ae 0) av)) (eC (.int 1))) ρ=.ok (.sh (.int ((ts.length:Int)-1))))=>Fu (fa:=eOp dF (eB dP (af (ae 0) av)) (eC (.int 1))) (fb:=eUn gG (eC (.int 1))) (fc:=eUn gG (eC (.int 1))) (ρ:=ρ) (x:=(ts.length:Int)-1) (y:=-1) (z:=-1) h1 rfl rfl rfl (g9 (by lia) (by lia)) (g9 (by decide) (by decide))
 have r4:=r3 [some (.sh (.list (aO ts))),some (.sh (.int gap)),some (.ol (bU (List.replicate ts.length 0))),some (.ol xs0),none,none,none,none,none,none] (by push_cast only [b7])
 push_cast only [r4];generalize hL:br _ _ _ _=r'
 refine cD hL (λm ρ=>∃(xs:List OD) (v4 v5 v6 v7 v8 v9:Option OD),xs.map OD.er=cH (PO ts gap m).1/\(∀k,k<ts.length-m->xs[k]?=some (.ol ((eO (ini ts k)).map OD.sh)))/\(∃ys:List PyData,xs[0]?=some (.ol (ys.map OD.sh)))/\ρ=[some (.sh (.list (aO ts))),some (.sh (.int gap)),some (.ol (bU (PO ts gap m).2)),some (.ol xs),v4,v5,v6,v7,v8,v9])
  ⟨xs0,_,_,_,_,_,_,xe0,λk hk=>x0 k (by lia),⟨_,x0 0 h0⟩,rfl⟩ ?_ ?_
 ·rintro m d ρ hd ⟨xs,v4,v5,v6,v7,v8,v9,xe,xo,⟨ys,xz⟩,rfl⟩
  obtain ⟨hm,rfl⟩:=qb hd;have hm2:m<ts.length:=by lia
  obtain ⟨k,hk⟩:∃k:Nat,k=ts.length-1-m:=⟨_,rfl⟩;have hkl:k<ts.length:=by lia
  have ek:(ts.length:Int)-1-(m:Int)=(k:Int):=by lia
  rw [ek];have ih:=m5 gap he h0 hl m (by lia)
  have ck:=qe ts k hkl hl;have xl:xs.length=ts.length:=by
   have:=congrArg List.length xe;rw [List.length_map,jD,ih.l1]at this;exact this
  by_cases hc:chN ts k=[]
  ·have l0:decide ((0:Int)<((nD (chN ts k)).length:Int))=false:=decide_eq_false (by rw [rq,hc];decide)
   have e1:(PO ts gap (m+1)).1=(PO ts gap m).1:=by rw [PO,<-hk,qI,if_pos hc]
   have e2:(PO ts gap (m+1)).2=(PO ts gap m).2:=by rw [PO,<-hk,qS,if_pos hc]
   push_cast only [ck,Ai,l0];rw [<-e2];exact ⟨xs,_,_,_,_,_,_,by rw [e1];exact xe,λq hq=>xo q (by lia),⟨ys,xz⟩,rfl⟩
  ·have l0:decide ((0:Int)<((nD (chN ts k)).length:Int))=true:=decide_eq_true (by
    rw [rq];have:=List.length_pos_iff.mpr hc
    lia)
   have e1:(PO ts gap (m+1)).1=(PO ts gap m).1.set k (ir (PO ts gap m).1 k++joB ts gap (PO ts gap m).1 k):=by rw [PO,<-hk,qI,if_neg hc]
   have e2:(PO ts gap (m+1)).2=di (PO ts gap m).2 (chN ts k) (stF gap (bj ts (PO ts gap m).1 k)):=by rw [PO,<-hk,qS,if_neg hc]
   have bok:=ni he hl ih hc;obtain ⟨⟨es,ls,hst⟩,hsf⟩:=pf (gap:=gap) bok;have jn:=u9 (bj ts (PO ts gap m).1 k) (stF gap (bj ts (PO ts gap m).1 k)) bok hst.lst;have bl:(bj ts (PO ts gap m).1 k).length=(chN ts k).length:=by unfold bj;rw [List.length_map]
   have cl:=sE ts k;have gt:iC (fG (nD (chN ts k)) 0 xs) (nD (chN ts k))=some (cH (bj ts (PO ts gap m).1 k)):=by
    rw [tK (chN ts k) λj hj=>⟨hj,by rw [xl];exact (f9 he hj).2⟩]
    refine congrArg some ?_;unfold bj cH;rw [List.map_map];refine List.map_congr_left λj hj=>?_
    have hjl:=(f9 he hj).2;have:=congrArg (λl=>l[j]?) xe
    simp only [List.getElem?_map]at this;have g:(PO ts gap m).1[j]?=some ((PO ts gap m).1[j]'(by rw [ih.l1];exact hjl)):=List.getElem?_eq_getElem _
    rw [this];show ((cH (PO ts gap m).1)[j]?).getD .none=PyData.list (eO (((PO ts gap m).1[j]?).getD []))
    unfold cH;rw [List.getElem?_map,g];rfl
   have jl:=tN (gap:=gap) he ih hc;generalize hst':stF gap (bj ts (PO ts gap m).1 k)=st at hst hsf jn e2
   have sl:(chN ts k).length=st.length:=by rw [hst.lst,bl]
   push_cast only [ck,Ai,l0];rw [Dy (xs:=xs) (ks:=nD (chN ts k)) rfl rfl];push_cast only [and_self];rw [Hl (i:=3) (c:=5) (xs:=fG (nD (chN ts k)) 0 xs) (ks:=nD (chN ts k)) rfl rfl gt (by rw [jD,bl];exact of_eq_true (bM (by lia)))]
   push_cast only [dk,hsf,bP];generalize hL2:br _ _ _ _=r2
   refine cD hL2 (λi ρ=>∃v8 v9:Option OD,ρ=[some (.sh (.list (aO ts))),some (.sh (.int gap)),some (.ol (bU (di (PO ts gap m).2 ((chN ts k).take i) (st.take i)))),some (.ol (fG (nD (chN ts k)) 0 xs)),some (.sh (.int k)),some (.sh (.list (nD (chN ts k)))),some (.sh (.list (cH (bj ts (PO ts gap m).1 k)))),some (.sh (.list (st.map PyData.int))),v8,v9]) ⟨_,_,by rw [List.take_zero,List.take_zero,di];intro _ _ _ _ h;cases h⟩ ?_ ?_
   ·rintro i d ρ hd ⟨v8,v9,rfl⟩
    obtain ⟨x,y,hx,hy,rfl⟩:=qy hd;unfold nD iL at hx;rw [List.map_map,List.getElem?_map]at hx;obtain ⟨j,hj,rfl⟩:=Option.map_eq_some_iff.mp hx;rw [List.getElem?_map]at hy;obtain ⟨s,hs,rfl⟩:=Option.map_eq_some_iff.mp hy;have jg:=(f9 he (List.mem_of_getElem? hj)).2;have ix:ixN (bU (di (PO ts gap m).2 ((chN ts k).take i) (st.take i))).length (j:Int)=some j:=iM (by rw [f6,jV,ih.l2];exact jg)
    push_cast only [Function.comp,vJ ix,mV];rw [take_snoc hj,take_snoc hs,lI _ _ _ _ _ (by rw [List.length_take,List.length_take,sl])]
    exact ⟨_,_,rfl⟩
   ·rintro ρ' rfl ⟨v8,v9,rfl⟩
    have zl:(lQ (nD (chN ts k)) (st.map PyData.int)).length=(chN ts k).length:=by
     unfold lQ;rw [List.length_map,List.length_zip,rq,List.length_map,<-sl,Nat.min_self]
    rw [zl,List.take_of_length_le (Nat.le_refl _),List.take_of_length_le (by lia),<-e2]
    have xk:(fG (nD (chN ts k)) 0 xs)[k]?=some (.ol ((eO (ini ts k)).map OD.sh)):=by
     rw [i9,xo k (by lia)]
     show some (if p7 (nD (chN ts k)) (0+k)=true then _ else _)=_
     rw [if_neg (λz=>by have:=(f9 he (ky.mp z)).1;lia)]
    have ex:=yl (i:=3) (k:=ae 4) (a:=aM bN (af (ae 6) (af (ae 7) av))) (ρ:=[some (.sh (.list (aO ts))),some (.sh (.int gap)),some (.ol (bU (PO ts gap (m+1)).2)),some (.ol (fG (nD (chN ts k)) 0 xs)),some (.sh (.int k)),some (.sh (.list (nD (chN ts k)))),some (.sh (.list (cH (bj ts (PO ts gap m).1 k)))),some (.sh (.list (st.map PyData.int))),v8,v9]) (xs:=fG (nD (chN ts k)) 0 xs) (ys:=(eO (ini ts k)).map OD.sh) (zs:=(eO (jo (bj ts (PO ts gap m).1 k) st)).map OD.sh) (z:=k) (j:=k) rfl rfl (iM (by rw [kl,xl];exact hkl)) xk (by push_cast only [jn]) (by
     rw [List.length_map,List.length_map,jj,jj];have jl2:(jo (bj ts (PO ts gap m).1 k) st).length<=ts.length-(k+1):=by
      unfold joB at jl;rw [hst']at jl;exact jl
     have:(ini ts k).length=1:=rfl;exact of_eq_true (bM (by lia)))
    push_cast only [and_self];rw [ex];push_cast only [and_self];have jb:joB ts gap (PO ts gap m).1 k=jo (bj ts (PO ts gap m).1 k) st:=by unfold joB;rw [hst']
    refine ⟨_,_,_,_,_,_,_,?_,λq hq=>?_,?_,rfl⟩
    ·rw [List.map_set,sW,xe,e1,ih.lo k (by lia),jb,oj]
     unfold cH eO;rw [List.map_set,List.map_append,List.map_append,dk,dk]
    ·rw [List.getElem?_set_ne (by lia),i9,xo q (by lia)]
     show some (if p7 (nD (chN ts k)) (0+q)=true then _ else _)=_
     rw [if_neg (λz=>by have:=(f9 he (ky.mp z)).1;lia)]
    ·by_cases hk0:k=0
     ·refine ⟨eO (ini ts k)++eO (jo (bj ts (PO ts gap m).1 k) st),?_⟩
      rw [List.map_append,show (0:Nat)=k from hk0.symm,List.getElem?_set_self (by rw [kl,xl];exact hkl)]
     ·refine ⟨ys,?_⟩
      rw [List.getElem?_set_ne hk0,i9,xz];show some (if p7 (nD (chN ts k)) (0+0)=true then _ else _)=_
      rw [if_neg (λz=>by have:=(f9 he (ky.mp z)).1;lia)]
 ·rintro ρ' rfl ⟨xs,v4,v5,v6,v7,v8,v9,xe,xo,⟨ys,xz⟩,rfl⟩
  rw [x8,show ((ts.length:Int)-1 - -1).toNat=ts.length by lia]at xe ⊢
  refine ⟨xs,ys,v4,v5,v6,v7,v8,v9,λq=>?_,xe,xz⟩
  push_cast only [and_self]
theorem uA (ts:List Nd) (gap:Int) (he:EL ts) (h0:0<ts.length) (hl:ts.length<=100) (hlab:∀n∈ts,n.l.length<=1000) :
  iA [.list (aO ts),.int gap]=.ok (.sh (.tuple [.list ((PO ts gap ts.length).2.map PyData.int),.list (cH (PO ts gap ts.length).1)])):=by
 obtain ⟨xs,ys,v4,v5,v6,v7,v8,v9,hq,xe,_⟩:=qX ts gap he h0 hl hlab;have e:jH=pcs (nT 3 (nT 2 (bR (gk (af (ae 2) (af (ae 3) av)))))):=rfl;unfold iA;rw [e];push_cast only [hq,oj,xe,bP]
noncomputable def je (ts:List Nd) (off:List Int):Nat->List Int
 |0=>[0]
 |i+1=>je ts off i++[gv (je ts off i) (eOf ts (i+1)).toNat+gv off (i+1)]
theorem gZ (ts:List Nd) (off:List Int):∀i,(je ts off i).length=i+1
 |0=>rfl
 |i+1=>by rw [je,List.length_append,gZ ts off i];rfl
theorem kS (ts:List Nd) (off:List Int) (m j:Nat) (h:j<=m):∀c,gv (je ts off (m+c)) j=gv (je ts off m) j
 |0=>rfl
 |c+1=>by
  rw [<-kS ts off m j h c,<-Nat.add_assoc,je];unfold gv;rw [List.getElem?_append_left (by rw [gZ];lia)]
noncomputable def AX (ts:List Nd) (gap:Int) (k:Nat):Int:=gv (PO ts gap ts.length).2 k
noncomputable def outF (ts:List Nd) (gap:Int) (k:Nat):Ol:=ir (PO ts gap ts.length).1 k
noncomputable def nP (ts:List Nd) (gap:Int):List Int:=je ts (PO ts gap ts.length).2 (ts.length-1)
noncomputable def pos (ts:List Nd) (gap:Int) (k:Nat):Int:=gv (nP ts gap) k
noncomputable def kT (ts:List Nd) (gap:Int):Int:=qC ((List.range ts.length).map λk=>pos ts gap k-256 * gv (aV ts) k)
noncomputable def drw (ts:List Nd) (gap:Int):List Int:=(nP ts gap).map λz=>z-kT ts gap
theorem nr {ts:List Nd} {gap:Int} (h0:0<ts.length):(nP ts gap).length=ts.length:=by unfold nP;rw [gZ];lia
theorem sN {ts:List Nd} {gap:Int} (h0:0<ts.length):(drw ts gap).length=ts.length:=by unfold drw;rw [List.length_map,nr h0]
theorem DR {ts:List Nd} {gap:Int} (h0:0<ts.length) {k:Nat} (hk:k<ts.length):gv (drw ts gap) k=pos ts gap k-kT ts gap:=by
 unfold drw pos;unfold gv;rw [List.getElem?_map,List.getElem?_eq_getElem (by rw [nr h0];exact hk)]
 rfl
theorem v_ {ts:List Nd} {gap:Int}:pos ts gap 0=0:=by
 unfold pos nP;have:=kS ts (PO ts gap ts.length).2 0 0 (Nat.le_refl _) (ts.length-1);rw [Nat.zero_add]at this;rw [this];rfl
theorem wU {ts:List Nd} {gap:Int} {k q:Nat} (he:EL ts) (h0:0<k) (hk:k<ts.length) (hq:eOf ts k=(q:Int)):pos ts gap k=pos ts gap q+AX ts gap k:=by
 have hqk:q<k:=by
  obtain ⟨n,hn⟩:∃n,ts[k]?=some n:=⟨ts[k],by simp [hk]⟩
  have:=(he k n hn).2.2;rw [fg hn]at hq
  lia
 obtain ⟨m,rfl⟩:∃m,k=m+1:=⟨k-1,by lia⟩
 unfold pos nP AX;have a:=kS ts (PO ts gap ts.length).2 (m+1) (m+1) (Nat.le_refl _) (ts.length-1-(m+1));have b:=kS ts (PO ts gap ts.length).2 m q (by lia) (ts.length-1-m)
 rw [show m+1+(ts.length-1-(m+1))=ts.length-1 by lia]at a
 rw [show m+(ts.length-1-m)=ts.length-1 by lia]at b
 rw [a,b,je,hq,Int.toNat_natCast]
 conv=>lhs;unfold gv
 rw [List.getElem?_append_right (by rw [gZ];lia),gZ,Nat.sub_self]
 rfl
theorem yp (ts:List Nd) (gap:Int) (h0:0<ts.length) (hl:ts.length<=100) (hlab:∀n∈ts,n.l.length<=1000) :
  du [.list (aO ts),.list ((nP ts gap).map PyData.int),.int 256]=.ok (.ol (bU (drw ts gap))):=by
 unfold du eL;have rs:((aV ts).map λz=>OD.sh (.int z)).map OD.er=(aV ts).map PyData.int:=by
  rw [List.map_map];exact List.map_congr_left λz _=>eM _
 have rl:(aV ts).length=ts.length:=by unfold aV;rw [List.length_map]
 have pl:=nr (gap:=gap) h0;push_cast only [bP,kf ts hlab hl,rs,xh pl rl];generalize hC:bV _ _ _ _ _ _=rc
 have e:=et hC (λk:Nat=>PyData.tuple [.int (gv (nP ts gap) k),.int (gv (aV ts) k)]) (λk=>.sh (.int (pos ts gap k-256 * gv (aV ts) k))) (List.range ts.length) rfl (by rw [List.length_range];exact of_eq_true (bM (by lia))) (by
  intro k hk;push_cast only [and_self];rfl)
 subst e;clear hC;rw [rE];have hm:=qH (xs:=(List.range ts.length).map λk=>pos ts gap k-256 * gv (aV ts) k) (λz=>by
  have:=congrArg List.length z;rw [List.length_map,List.length_range,List.length_nil]at this
  lia)
 have hm2:jq [.list (((List.range ts.length).map λk=>pos ts gap k-256 * gv (aV ts) k).map PyData.int)]=.ok (.sh (.int (kT ts gap))):=hm
 push_cast only [bP,hm2];generalize hC:bV _ _ _ _ _ _=rc
 have e:=et hC PyData.int (λz:Int=>.sh (.int (z-kT ts gap))) (nP ts gap) rfl (by rw [pl];exact of_eq_true (bM (by lia))) (by
  intro z hz;push_cast only [and_self])
 subst e;rw [rE];push_cast only [and_self];rfl
theorem qi (ts:List Nd) (gap:Int) (he:EL ts) (h0:0<ts.length) (hl:ts.length<=100) (hlab:∀n∈ts,n.l.length<=1000) :
  g7 [.list (aO ts),.int gap]=.ok (.ol (bU (drw ts gap))):=by
 unfold g7 kA;have pk:=uA ts gap he h0 hl hlab;have PI1:=m5 gap he h0 hl ts.length (Nat.le_refl _);have rs:((aV ts).map λz=>OD.sh (.int z)).map OD.er=(aV ts).map PyData.int:=by
  rw [List.map_map];exact List.map_congr_left λz _=>eM _
 have rl:(aV ts).length=ts.length:=by unfold aV;rw [List.length_map]
 have s1:aI 1=true:=g9 (by decide) (by decide)
 have s2:aI (ts.length:Int)=true:=g9 (by lia) (by lia)
 push_cast only [pk,b7,s1,s2,Bool.and_self];generalize hL:br _ _ _ _=r'
 refine cD hL (λi ρ=>∃v4:Option OD,ρ=[some (.sh (.list (aO ts))),some (.sh (.int gap)),some (.sh (.list ((PO ts gap ts.length).2.map PyData.int))),some (.ol (bU (je ts (PO ts gap ts.length).2 i))),v4]) ⟨_,rfl⟩ ?_ ?_
 ·rintro i d ρ hd ⟨v4,rfl⟩
  obtain ⟨hi,rfl⟩:=dv hd;have hi2:i+1<ts.length:=by lia
  have ei:(1:Int)+(i:Int)=((i+1:Nat):Int):=by lia
  rw [ei];obtain ⟨n,hn⟩:∃n,ts[i+1]?=some n:=⟨ts[i+1],by simp [hi2]⟩
  have el:=he (i+1) n hn;obtain ⟨k,hk⟩:∃k:Nat,n.e=(k:Int):=⟨n.e.toNat,by have:=el.2.1 (by lia);lia⟩
  have hki:k<i+1:=by have:=el.2.2;lia
  have g3:=wI hn;rw [hk]at g3;have g1:=iU (st:=je ts (PO ts gap ts.length).2 i) (j:=k) (by rw [gZ];lia)
  have g2:=iU (st:=(PO ts gap ts.length).2) (j:=i+1) (by rw [PI1.l2];lia)
  have lb:((bU (je ts (PO ts gap ts.length).2 i)).length<BIG)=True:=by rw [f6,gZ];exact gz (by lia)
  push_cast only [bP,g1,g2,g3,lb,iu];have e:je ts (PO ts gap ts.length).2 (i+1)=je ts (PO ts gap ts.length).2 i++[gv (je ts (PO ts gap ts.length).2 i) k+gv (PO ts gap ts.length).2 (i+1)]:=by rw [je,fg hn,hk,Int.toNat_natCast]
  rw [e];exact ⟨_,rfl⟩
 ·rintro ρ' rfl ⟨v4,rfl⟩
  rw [eU,show ((ts.length:Int)-1).toNat=ts.length-1 by lia]
  have pe:je ts (PO ts gap ts.length).2 (ts.length-1)=nP ts gap:=rfl;rw [pe];push_cast only [bP,yp ts gap h0 hl hlab]
theorem pC {ts:List Nd} (gap:Int) (he:EL ts) (h0:0<ts.length) (hl:ts.length<=100) {k:Nat} (hk:k<ts.length) :
  outF ts gap k=ini ts k++(if chN ts k=[] then [] else jo ((chN ts k).map (outF ts gap)) (stF gap ((chN ts k).map (outF ts gap)))) :=
 (m5 gap he h0 hl ts.length (Nat.le_refl _)).hi k (by lia) hk
theorem zi {ts:List Nd} (gap:Int) (he:EL ts) (h0:0<ts.length) (hl:ts.length<=100) {k i j:Nat} (hk:k<ts.length) (hj:(chN ts k)[i]?=some j) :
  AX ts gap j=gv (stF gap ((chN ts k).map (outF ts gap))) i :=
 (m5 gap he h0 hl ts.length (Nat.le_refl _)).of k (by lia) hk i j hj
theorem ql {ts:List Nd} (gap:Int) (he:EL ts) (h0:0<ts.length) (hl:ts.length<=100) {k:Nat} (hk:k<ts.length):1<=(outF ts gap k).length/\(outF ts gap k).length<=ts.length-k :=
 (m5 gap he h0 hl ts.length (Nat.le_refl _)).ln k hk
theorem my {ts:List Nd} (gap:Int) (he:EL ts) (h0:0<ts.length) (hl:ts.length<=100) {k:Nat} (hc:chN ts k≠[]):okO ((chN ts k).map (outF ts gap)) :=
 ni he hl (m5 gap he h0 hl ts.length (Nat.le_refl _)) hc
structure Part (ts us:List Nd) (j:Nat):Prop where
 le:j+us.length<=ts.length
 ch:∀i,i<us.length->(chN us i).map (j+·)=chN ts (j+i)
 e:∀i,0<i->i<us.length->eOf us i=eOf ts (j+i)-j
 r:∀i,i<us.length->gv (aV us) i=gv (aV ts) (j+i)
noncomputable def Dn (ts:List Nd):Nat->Nat->Nat->Prop
 |j,0,k=>k=j
 |j,l+1,k=>∃c,c∈chN ts j/\Dn ts c l k
theorem Dn.snoc {ts:List Nd} {q k:Nat} (hk:k∈chN ts q):∀{l j:Nat},Dn ts j l q->Dn ts j (l+1) k
 |0,j,h=>by
  have h:q=j:=h;subst h;exact ⟨k,hk,rfl⟩
 |l+1,j,⟨c,hc,h⟩=>⟨c,hc,Dn.snoc hk h⟩
structure IsOut (ts:List Nd) (f:Nat->Int) (j:Nat) (o:Ol):Prop where
 len:∀l,l<o.length ↔ ∃k,Dn ts j l k
 lo:∀l p,o[l]?=some p->(∃k,Dn ts j l k/\p.1=f k-256 * gv (aV ts) k-f j)/\∀k,Dn ts j l k->p.1<=f k-256 * gv (aV ts) k-f j
 hi:∀l p,o[l]?=some p->(∃k,Dn ts j l k/\p.2=f k+256 * gv (aV ts) k-f j)/\∀k,Dn ts j l k->f k+256 * gv (aV ts) k-f j<=p.2
theorem fj {ts:List Nd} (gap:Int) (he:EL ts) (h0:0<ts.length) (hl:ts.length<=100) {j i c:Nat} (hj:j<ts.length) (hc:(chN ts j)[i]?=some c):pos ts gap c=pos ts gap j+gv (stF gap ((chN ts j).map (outF ts gap))) i:=by
 have hm:=List.mem_of_getElem? hc;obtain ⟨c1,c2⟩:=bZ.mp hm;have:=(f9 he hm).1;rw [wU he (by lia) c1 c2,zi gap he h0 hl hj hc]
theorem mw {ts:List Nd} (gap:Int) (he:EL ts) (h0:0<ts.length) (hl:ts.length<=100):∀m j,j+m=ts.length->j<ts.length->IsOut ts (pos ts gap) j (outF ts gap j):=by
 intro m
 induction m using Nat.strongRecOn with
 |ind m ih =>
  intro j hjm hj;have ihc:∀c∈chN ts j,IsOut ts (pos ts gap) c (outF ts gap c):=λc hc=>by
   obtain ⟨c1,c2⟩:=f9 he hc;exact ih (ts.length-c) (by lia) c (by lia) c2
  have zero:∀p,(outF ts gap j)[0]?=some p->p=(-256 * gv (aV ts) j,256 * gv (aV ts) j):=λp hp=>by
   rw [pC gap he h0 hl hj]at hp;unfold ini at hp;simp at hp
   exact hp.symm
  by_cases hc:chN ts j=[]
  ·have e:outF ts gap j=ini ts j:=by rw [pC gap he h0 hl hj,if_pos hc,List.append_nil]
   have no:∀l k,¬Dn ts j (l+1) k:=λl k h=>by
    obtain ⟨c,c1,_⟩:=h;rw [hc]at c1;cases c1
   have l1:(outF ts gap j).length=1:=by rw [e];rfl
   have lt:∀l p,(outF ts gap j)[l]?=some p->l=0:=λl p hp=>by
    have:=(List.getElem?_eq_some_iff.mp hp).1
    lia
   refine ⟨λl=>?_,λl p hp=>?_,λl p hp=>?_⟩
   ·rw [l1]
    constructor
    ·intro h
     have:l=0:=by lia
     subst this;exact ⟨j,rfl⟩
    ·rintro ⟨k,hk⟩
     cases l with
     |zero=>lia
     |succ l=>exact absurd hk (no l k)
   ·have:=lt l p hp
    subst this;rw [zero p hp];exact ⟨⟨j,rfl,by show _=_;lia⟩,λk hk=>by have hk:k=j:=hk;subst hk;show -256 * _<=_;lia⟩
   ·have:=lt l p hp
    subst this;rw [zero p hp];exact ⟨⟨j,rfl,by show _=_;lia⟩,λk hk=>by have hk:k=j:=hk;subst hk;show _<=256 * _;lia⟩
  ·have hO:=my gap he h0 hl hc
   have e:outF ts gap j=ini ts j++jo ((chN ts j).map (outF ts gap)) (stF gap ((chN ts j).map (outF ts gap))):=by rw [pC gap he h0 hl hj,if_neg hc]
   have pc:=λi c (h:(chN ts j)[i]?=some c)=>fj gap he h0 hl hj h
   generalize hst:stF gap ((chN ts j).map (outF ts gap))=st at e pc
   have hne:(chN ts j).map (outF ts gap)≠[]:=by simp [hc]
   obtain ⟨_,⟨jm,jm1,jm2⟩,mx⟩:=pZ hne;have len1:(outF ts gap j).length=1+mxN ((chN ts j).map (outF ts gap)):=by rw [e,List.length_append,xB];rfl
   have lenO_at:∀i c,(chN ts j)[i]?=some c->jI ((chN ts j).map (outF ts gap)) i=(outF ts gap c).length:=λi c h=>by unfold jI;rw [List.getElem?_map,h];rfl
   have oA_at:∀i c l,(chN ts j)[i]?=some c->oA ((chN ts j).map (outF ts gap)) i l=((outF ts gap c)[l]?).getD (0,0):=λi c l h=>by unfold oA;rw [List.getElem?_map,h];rfl
   have th:∀l i,i∈there ((chN ts j).map (outF ts gap)) l ↔ ∃c,(chN ts j)[i]?=some c/\l<(outF ts gap c).length:=λl i=>by
    unfold there;rw [List.mem_filter,List.mem_range,decide_eq_true_eq,List.length_map];constructor
    ·rintro ⟨a,b⟩
     have g:(chN ts j)[i]?=some (chN ts j)[i]:=List.getElem?_eq_getElem a;exact ⟨_,g,by rw [<-lenO_at i _ g];exact b⟩
    ·rintro ⟨c,c1,c2⟩
     exact ⟨(List.getElem?_eq_some_iff.mp c1).1,by rw [lenO_at i c c1];exact c2⟩
   have succ:∀l p,(outF ts gap j)[l+1]?=some p->l<mxN ((chN ts j).map (outF ts gap))/\p=jl ((chN ts j).map (outF ts gap)) st l:=λl p hp=>by
    have hlt:=(List.getElem?_eq_some_iff.mp hp).1;rw [len1]at hlt;have h2:l<mxN ((chN ts j).map (outF ts gap)):=by lia
    refine ⟨h2,?_⟩;rw [e]at hp;unfold ini jo at hp;rw [List.cons_append,List.nil_append,List.getElem?_cons_succ,List.getElem?_map,List.getElem?_range h2]at hp;exact (Option.some.inj hp).symm
   refine ⟨λl=>?_,λl p hp=>?_,λl p hp=>?_⟩
   ·cases l with
    |zero=>exact ⟨λ_=>⟨j,rfl⟩,λ_=>by lia⟩
    |succ l =>
     rw [len1];constructor
     ·intro h
      have tn:=kF hne (show l<mxN ((chN ts j).map (outF ts gap)) by lia)
      obtain ⟨i,hi⟩:=List.exists_mem_of_ne_nil _ tn;obtain ⟨c,c1,c2⟩:=(th l i).mp hi;have cm:=List.mem_of_getElem? c1;obtain ⟨k,hk⟩:=((ihc c cm).len l).mp c2;exact ⟨k,c,cm,hk⟩
     ·rintro ⟨k,c,cm,hk⟩
      have c2:=((ihc c cm).len l).mpr ⟨k,hk⟩;obtain ⟨i,il,ie⟩:=List.getElem_of_mem cm;have:=mx i (by rw [List.length_map];exact il)
      rw [lenO_at i c (by rw [List.getElem?_eq_getElem il,ie])]at this
      lia
   ·cases l with
    |zero =>
     rw [zero p hp];exact ⟨⟨j,rfl,by show _=_;lia⟩,λk hk=>by have hk:k=j:=hk;subst hk;show -256 * _<=_;lia⟩
    |succ l =>
     obtain ⟨h2,rfl⟩:=succ l p hp;have tn:=kF hne h2;obtain ⟨s1,s2⟩:=ow (xs:=(there ((chN ts j).map (outF ts gap)) l).map λi=>gv st i+(oA ((chN ts j).map (outF ts gap)) i l).1) (λz=>tn (List.map_eq_nil_iff.mp z))
     refine ⟨?_,?_⟩
     ·obtain ⟨i,hi,ei⟩:=List.mem_map.mp s1
      obtain ⟨c,c1,c2⟩:=(th l i).mp hi;have cm:=List.mem_of_getElem? c1;obtain ⟨⟨k,k1,k2⟩,_⟩:=(ihc c cm).lo l _ (List.getElem?_eq_getElem c2);refine ⟨k,⟨c,cm,k1⟩,?_⟩;show qC _=_
      rw [<-ei,oA_at i c l c1,List.getElem?_eq_getElem c2];show gv st i+(outF ts gap c)[l].1=_
      rw [k2,pc i c c1]
      lia
     ·rintro k ⟨c,cm,hk⟩
      obtain ⟨i,il,ie⟩:=List.getElem_of_mem cm;have c1:(chN ts j)[i]?=some c:=by rw [List.getElem?_eq_getElem il,ie]
      have c2:=((ihc c cm).len l).mpr ⟨k,hk⟩;have q:=s2 _ (List.mem_map.mpr ⟨i,(th l i).mpr ⟨c,c1,c2⟩,rfl⟩);rw [oA_at i c l c1,List.getElem?_eq_getElem c2]at q;have q:qC _<=gv st i+(outF ts gap c)[l].1:=q;have:=((ihc c cm).lo l _ (List.getElem?_eq_getElem c2)).2 k hk;have pcc:=pc i c c1;show qC _<=_
      lia
   ·cases l with
    |zero =>
     rw [zero p hp];exact ⟨⟨j,rfl,by show _=_;lia⟩,λk hk=>by have hk:k=j:=hk;subst hk;show _<=256 * _;lia⟩
    |succ l =>
     obtain ⟨h2,rfl⟩:=succ l p hp;have tn:=kF hne h2;obtain ⟨s1,s2⟩:=fI (xs:=(there ((chN ts j).map (outF ts gap)) l).map λi=>gv st i+(oA ((chN ts j).map (outF ts gap)) i l).2) (λz=>tn (List.map_eq_nil_iff.mp z))
     refine ⟨?_,?_⟩
     ·obtain ⟨i,hi,ei⟩:=List.mem_map.mp s1
      obtain ⟨c,c1,c2⟩:=(th l i).mp hi;have cm:=List.mem_of_getElem? c1;obtain ⟨⟨k,k1,k2⟩,_⟩:=(ihc c cm).hi l _ (List.getElem?_eq_getElem c2);refine ⟨k,⟨c,cm,k1⟩,?_⟩;show jK _=_
      rw [<-ei,oA_at i c l c1,List.getElem?_eq_getElem c2];show gv st i+(outF ts gap c)[l].2=_
      rw [k2,pc i c c1]
      lia
     ·rintro k ⟨c,cm,hk⟩
      obtain ⟨i,il,ie⟩:=List.getElem_of_mem cm;have c1:(chN ts j)[i]?=some c:=by rw [List.getElem?_eq_getElem il,ie]
      have c2:=((ihc c cm).len l).mpr ⟨k,hk⟩;have q:=s2 _ (List.mem_map.mpr ⟨i,(th l i).mpr ⟨c,c1,c2⟩,rfl⟩);rw [oA_at i c l c1,List.getElem?_eq_getElem c2]at q;have q:gv st i+(outF ts gap c)[l].2<=jK _:=q;have:=((ihc c cm).hi l _ (List.getElem?_eq_getElem c2)).2 k hk;have pcc:=pc i c c1;show _<=jK _
      lia
noncomputable def lvN (ts:List Nd) (k:Nat):Nat:=((lvs ts)[k]?).getD 0
theorem d4 {ts:List Nd} (he:EL ts) {j c:Nat} (h:c∈chN ts j):lvN ts c=lvN ts j+1:=by
 obtain ⟨c1,c2⟩:=bZ.mp h;have hg:=(f9 he h).1;obtain ⟨n,hn⟩:∃n,ts[c]?=some n:=⟨ts[c],by simp [c1]⟩
 rw [fg hn]at c2;unfold lvN;rw [jz hn];show dN _ n=_
 unfold dN;rw [if_neg (by lia),c2,Int.toNat_natCast,<-kP,List.getElem?_take_of_lt hg]
theorem oz {ts:List Nd} (he:EL ts):∀{l j k:Nat},j<ts.length->Dn ts j l k->lvN ts k=lvN ts j+l/\j<=k/\k<ts.length
 |0,j,k,hj,h=>by
  have h:k=j:=h;subst h;exact ⟨rfl,Nat.le_refl _,hj⟩
 |l+1,j,k,hj,⟨c,hc,h⟩=>by
  have g:=f9 he hc;obtain ⟨a,b,d⟩:=oz he g.2 h;rw [d4 he hc]at a;exact ⟨by lia,by lia,d⟩
theorem sU {ts:List Nd} {c:F} (p:PT ts c) {j:Nat} (hj:j<ts.length):∃s,((ts.drop (j+1)).takeWhile (inB j)).length=s/\j+1+s<=ts.length/\(∀k,j<k->k<=j+s->(j:Int)<=eOf ts k) /\
  ∀b,b<ts.length->(j:Int)<=eOf ts b->eOf ts b<=((j+s:Nat):Int)->j<b/\b<=j+s:=by
 obtain ⟨s,q1,q2,q3,q4⟩:=Dw p hj;have at1:∀k,(ts.drop (j+1))[k]?=ts[j+1+k]?:=λk=>List.getElem?_drop
 refine ⟨s,x_ _ _ s (by rw [List.length_drop];lia) (λk hk x hx=>?_) (λx hx=>?_),q1,q2,q4⟩
 ·rw [at1]at hx
  have:=q2 (j+1+k) (by lia) (by lia)
  rw [fg hx]at this;exact decide_eq_true this
 ·rw [at1]at hx
  have hlt:=(List.getElem?_eq_some_iff.mp hx).1;have:=q3 hlt;rw [fg hx]at this;exact decide_eq_false (by lia)
theorem sk {ts:List Nd} (he:EL ts) {j s:Nat} (q:∀b,b<ts.length->(j:Int)<=eOf ts b->eOf ts b<=((j+s:Nat):Int)->j<b/\b<=j+s):∀{l i k:Nat},j<=i->i<=j+s->Dn ts i l k->k<=j+s
 |0,i,k,_,h,hd=>by
  have hd:k=i:=hd
  lia
 |l+1,i,k,h1,h2,⟨c,hc,hd⟩=>by
  obtain ⟨c1,c2⟩:=bZ.mp hc;have:=q c c1 (by lia) (by lia)
  exact sk he q (by lia) this.2 hd
theorem wJ {ts:List Nd} (he:EL ts) {j s:Nat} (hj:j+s<ts.length) (q:∀k,j<k->k<=j+s->(j:Int)<=eOf ts k) (k:Nat) (h1:j<=k) (h2:k<=j+s):∃l,Dn ts j l k:=by
 induction k using Nat.strongRecOn with
 |ind k ih =>
  by_cases hk:k=j
  ·exact ⟨0,hk⟩
  ·have e1:=q k (by lia) h2
   obtain ⟨n,hn⟩:∃n,ts[k]?=some n:=⟨ts[k]'(by lia),by simp⟩
   have lt:=(he k n hn).2.2;rw [<-fg hn]at lt;obtain ⟨x,hx⟩:∃x:Nat,eOf ts k=(x:Int):=⟨(eOf ts k).toNat,by lia⟩
   obtain ⟨l,hl⟩:=ih x (by lia) (by lia) (by lia)
   exact ⟨l+1,Dn.snoc (bZ.mpr ⟨by lia,hx⟩) hl⟩
structure IsUp (ts:List Nd) (f:Nat->Int) (j i:Nat) (o:Ol):Prop where
 len:∀l,l<o.length ↔ ∃k,k<i/\Dn ts j l k
 lo:∀l p,o[l]?=some p->(∃k,k<i/\Dn ts j l k/\p.1=f k-256 * gv (aV ts) k-f j)/\∀k,k<i->Dn ts j l k->p.1<=f k-256 * gv (aV ts) k-f j
 hi:∀l p,o[l]?=some p->(∃k,k<i/\Dn ts j l k/\p.2=f k+256 * gv (aV ts) k-f j)/\∀k,k<i->Dn ts j l k->f k+256 * gv (aV ts) k-f j<=p.2
theorem tm {ts:List Nd} {k:Nat} {n:Nd} (h:ts[k]?=some n):gv (aV ts) k=(n.l.length:Int) / 2:=by
 unfold gv aV;rw [List.getElem?_map,h];rfl
noncomputable def Dp (ts:List Nd) (d:Nat):Prop:=∀k,k<ts.length->lvN ts k<=d
theorem sM {ts us:List Nd} {k:Nat} (h:k<ts.length):lvN (ts++us) k=lvN ts k:=by
 unfold lvN;have:=kP (ts++us) ts.length;rw [List.take_left]at this;rw [<-this,List.getElem?_take_of_lt h]
theorem p_ {ts:List Nd} (he:EL ts) (h0:0<ts.length):lvN ts 0=0:=by
 obtain ⟨n,hn⟩:∃n,ts[0]?=some n:=⟨ts[0],by simp [h0]⟩
 unfold lvN;rw [jz hn];show dN _ n=0
 unfold dN;rw [if_pos ((he 0 n hn).1 rfl)]
theorem wD {deep:Nat} {ts:List Nd} {way:List Int} (g:Grown deep ts way):(∀(i:Nat) (x:Int),way[i]?=some x->lvN ts x.toNat=i)/\Dp ts deep:=by
 induction g with
 |@root n h e =>
  have z:lvN [n] 0=0:=by
   unfold lvN;rw [jz (ts:=[n]) (i:=0) rfl];show dN _ n=0
   unfold dN;rw [if_pos e]
  refine ⟨λi x hx=>?_,λk hk=>?_⟩
  ·have:i=0:=by
    have:=(List.getElem?_eq_some_iff.mp hx).1;simp at this
    lia
   subst this;have hx:(0:Int)=x:=by simpa using hx
   subst hx;exact z
  ·have:k=0:=by simp at hk;lia
   subst this;rw [z];exact Nat.zero_le _
 |@step ns way c n g h1 h2 h3 h4 h5 ih =>
  obtain ⟨i1,i2⟩:=ih;have ew:=g.way_lt n.e (List.mem_of_getElem? h5);have el:=i1 (c-1) n.e h5;have last:lvN (ns++[n]) ns.length=c:=by
   unfold lvN;rw [iF,List.getElem?_append_right (by rw [dq];exact Nat.le_refl _),dq,Nat.sub_self]
   show dN _ n=c
   unfold dN;rw [if_neg (by lia)]
   unfold lvN at el;rw [el]
   lia
  refine ⟨λi x hx=>?_,λk hk=>?_⟩
  ·by_cases hi:i<(way.take c).length
   ·rw [List.getElem?_append_left hi]at hx
    rw [List.length_take]at hi;rw [List.getElem?_take_of_lt (by lia)]at hx
    have xl:=g.way_lt x (List.mem_of_getElem? hx);rw [sM (by lia)]
    exact i1 i x hx
   ·rw [List.getElem?_append_right (by lia)]at hx
    have hl:=(List.getElem?_eq_some_iff.mp hx).1;rw [List.length_singleton]at hl;rw [List.length_take]at hi hl;have hi2:i=c:=by lia
    have hx:(ns.length:Int)=x:=by
     rw [List.length_take,show i-min c way.length=0 by lia]at hx
     simpa using hx
    subst hx;rw [Int.toNat_natCast,last,hi2]
  ·rw [List.length_append,List.length_singleton]at hk
   by_cases hkl:k<ns.length
   ·rw [sM hkl]
    exact i2 k hkl
   ·rw [show k=ns.length by lia,last]
    exact h3
noncomputable def fS:Fs:=(aF (aR 2 (eSh (eOp dJ (eSl so (ae 0) ki (jS (eC (.int 63)))) (eOp eh (fJ (af (eC (.int 0)) av)) (eB uW (af (eOp gEq (ae 0) (fJ av)) av))))))
 (aF (aR 3 (fJ av))
 (aF (sIf (aW (eOp gEq (eOp g8 (eOp gIx (ae 2) (eC (.int 0))) (eC (.int 2))) (eC (.int 1)))) (aF (aR 4 (eOp dJ (fJ (af (eOp xW (eOp gIx (ae 2) (eC (.int 0))) (eC (.int 2))) av)) (eSl so (ae 2) (jS (eC (.int 1))) ki)))
 (aF (eP (iR1 (ae 1)) (gNm 5) (aF (aR 6 (p8 (eOp g8 (ae 5) (eB dP (af (ae 4) av)))))
 (aF (ji 3 (p8 (eOp g8 (eOp gIx (ae 4) (ae 6)) (eOp xZ (eC (.int 10)) (eC (.int 30))))))
 (pS 4 (ae 6) (p8 (eOp xW (eOp gIx (ae 4) (ae 6)) (eOp xZ (eC (.int 10)) (eC (.int 30)))))))))
 (gD 3))) sNx)
 (aF (eP (iR1 (ae 1)) (gNm 5) (aF (aR 7 (eOp gIx (ae 2) (eOp g8 (ae 5) (eB dP (af (ae 2) av)))))
 (aF (aR 8 (eOp g8 (eOp dJ (eOp dJ (eOp dJ (eOp eh (ae 7) (eC (.int 48271))) (eOp eh (eOp eh (ae 5) (ae 5)) (eC (.int 16807)))) (eOp eh (eC (.int 7919)) (ae 5))) (eC (.int 5))) (eC (.int 2147483647))))
 (aF (aR 9 (eOp g8 (eOp dJ (eOp eh (ae 8) (ae 8)) (eOp eh (ae 5) (eC (.int 39373)))) (eC (.int 2147483629))))
 (ji 3 (eOp dJ (eOp eh (eOp g8 (eOp eh (ae 8) (ae 9)) (eC (.int 2147483587))) (eC (.int 2147483629))) (ae 9)))))))
 (gD 3)))))
noncomputable def d5:Fn:=cw 2 10 fS
noncomputable def eY:Fs:=(aF (aR 2 (eC (.str "abcdefghijklmnopqrstuvwxyz")))
 (aF (aR 3 (eC (.str "")))
 (aF (eP (iR1 (ae 1)) (gNm 4) (aF (aR 3 (eOp dJ (ae 3) (eOp gIx (ae 2) (eOp g8 (ae 0) (eC (.int 26))))))
 (aR 0 (eOp lS (ae 0) (eC (.int 26))))))
 (bR (ae 3)))))
noncomputable def dY:Fn:=cw 2 5 eY
noncomputable def eX:Fs:=(bR (aM dY (af (eOp lS (ae 0) (ae 1)) (af (eOp dJ (eC (.int 1)) (eOp g8 (ae 0) (ae 1))) av))))
noncomputable def dW:Fn:=cw 2 2 eX
noncomputable def fw:Fs:=(aF (aR 5 (fJ av))
 (aF (aR 6 (eSh (fJ av)))
 (aF (eP (iR1 (ae 2)) (gNm 7) (aF (aR 8 (eOp gIx (ae 0) (eOp dJ (ae 1) (ae 7))))
 (aF (aR 9 (eOp dJ (eC (.int 1)) (eOp g8 (ae 8) (eC (.int 9)))))
 (aF (aR 8 (eOp lS (ae 8) (eC (.int 9))))
 (aF (aR 10 (eUn gG (eC (.int 1))))
 (aF (sIf (aW (eOp gGt (ae 7) (eC (.int 0)))) (aF (aR 11 (eOp dJ (eC (.int 1)) (eOp g8 (ae 8) (eB dP (af (ae 6) av)))))
 (aF (sIf (aW (eOp gEq (eOp g8 (eOp lS (ae 8) (eB dP (af (ae 6) av))) (eC (.int 3))) (eC (.int 0)))) (aR 11 (eB dP (af (ae 6) av))) sNx)
 (aF (aR 8 (eOp lS (ae 8) (eOp eh (eC (.int 3)) (eB dP (af (ae 6) av)))))
 (aF (aR 6 (eSh (eSl so (ae 6) ki (jS (eB lF (af (ae 11) (af (ae 4) av)))))))
 (aR 10 (eOp gIx (ae 6) (eUn gG (eC (.int 1))))))))) sNx)
 (aF (ji 5 (eSh (gk (af (ae 10) (af (eSh (aM dW (af (ae 8) (af (ae 3) av)))) (af (ae 9) av))))))
 (aR 6 (eSh (eOp dJ (ae 6) (fJ (af (ae 7) av))))))))))))
 (gD 5))))
noncomputable def dC:Fn:=cw 5 12 fw
theorem vL {ns:List Int} (h:ns≠[]):gEq (.list (ns.map PyData.int)) (.list [])=.ok (.sh (.bool false)):=by
 cases ns with
 |nil=>exact absurd rfl h
 |cons a as =>
  unfold gEq;rw [qW];unfold jr;rw [fH (lay_ints (a :: as)) (by decide),show SeqAt.shaped (.list [])=true from fH (lay_ints []) (by decide),Bool.and_self,if_pos rfl]
  rfl
theorem vX (ns:List Int) (hn:ns.length<=63):∃cs:List Int,cs≠[]/\cs.length<=63/\unK (λx=>R.ok (OD.sh x.er)) (opK dJ (R.ok (OD.ol (List.map OD.sh (cutD (List.map PyData.int ns) none (some 63))))) (opK eh (R.ok (OD.ol [OD.sh (PyData.int 0)])) (unK (λxs=>uW (List.map OD.er xs)) (wB (gEq (PyData.list (List.map PyData.int ns)) (PyData.list [])) (R.ok [])))))=.ok (.sh (.list (cs.map PyData.int))):=by
 have ct:cutD (ns.map PyData.int) none (some 63)=ns.map PyData.int:=by
  have:=m6 (ns.map PyData.int) 63;rw [List.take_of_length_le (by rw [List.length_map];exact hn)]at this
  exact this
 by_cases h:ns=[]
 ·subst h
  refine ⟨[0],by simp,by decide,?_⟩
  have m1:=mm (.int 0) 1 (by decide)
  have m1:eh (.list [.int 0]) (.int 1)=.ok (.ol [.sh (.int 0)]):=m1;have ge:=xN (lay_ints []);have ge:gEq (.list []) (.list [])=.ok (.sh (.bool true)):=ge;have ct:cutD [] none (some 63)=[]:=ct;push_cast only [ct,ge,m1,dk,List.map_nil]
 ·refine ⟨ns,h,hn,?_⟩
  have m0:=mm (.int 0) 0 (by decide)
  have m0:eh (.list [.int 0]) (.int 0)=.ok (.ol []):=m0;have lb:=bM (show ns.length<=1000 by lia)
  push_cast only [ct,vL h,m0,dk,List.append_nil,Nat.add_zero,lb]
theorem wK {cs:List Int} (h:cs≠[]) (i:Nat):∃j,j<cs.length/\(i:Int) % (cs.length:Int)=(j:Int)/\atI (cs.map PyData.int) (j:Int)=some (.int (gv cs j)):=by
 have hl:0<cs.length:=List.length_pos_iff.mpr h;have hb:=eD (i:Int) (show (0:Int)<(cs.length:Int) by lia)
 refine ⟨((i:Int) % (cs.length:Int)).toNat,by lia,by lia,int_at (lH (by lia))⟩
theorem wX (ns:List Int) (hn:ns.length<=63) (many:Nat) (hm:many<=1000):∃ds:List Int,ds.length=many/\(∀z∈ds,0<=z/\z<1000000000000000000000000000000)/\d5 [.list (ns.map PyData.int),.int many]=.ok (.ol (bU ds)):=by
 obtain ⟨cs,c0,c1,hc⟩:=vX ns hn;have hl:0<cs.length:=List.length_pos_iff.mpr c0;have a0:=int_at (lH (ls:=cs) (k:=0) hl);rw [Int.natCast_zero]at a0;have sm:aI (many:Int)=true:=g9 (by lia) (by lia)
 unfold d5 fS;push_cast only [and_self];rw [hc];by_cases hodd:gv cs 0 % 2=1
 ·obtain ⟨l0,l1,hl0⟩:∃l0:List Int,l0.length=cs.length/\∀(x:Int),PyData.int x :: (cs.map PyData.int).drop 1=(x :: cs.drop 1).map PyData.int:=⟨cs,rfl,λx=>by rw [List.map_cons,List.map_drop]⟩
  have cf:=x5 (cs.map PyData.int) 1 (by rw [List.length_map];lia)
  have cf:cutD (cs.map PyData.int) (some 1) none=(cs.map PyData.int).drop 1:=cf;have lb:=bM (show 1+(cs.drop 1).length<=1000 by rw [List.length_drop];lia)
  have p2:(0:Int)<2:=by decide
  push_cast only [a0,decide_eq_true hodd,Aa,cf,dk,<-List.map_drop,lb,sm,x6];rw [Int.toNat_natCast];generalize hL:br _ _ _ _=r'
  refine cD hL (λi ρ=>∃(fs ls:List Int) (v5 v6:Option OD),fs.length=i/\(∀z∈fs,0<=z/\z<1000000000000000000000000000000)/\ls.length=cs.length/\ρ=[some (.sh (.list (ns.map PyData.int))),some (.sh (.int many)),some (.sh (.list (cs.map PyData.int))),some (.ol (bU fs)),some (.ol (bU ls)),v5,v6,none,none,none])
   ⟨[],gv cs 0 / 2 :: cs.drop 1,_,_,rfl,(λz h=>by cases h),by rw [List.length_cons,List.length_drop];lia,rfl⟩ ?_ ?_
  ·rintro i d ρ hd ⟨fs,ls,v5,v6,hf,hb,hll,rfl⟩
   obtain ⟨hi,rfl⟩:=dv hd;rw [Int.zero_add];obtain ⟨j,j1,j2,j3⟩:=wK (cs:=ls) (λz=>by rw [z]at hll;simp at hll;lia) i
   have lp:(0:Int)<(ls.length:Int):=by lia
   have na:((10:Int).natAbs<18446744073709551616)=True:=by decide
   have lb:((bU fs).length<BIG)=True:=by rw [f6];exact gz (by lia)
   have ix:ixN (bU ls).length (j:Int)=some j:=iM (by rw [f6];exact j1)
   push_cast only [bP,lp,j2,j3,na,lb,Aa,vJ ix,mV,iu];refine ⟨_,_,_,_,?_,?_,?_,rfl⟩
   ·rw [List.length_append,hf]
    rfl
   ·intro z hz
    rcases List.mem_append.mp hz with h | h
    ·exact hb z h
    ·rw [List.mem_singleton]at h
     subst h;exact eD _ (by decide)
   ·rw [List.length_set]
    exact hll
  ·rintro ρ' rfl ⟨fs,ls,v5,v6,hf,hb,hll,rfl⟩
   rw [eU]at hf;exact ⟨fs,hf,hb,by push_cast only [and_self]⟩
 ·push_cast only [a0,decide_eq_false hodd,sm]
  rw [Int.toNat_natCast];generalize hL:br _ _ _ _=r'
  refine cD hL (λi ρ=>∃(fs:List Int) (v5 v7 v8 v9:Option OD),fs.length=i/\(∀z∈fs,0<=z/\z<1000000000000000000000000000000)/\ρ=[some (.sh (.list (ns.map PyData.int))),some (.sh (.int many)),some (.sh (.list (cs.map PyData.int))),some (.ol (bU fs)),none,v5,none,v7,v8,v9])
   ⟨[],_,_,_,_,rfl,(λz h=>by cases h),rfl⟩ ?_ ?_
  ·rintro i d ρ hd ⟨fs,v5,v7,v8,v9,hf,hb,rfl⟩
   obtain ⟨hi,rfl⟩:=dv hd;rw [Int.zero_add];obtain ⟨j,j1,j2,j3⟩:=wK c0 i;have lp:(0:Int)<(cs.length:Int):=by lia
   have lb:((bU fs).length<BIG)=True:=by rw [f6];exact gz (by lia)
   have ci:∀z:Int,iq (i:Int) z=true:=λz=>vg (by lia) (by lia)
   have ci2:∀z:Int,iq z (i:Int)=true:=λz=>FH (by lia) (by lia)
   generalize hone:(gv cs j * 48271+(i:Int) * (i:Int) * 16807+7919 * (i:Int)+5) % 2147483647=one
   have h1:=eD (gv cs j * 48271+(i:Int) * (i:Int) * 16807+7919 * (i:Int)+5) (show (0:Int)<2147483647 by decide)
   rw [hone]at h1;have co:∀z:Int,iq one z=true:=λz=>vg (by lia) (by lia)
   generalize hoth:(one * one+(i:Int) * 39373) % 2147483629=oth
   have h2:=eD (one * one+(i:Int) * 39373) (show (0:Int)<2147483629 by decide)
   rw [hoth]at h2;have h3:=eD (one * oth) (show (0:Int)<2147483587 by decide)
   push_cast only [lp,j2,j3,lb,ci,ci2,hone,co,hoth,iu];refine ⟨_,_,_,_,_,?_,?_,rfl⟩
   ·rw [List.length_append,hf]
    rfl
   ·intro z hz
    rcases List.mem_append.mp hz with h | h
    ·exact hb z h
    ·rw [List.mem_singleton]at h
     subst h
     lia
  ·rintro ρ' rfl ⟨fs,v5,v7,v8,v9,hf,hb,rfl⟩
   rw [eU]at hf;exact ⟨fs,hf,hb,by push_cast only [and_self]⟩
theorem sr (z:Int) (n:Nat) (h1:1<=n) (h9:n<=9):∃l,vS l/\dY [.int z,.int (n:Int)]=.ok (.sh (.str l)):=by
 unfold dY eY;obtain ⟨f,hf⟩:∃f:Int->Nat,∀y:Int,atI (Str.ofString "abcdefghijklmnopqrstuvwxyz").cps.toList (y % 26)=some (f y)/\(97<=f y/\f y<=122) :=
  ⟨λy=>Classical.choose (vU _ (eD y (show (0:Int)<26 by decide)).1 (eD y (by decide)).2),λy=>Classical.choose_spec (vU _ (eD y (show (0:Int)<26 by decide)).1 (eD y (by decide)).2)⟩
 have s1:aI (n:Int)=true:=g9 (by lia) (by lia)
 push_cast only [s1];generalize hL:br _ _ _ _=r
 refine cD hL (λi ρ=>∃(l:Str) (y:Int) (v:Option OD),ρ=[some (.sh (.int y)),some (.sh (.int n)),some (.sh (.str (Str.ofString "abcdefghijklmnopqrstuvwxyz"))),some (.sh (.str l)),v]/\l.length=i/\∀c∈l.cps.toList,97<=c/\c<=122) ⟨_,_,_,rfl,rfl,λc hc=>by cases hc⟩ ?_ ?_
 ·rintro i d ρ hd ⟨l,y,v,rfl,hl,hc⟩
  obtain ⟨hi,rfl⟩:=dv hd;rw [Int.toNat_natCast]at hi;have ec:=(hf y).1;have c1:=(hf y).2.1;have c2:=(hf y).2.2;generalize f y=c at ec c1 c2
  have k3:((Str.ofString "abcdefghijklmnopqrstuvwxyz").length<=BIG)=True:=by decide +kernel
  have k4:(l.length+(⟨#[c]⟩:Str).length<=BIG)=True:=bM (by rw [hl];show i+1<=1000;lia)
  push_cast only [k3,k4,ec,Option.map_some];refine ⟨_,_,_,rfl,by rw [xf,hl],λd hd=>?_⟩
  rw [tY,List.mem_append]at hd;rcases hd with hd | hd
  ·exact hc d hd
  ·have:d=c:=by simpa using hd
   lia
 ·rintro ρ' rfl ⟨l,y,v,rfl,hl,hc⟩
  rw [eU,Int.toNat_natCast]at hl;push_cast only [and_self];exact ⟨l,⟨by lia,by lia,hc⟩,rfl⟩
theorem ny (z m:Int) (m1:1<=m) (m2:m<=9):∃l,vS l/\dW [.int z,.int m]=.ok (.sh (.str l)):=by
 unfold dW eX;have hm:=eD z (show 0<m by lia)
 obtain ⟨n,hn⟩:∃n:Nat,1+z % m=(n:Int):=⟨(1+z % m).toNat,by lia⟩
 obtain ⟨l,h1,h2⟩:=sr (z / m) n (by lia) (by lia)
 have p0:(0:Int)<m:=by lia
 have p1:(m<1073741824)=True:=eq_true (by lia)
 exact ⟨l,h1,by push_cast only [p0,p1,hn,h2]⟩
theorem u5 (ds:List Int) (st many:Nat) (most deep:Int) (hds:st+many<=ds.length) (n0:1<=many) (n1:many<=900) (m0:1<=most) (m1:most<=9) (d0:1<=deep) (d1:deep<=1000) :
  ∃ts way,Grown deep.toNat ts way/\ts.length=many/\dC [.list (ds.map PyData.int),.int (st:Int),.int (many:Int),.int most,.int deep]=.ok (.ol ((aO ts).map OD.sh)):=by
 unfold dC fw;have s62:aI (many:Int)=true:=g9 (by lia) (by lia)
 push_cast only [s62];generalize hL:br _ _ _ _=r
 refine cD hL (λi ρ=>∃(ts:List Nd) (way:List Int) (v7 v8 v9 v10 v11:Option OD),ρ=[some (.sh (.list (ds.map PyData.int))),some (.sh (.int st)),some (.sh (.int many)),some (.sh (.int most)),some (.sh (.int deep)),some (.ol ((aO ts).map OD.sh)),some (.sh (.list (way.map PyData.int))),v7,v8,v9,v10,v11]/\ts.length=i/\way.length<=i/\((i=0/\ts=[]/\way=[])\/(0<i/\Grown deep.toNat ts way)))
  ⟨[],[],_,_,_,_,_,rfl,rfl,Nat.le_refl _,.inl ⟨rfl,rfl,rfl⟩⟩ ?_ ?_
 ·rintro i d ρ hd ⟨ts,way,v7,v8,v9,v10,v11,rfl,hti,hwi,hg⟩
  obtain ⟨hi,rfl⟩:=dv hd;rw [Int.toNat_natCast]at hi;rw [Int.zero_add];have esi:(st:Int)+(i:Int)=((st+i:Nat):Int):=by lia
  have gy:=iU (st:=ds) (j:=st+i) (by lia)
  generalize gv ds (st+i)=y at gy
  have hq:=eD y (show (0:Int)<9 by decide)
  have lb:((aO ts).length<BIG)=True:=by rw [b7];exact gz (by lia)
  by_cases h0:(0:Int)<(i:Int)
  ·have hg':Grown deep.toNat ts way:=by
    rcases hg with hg | hg
    ·lia
    ·exact hg.2
   have wp:=hg'.pos.2;have wl:(0:Int)<way.length:=by lia
   have wl2:((way.length:Int)<1073741824)=True:=eq_true (by lia)
   have wl3:(0<3 * (way.length:Int))=True:=eq_true (by lia)
   have wl4:(3 * (way.length:Int)<1073741824)=True:=eq_true (by lia)
   have hr:=eD (y / 9) wl;obtain ⟨l,hl,el⟩:=ny (y / 9 / (3 * (way.length:Int))) most m0 m1;have fin:∀c:Nat,1<=c->c<=way.length->c<=deep.toNat->∀(e:Int),way[c-1]?=some e->Grown deep.toNat (ts++[⟨e,l,1+y % 9⟩]) (way.take c++[(ts.length:Int)]):=λc c1 c2 c3 e he =>
    Grown.step hg' c1 c2 c3 ⟨hl,by show 1<=1+_;lia,by show 1+_<=9;lia⟩ he
   have lw:∀c:Nat,((way.take c).length+1<=BIG)=True:=λc=>bM (by rw [List.length_take];lia)
   by_cases h3:y / 9 / (way.length:Int) % 3=0
   ·obtain ⟨c,hc⟩:∃c:Nat,(if deep<(way.length:Int) then deep else (way.length:Int))=(c:Int):=⟨(if deep<(way.length:Int) then deep else (way.length:Int)).toNat,by split <;> lia⟩
    obtain ⟨c1,c2,c3⟩:1<=c/\c<=way.length/\c<=deep.toNat:=by split at hc <;> lia
    obtain ⟨e,he,hat⟩:=oF c1 c2;push_cast only [esi,gy,el,wl,wl2,wl3,wl4,decide_eq_true h0,decide_eq_true h3,hc,m6,<-List.map_take,dk,hat,lb,lw];have t1:=mQ ts ⟨e,l,1+y % 9⟩;have t2:(aO ts).map OD.sh++[OD.sh (.tuple [.int e,.str l,.int (1+y % 9)])]=(aO (ts++[⟨e,l,1+y % 9⟩])).map OD.sh:=by rw [t1,List.map_append];rfl
    have w1:(way.take c).map PyData.int++[PyData.int (i:Int)]=(way.take c++[(ts.length:Int)]).map PyData.int:=by rw [List.map_append,hti];rfl
    rw [t2,w1];exact ⟨_,_,_,_,_,_,_,rfl,by rw [List.length_append,hti];rfl,by rw [List.length_append,List.length_take,List.length_singleton];lia,.inr ⟨Nat.succ_pos _,fin c c1 c2 c3 e he⟩⟩
   ·obtain ⟨c,hc⟩:∃c:Nat,(if deep<1+y / 9 % (way.length:Int) then deep else 1+y / 9 % (way.length:Int))=(c:Int):=⟨(if deep<1+y / 9 % (way.length:Int) then deep else 1+y / 9 % (way.length:Int)).toNat,by split <;> lia⟩
    obtain ⟨c1,c2,c3⟩:1<=c/\c<=way.length/\c<=deep.toNat:=by split at hc <;> lia
    obtain ⟨e,he,hat⟩:=oF c1 c2;push_cast only [esi,gy,el,wl,wl2,wl3,wl4,decide_eq_true h0,decide_eq_false h3,hc,m6,<-List.map_take,dk,hat,lb,lw];have t1:=mQ ts ⟨e,l,1+y % 9⟩;have t2:(aO ts).map OD.sh++[OD.sh (.tuple [.int e,.str l,.int (1+y % 9)])]=(aO (ts++[⟨e,l,1+y % 9⟩])).map OD.sh:=by rw [t1,List.map_append];rfl
    have w1:(way.take c).map PyData.int++[PyData.int (i:Int)]=(way.take c++[(ts.length:Int)]).map PyData.int:=by rw [List.map_append,hti];rfl
    rw [t2,w1];exact ⟨_,_,_,_,_,_,_,rfl,by rw [List.length_append,hti];rfl,by rw [List.length_append,List.length_take,List.length_singleton];lia,.inr ⟨Nat.succ_pos _,fin c c1 c2 c3 e he⟩⟩
  ·obtain ⟨i0,rfl,rfl⟩:i=0/\ts=[]/\way=[]:=by
    rcases hg with hg | hg
    ·exact hg
    ·lia
   obtain ⟨l,hl,el⟩:=ny (y / 9) most m0 m1;push_cast only [esi,gy,el,decide_eq_false h0,dk,lb];subst i0;exact ⟨[⟨-1,l,1+y % 9⟩],[0],_,_,_,_,_,rfl,rfl,by decide,.inr ⟨Nat.succ_pos _,Grown.root ⟨hl,by show 1<=1+_;lia,by show 1+_<=9;lia⟩ rfl⟩⟩
 ·rintro ρ' rfl ⟨ts,way,v7,v8,v9,v10,v11,rfl,hti,hwi,hg⟩
  rw [eU,Int.toNat_natCast]at hti hg;rcases hg with hg | hg
  ·lia
  ·push_cast only [and_self]
   exact ⟨ts,way,hg.2,hti,rfl⟩
noncomputable def kK:Fs:=(bR (eOp gGe (ae 0) (eC (.int 4))))
noncomputable def jd:Fn:=cw 1 1 kK
noncomputable def eE:Fs:=(bR (ae 1))
noncomputable def ax:Fn:=cw 2 2 eE
noncomputable def fU:Fs:=(bR (gk (af (eOp gIx (ae 1) (eC (.int 1))) (af (eOp gIx (ae 1) (eC (.int 0))) av))))
noncomputable def aG:Fn:=cw 2 2 fU
noncomputable def fR:Fs:=(aF (aR 3 (eOp eh (eOp dF (eOp gIx (ae 1) (eC (.int 0))) (eOp gIx (ae 0) (eC (.int 0)))) (eOp dF (eOp gIx (ae 2) (eC (.int 1))) (eOp gIx (ae 0) (eC (.int 1))))))
 (bR (eOp dF (ae 3) (eOp eh (eOp dF (eOp gIx (ae 1) (eC (.int 1))) (eOp gIx (ae 0) (eC (.int 1)))) (eOp dF (eOp gIx (ae 2) (eC (.int 0))) (eOp gIx (ae 0) (eC (.int 0))))))))
noncomputable def aQ:Fn:=cw 3 4 fR
noncomputable def fP:Fs:=(bR (eOr (eOp gLt (eOp gIx (ae 0) (eC (.int 2))) (eOp gIx (ae 1) (eC (.int 0)))) (eOr (eOp gLt (eOp gIx (ae 1) (eC (.int 2))) (eOp gIx (ae 0) (eC (.int 0)))) (eOr (eOp gLt (eOp gIx (ae 0) (eC (.int 3))) (eOp gIx (ae 1) (eC (.int 1)))) (eOp gLt (eOp gIx (ae 1) (eC (.int 3))) (eOp gIx (ae 0) (eC (.int 1))))))))
noncomputable def bE:Fn:=cw 2 2 fP
noncomputable def fL:Fs:=(bR (gk (af (eB lF (af (eOp gIx (ae 0) (eC (.int 0))) (af (eOp gIx (ae 1) (eC (.int 0))) av))) (af (eB lF (af (eOp gIx (ae 0) (eC (.int 1))) (af (eOp gIx (ae 1) (eC (.int 1))) av))) (af (eB mP (af (eOp gIx (ae 0) (eC (.int 0))) (af (eOp gIx (ae 1) (eC (.int 0))) av))) (af (eB mP (af (eOp gIx (ae 0) (eC (.int 1))) (af (eOp gIx (ae 1) (eC (.int 1))) av))) av))))))
noncomputable def cG:Fn:=cw 2 2 fL
noncomputable def d3:Fs:=(aF (sIf (kg (aW (eOp gEq (eOp gIx (ae 0) (eC (.int 0))) (eOp gIx (ae 1) (eC (.int 0))))) (aW (eOp gEq (eOp gIx (ae 0) (eC (.int 0))) (eOp gIx (ae 1) (eC (.int 2)))))) (bR (pV (eOp gLt (eOp gIx (ae 1) (eC (.int 1))) (eOp gIx (ae 0) (eC (.int 1)))) (eOp gLt (eOp gIx (ae 0) (eC (.int 1))) (eOp gIx (ae 1) (eC (.int 3)))))) sNx)
 (aF (sIf (kg (aW (eOp gEq (eOp gIx (ae 0) (eC (.int 1))) (eOp gIx (ae 1) (eC (.int 1))))) (aW (eOp gEq (eOp gIx (ae 0) (eC (.int 1))) (eOp gIx (ae 1) (eC (.int 3)))))) (bR (pV (eOp gLt (eOp gIx (ae 1) (eC (.int 0))) (eOp gIx (ae 0) (eC (.int 0)))) (eOp gLt (eOp gIx (ae 0) (eC (.int 0))) (eOp gIx (ae 1) (eC (.int 2)))))) sNx)
 (bR (eC (.bool false)))))
noncomputable def bc:Fn:=cw 2 2 d3
noncomputable def eZ:Fs:=(aF (aR 2 (eIf (aW (aM jd (af (ae 0) av))) (gk (af (eUn gG (eOp gIx (ae 1) (eC (.int 0)))) (af (eOp gIx (ae 1) (eC (.int 1))) av))) (ae 1)))
 (aF (eP (iR1 (eOp g8 (ae 0) (eC (.int 4)))) (gNm 3) (aR 2 (gk (af (eUn gG (eOp gIx (ae 2) (eC (.int 1)))) (af (eOp gIx (ae 2) (eC (.int 0))) av)))))
 (bR (ae 2))))
noncomputable def dZ:Fn:=cw 2 4 eZ
noncomputable def e7:Fs:=(aF (sIf (kg (gE (aW (pB "tuple" (ae 0)))) (aW (eOp gNe (eB dP (af (ae 0) av)) (ae 1)))) (bR (eC (.bool false))) sNx)
 (bR (eOp gEq (eB dP (af (dr (iTp (ae 0)) (gNm 0) (aW (aM eW (af (ae 0) av))) (ae 0) 1 []) av)) (ae 1))))
noncomputable def bW:Fn:=cw 2 2 e7
noncomputable def cB:Fs:=(aF (sIf (aW (aM bE (af (aM cG (af (ae 0) (af (ae 1) av))) (af (ae 2) av)))) (bR (eC (.bool false))) sNx)
 (aF (aR 3 (fJ av))
 (aF (eP (gS (fJ (af (eOp gIx (ae 2) (eC (.int 0))) (af (eOp gIx (ae 2) (eC (.int 2))) av)))) (gNm 4) (eP (gS (fJ (af (eOp gIx (ae 2) (eC (.int 1))) (af (eOp gIx (ae 2) (eC (.int 3))) av)))) (gNm 5) (ji 3 (eSh (aM aQ (af (ae 0) (af (ae 1) (af (gk (af (ae 4) (af (ae 5) av))) av))))))))
 (nT 3 (bR (pV (eOp gLe (eB jq (af (ae 3) av)) (eC (.int 0))) (eOp gGe (eB i4 (af (ae 3) av)) (eC (.int 0)))))))))
noncomputable def bt:Fn:=cw 3 6 cB
noncomputable def eJ:Fs:=(aF (sIf (aW (aM bE (af (aM cG (af (ae 0) (af (ae 1) av))) (af (aM cG (af (ae 2) (af (ae 3) av))) av)))) (bR (eC (.bool false))) sNx)
 (aF (sIf (aW (eOp gGt (eOp qm (aM aQ (af (ae 0) (af (ae 1) (af (ae 2) av)))) (aM aQ (af (ae 0) (af (ae 1) (af (ae 3) av))))) (eC (.int 0)))) (bR (eC (.bool false))) sNx)
 (bR (eOp gLe (eOp qm (aM aQ (af (ae 2) (af (ae 3) (af (ae 0) av)))) (aM aQ (af (ae 2) (af (ae 3) (af (ae 1) av))))) (eC (.int 0))))))
noncomputable def c6:Fn:=cw 4 4 eJ
noncomputable def dm:Fs:=(aF (eP (iR1 (eB dP (af (ae 0) av))) (gNm 1) (eP (iR1 (ae 1)) (gNm 2) (sIf (gE (aW (aM bE (af (eOp gIx (ae 0) (ae 1)) (af (eOp gIx (ae 0) (ae 2)) av))))) (bR (eC (.bool false))) sNx)))
 (bR (eC (.bool true))))
noncomputable def cC:Fn:=cw 1 3 dm
noncomputable def l9:Fs:=(aF (aR 2 (fJ (af (eC (.int 0)) av)))
 (aF (eP (gS (eSl so (aM fq (af (ae 0) av)) ki (jS (eUn gG (eC (.int 1)))))) (gNm 3) (aF (aR 4 (eB i4 (af (dr (gS (ae 3)) (gNm 0) eN (eOp gIx (eOp gIx (ae 1) (ae 0)) (eC (.int 2))) 1 [0]) av)))
 (ji 2 (p8 (eOp dJ (eOp dJ (eOp gIx (ae 2) (eUn gG (eC (.int 1)))) (ae 4)) (ae 1))))))
 (gD 2)))
noncomputable def km:Fn:=cw 2 5 l9
noncomputable def fv:Fs:=(bR (aM dZ (af (yY (λnm=>decide (nm = "Turned")) "turn" (ae 0)) (af (ae 1) av))))
noncomputable def aD:Fn:=cw 2 2 fv
noncomputable def ib:Fs:=(aF (sIf (aW (eOp gEq (eOp g8 (ae 0) (eC (.int 10))) (eC (.int 8)))) (bR (qf "Standing")) sNx)
 (aF (sIf (aW (eOp gEq (eOp g8 (ae 0) (eC (.int 10))) (eC (.int 9)))) (bR (qf "Lying")) sNx)
 (bR (qU "Turned" "turn" (af (eOp g8 (ae 0) (eC (.int 10))) av)))))
noncomputable def f_:Fn:=cw 1 1 ib
noncomputable def gI:Fs:=(aF (sIf (kg (gE (aW (pB "list" (ae 1)))) (gE (aW (pB "list" (ae 2))))) (bR (eC (.bool false))) sNx)
 (aF (sIf (kg (aW (eOp gNe (eB dP (af (ae 1) av)) (eB dP (af (ae 0) av)))) (aW (eOp gNe (eB dP (af (ae 2) av)) (eOp dF (eB dP (af (ae 0) av)) (eC (.int 1)))))) (bR (eC (.bool false))) sNx)
 (aF (eP (gS (ae 1)) (gNm 3) (sIf (gE (aW (aM bW (af (ae 3) (af (eC (.int 4)) av))))) (bR (eC (.bool false))) sNx))
 (aF (eP (gS (ae 2)) (gNm 4) (aF (sIf (kg (gE (aW (pB "tuple" (ae 4)))) (aW (eOp gNe (eB dP (af (ae 4) av)) (eC (.int 3))))) (bR (eC (.bool false))) sNx)
 (sIf (aW (eOp gNe (eB dP (af (dr (iTp (ae 4)) (gNm 0) (aW (aM bW (af (ae 0) (af (eC (.int 2)) av)))) (ae 0) 1 []) av)) (eC (.int 3)))) (bR (eC (.bool false))) sNx)))
 (bR (eC (.bool true)))))))
noncomputable def eH:Fn:=cw 3 5 gI
noncomputable def dI:Fs:=(aF (aR 4 (eOp gIx (eOp gIx (ae 0) (ae 3)) (eC (.int 0))))
 (aF (sIf (kg (gE (aW (aM bc (af (eOp gIx (ae 2) (eC (.int 0))) (af (eOp gIx (ae 1) (ae 4)) av))))) (gE (aW (aM bc (af (eOp gIx (ae 2) (eC (.int 2))) (af (eOp gIx (ae 1) (ae 3)) av)))))) (bR (eC (.bool false))) sNx)
 (aF (eP (iR1 (eB dP (af (ae 0) av))) (gNm 5) (aF (sIf (mM (aW (eOp gNe (ae 5) (ae 4))) (aW (aM bt (af (eOp gIx (ae 2) (eC (.int 0))) (af (eOp gIx (ae 2) (eC (.int 1))) (af (eOp gIx (ae 1) (ae 5)) av)))))) (bR (eC (.bool false))) sNx)
 (sIf (mM (aW (eOp gNe (ae 5) (ae 3))) (mM (kg (aW (eOp gNe (ae 5) (ae 4))) (aW (eOp gNe (eOp gIx (ae 2) (eC (.int 0))) (eOp gIx (ae 2) (eC (.int 1)))))) (aW (aM bt (af (eOp gIx (ae 2) (eC (.int 1))) (af (eOp gIx (ae 2) (eC (.int 2))) (af (eOp gIx (ae 1) (ae 5)) av))))))) (bR (eC (.bool false))) sNx)))
 (bR (eC (.bool true))))))
noncomputable def cL:Fn:=cw 4 6 dI
noncomputable def d_:Fs:=(aF (aR 4 (eOp gIx (ae 1) (eOp dF (ae 2) (eC (.int 1)))))
 (aF (aR 5 (eOp gIx (ae 1) (eOp dF (ae 3) (eC (.int 1)))))
 (aF (sIf (aW (eOp gEq (eOp gIx (eOp gIx (ae 0) (ae 2)) (eC (.int 0))) (eOp gIx (eOp gIx (ae 0) (ae 3)) (eC (.int 0))))) (bR (pV (eOp gEq (eSl ya (ae 4) ki (jS (eC (.int 2)))) (eSl ya (ae 5) ki (jS (eC (.int 2))))) (eOp gNe (aM aQ (af (eOp gIx (ae 4) (eC (.int 1))) (af (eOp gIx (ae 4) (eC (.int 2))) (af (eOp gIx (ae 5) (eC (.int 2))) av)))) (eC (.int 0))))) sNx)
 (aF (eP (iR1 (eC (.int 2))) (gNm 6) (eP (iR1 (eC (.int 2))) (gNm 7) (sIf (aW (aM c6 (af (eOp gIx (ae 4) (ae 6)) (af (eOp gIx (ae 4) (eOp dJ (ae 6) (eC (.int 1)))) (af (eOp gIx (ae 5) (ae 7)) (af (eOp gIx (ae 5) (eOp dJ (ae 7) (eC (.int 1)))) av)))))) (bR (eC (.bool false))) sNx)))
 (bR (eC (.bool true)))))))
noncomputable def cX:Fn:=cw 4 8 d_
noncomputable def fM:Fs:=(bR (dr (gS (aM km (af (ae 0) (af (ae 1) av)))) (gNm 0) eN (eOp eh (eC (.int 256)) (ae 0)) 1 []))
noncomputable def de:Fn:=cw 2 2 fM
noncomputable def e8:Fs:=(aF (aR 2 (eSh (jR (λnm=>List.lookup nm [("Standing",ax),("Lying",aG),("Turned",aD)]) "spot" (ae 0) (af (gk (af (eOp gIx (ae 1) (eC (.int 0))) (af (eOp gIx (ae 1) (eC (.int 1))) av))) av))))
 (aF (aR 3 (eSh (jR (λnm=>List.lookup nm [("Standing",ax),("Lying",aG),("Turned",aD)]) "spot" (ae 0) (af (gk (af (eOp gIx (ae 1) (eC (.int 2))) (af (eOp gIx (ae 1) (eC (.int 3))) av))) av))))
 (bR (gk (af (eB lF (af (eOp gIx (ae 2) (eC (.int 0))) (af (eOp gIx (ae 3) (eC (.int 0))) av))) (af (eB lF (af (eOp gIx (ae 2) (eC (.int 1))) (af (eOp gIx (ae 3) (eC (.int 1))) av))) (af (eB mP (af (eOp gIx (ae 2) (eC (.int 0))) (af (eOp gIx (ae 3) (eC (.int 0))) av))) (af (eB mP (af (eOp gIx (ae 2) (eC (.int 1))) (af (eOp gIx (ae 3) (eC (.int 1))) av))) av))))))))
noncomputable def aw:Fn:=cw 2 4 e8
noncomputable def kH:Fs:=(aF (aR 3 (eSh (aM de (af (ae 0) (af (ae 2) av)))))
 (aF (aR 4 (fJ av))
 (aF (eP (vI (af (ae 0) (af (aM g7 (af (ae 0) (af (ae 1) av))) (af (aM df (af (ae 0) av)) (af (aM bK (af (ae 0) av)) av))))) (gTp 4 (cJ (gNm 5) (cJ (gNm 6) (cJ (gNm 7) (cJ (gNm 8) iX))))) (aF (aR 9 (eOp dJ (eOp gIx (ae 3) (ae 8)) (eOp eh (eC (.int 256)) (eOp gIx (ae 5) (eC (.int 2))))))
 (ji 4 (eSh (gk (af (eOp dF (ae 6) (eOp eh (eC (.int 256)) (ae 7))) (af (eOp gIx (ae 3) (ae 8)) (af (eOp dJ (ae 6) (eOp eh (eC (.int 256)) (eOp dJ (ae 7) (eC (.int 1))))) (af (ae 9) av)))))))))
 (gD 4))))
noncomputable def fV:Fn:=cw 3 10 kH
noncomputable def kL:Fs:=(aF (aR 3 (eSh (dr (gS (aM fV (af (ae 0) (af (ae 1) (af (ae 2) av))))) (gNm 0) eN (eOp gIx (ae 0) (eC (.int 3))) 1 [])))
 (aF (aR 4 (eSh (dr (gS (aM g7 (af (ae 0) (af (ae 1) av)))) (gNm 0) eN (eOp dJ (ae 0) (eOp lS (eC (.int 256)) (eC (.int 2)))) 1 [])))
 (aF (aR 5 (eSh (aM de (af (ae 0) (af (ae 2) av)))))
 (aF (aR 6 (eSh (aM bK (af (ae 0) av))))
 (aF (aR 7 (fJ av))
 (aF (eP (iR2 (eC (.int 1)) (eB dP (af (ae 0) av))) (gNm 8) (aF (aR 9 (eOp gIx (eOp gIx (ae 0) (ae 8)) (eC (.int 0))))
 (aF (aR 10 (eOp gIx (ae 5) (eOp gIx (ae 6) (ae 8))))
 (aF (aR 11 (eOp dF (ae 10) (eOp eh (eC (.int 256)) (ae 2))))
 (ji 7 (gk (af (gk (af (eOp gIx (ae 4) (ae 9)) (af (eOp gIx (ae 3) (ae 9)) av))) (af (gk (af (eOp gIx (ae 4) (ae 9)) (af (ae 11) av))) (af (gk (af (eOp gIx (ae 4) (ae 8)) (af (ae 10) av))) av)))))))))
 (gD 7)))))))
noncomputable def iz:Fn:=cw 3 12 kL
noncomputable def pW:Fs:=(aF (aR 1 (eSh (aM d5 (af (ae 0) (af (eC (.int 13)) av)))))
 (aF (aR 2 (eSh (aM dC (af (ae 1) (af (eC (.int 3)) (af (eOp dJ (eC (.int 1)) (eOp g8 (eOp gIx (ae 1) (eC (.int 0))) (eC (.int 9)))) (af (eC (.int 9)) (af (eC (.int 8)) av))))))))
 (aF (aR 3 (eOp dJ (eC (.int 1)) (eOp g8 (eOp gIx (ae 1) (eC (.int 1))) (eC (.int 20)))))
 (aF (aR 4 (eOp dJ (eC (.int 1)) (eOp g8 (eOp gIx (ae 1) (eC (.int 2))) (eC (.int 20)))))
 (aF (aR 5 (eSh (aM f_ (af (eOp gIx (ae 1) (eC (.int 12))) av))))
 (aF (aR 6 (eSh (aM fV (af (ae 2) (af (ae 3) (af (ae 4) av))))))
 (aF (aR 7 (eSh (aM iz (af (ae 2) (af (ae 3) (af (ae 4) av))))))
 (aF (sIf (gE (aW (aM eH (af (ae 2) (af (ae 6) (af (ae 7) av)))))) (bR (eC (.bool false))) sNx)
 (aF (aR 6 (eSh (dr (gS (ae 6)) (gNm 0) eN (eSh (jR (λnm=>List.lookup nm [("Standing",aw),("Lying",aw),("Turned",aw)]) "box" (ae 1) (af (ae 0) av))) 1 [5])))
 (aF (aR 7 (eSh (dr (gS (ae 7)) (gNm 0) eN (eSh (gk (af (eSh (jR (λnm=>List.lookup nm [("Standing",ax),("Lying",aG),("Turned",aD)]) "spot" (ae 1) (af (eOp gIx (ae 0) (eC (.int 0))) av))) (af (eSh (jR (λnm=>List.lookup nm [("Standing",ax),("Lying",aG),("Turned",aD)]) "spot" (ae 1) (af (eOp gIx (ae 0) (eC (.int 1))) av))) (af (eSh (jR (λnm=>List.lookup nm [("Standing",ax),("Lying",aG),("Turned",aD)]) "spot" (ae 1) (af (eOp gIx (ae 0) (eC (.int 2))) av))) av))))) 1 [5])))
 (aF (sIf (kg (gE (aW (aM eH (af (ae 2) (af (ae 6) (af (ae 7) av)))))) (gE (aW (aM cC (af (ae 6) av))))) (bR (eC (.bool false))) sNx)
 (aF (eP (iR2 (eC (.int 1)) (eB dP (af (ae 2) av))) (gNm 8) (aF (sIf (gE (aW (aM cL (af (ae 2) (af (ae 6) (af (eOp gIx (ae 7) (eOp dF (ae 8) (eC (.int 1)))) (af (ae 8) av))))))) (bR (eC (.bool false))) sNx)
 (eP (iR2 (eC (.int 1)) (ae 8)) (gNm 9) (sIf (gE (aW (aM cX (af (ae 2) (af (ae 7) (af (ae 9) (af (ae 8) av))))))) (bR (eC (.bool false))) sNx))))
 (bR (eC (.bool true)))))))))))))))
noncomputable def mD:Fn:=cw 1 10 pW
noncomputable def top (i:Nat):Stmt:=PySem.Challenge.pw_boughdraw_k53_whole_nothing_meets.main.body.getD i (.Pass ⟨0,0,0,0⟩)
noncomputable abbrev cY:Stmt:=top 4
theorem n6:FnScope ["tree", "node"] ["tree", "node"] (ag cY):=⟨rfl,rfl,rfl,by decide +kernel,rfl,by decide +kernel,by decide +kernel⟩
noncomputable abbrev bH:Stmt:=top 6
theorem g4:FnScope ["tree", "levels", "row"] ["tree"] (ag bH):=⟨rfl,rfl,rfl,by decide +kernel,rfl,by decide +kernel,by decide +kernel⟩
noncomputable abbrev dA:Stmt:=top 8
theorem sf:FnScope ["tree"] ["tree"] (ag dA):=⟨rfl,rfl,rfl,by decide +kernel,rfl,by decide +kernel,by decide +kernel⟩
noncomputable abbrev d6:Stmt:=top 11
theorem iO:FnScope ["one", "other", "gap", "apart", "asked", "distance"] ["one", "other", "gap"] (ag d6):=⟨rfl,rfl,rfl,by decide +kernel,rfl,by decide +kernel,by decide +kernel⟩
noncomputable abbrev aS:Stmt:=top 20
theorem cA:FnScope ["outlines", "stands", "joined", "level", "there", "left", "right"] ["outlines", "stands"] (ag aS):=⟨rfl,rfl,rfl,by decide +kernel,rfl,by decide +kernel,by decide +kernel⟩
noncomputable abbrev h_:Stmt:=top 29
theorem wd:FnScope ["turn"] ["turn"] (ag h_):=⟨rfl,rfl,rfl,by decide +kernel,rfl,by decide +kernel,by decide +kernel⟩
noncomputable abbrev bw:Stmt:=(kv (top 30)).getD 0 (.Pass ⟨0,0,0,0⟩)
theorem lj:FnScope ["self", "point"] ["self", "point"] (ag bw):=⟨rfl,rfl,rfl,by decide +kernel,rfl,by decide +kernel,by decide +kernel⟩
noncomputable abbrev cE:Stmt:=(kv (top 31)).getD 0 (.Pass ⟨0,0,0,0⟩)
theorem nN:FnScope ["self", "point"] ["self", "point"] (ag cE):=⟨rfl,rfl,rfl,by decide +kernel,rfl,by decide +kernel,by decide +kernel⟩
noncomputable abbrev bq:Stmt:=(kv (top 32)).getD 0 (.Pass ⟨0,0,0,0⟩)
theorem ka:FnScope ["self", "turn"] ["self", "turn"] (ag bq):=⟨rfl,rfl,rfl,by decide +kernel,rfl,by decide +kernel,by decide +kernel⟩
noncomputable abbrev cz:Stmt:=top 35
theorem cU:FnScope ["_law_number", "_law_size", "_law_letters_here", "_law_label_here", "_law_k"] ["_law_number", "_law_size"] (ag cz):=⟨rfl,rfl,rfl,by decide +kernel,rfl,by decide +kernel,by decide +kernel⟩
noncomputable abbrev cZ:Stmt:=top 38
theorem nW:FnScope ["_law_found"] ["_law_found"] (ag cZ):=⟨rfl,rfl,rfl,by decide +kernel,rfl,by decide +kernel,by decide +kernel⟩
noncomputable abbrev b9:Stmt:=top 41
theorem jT:FnScope ["_law_one", "_law_other", "_law_spot", "_law_ahead"] ["_law_one", "_law_other", "_law_spot"] (ag b9):=⟨rfl,rfl,rfl,by decide +kernel,rfl,by decide +kernel,by decide +kernel⟩
noncomputable abbrev cg:Stmt:=top 42
theorem nC:FnScope ["_law_one", "_law_other"] ["_law_one", "_law_other"] (ag cg):=⟨rfl,rfl,rfl,by decide +kernel,rfl,by decide +kernel,by decide +kernel⟩
noncomputable abbrev cF:Stmt:=top 43
theorem nI:FnScope ["_law_one", "_law_other"] ["_law_one", "_law_other"] (ag cF):=⟨rfl,rfl,rfl,by decide +kernel,rfl,by decide +kernel,by decide +kernel⟩
noncomputable abbrev cu:Stmt:=top 46
theorem lY:FnScope ["_law_spot", "_law_box"] ["_law_spot", "_law_box"] (ag cu):=⟨rfl,rfl,rfl,by decide +kernel,rfl,by decide +kernel,by decide +kernel⟩
noncomputable abbrev b_:Stmt:=top 5
theorem mF:FnScope ["tree", "node"] ["tree", "node"] (ag b_):=⟨rfl,rfl,rfl,by decide +kernel,rfl,by decide +kernel,by decide +kernel⟩
noncomputable abbrev dE:Stmt:=top 7
theorem gH:FnScope ["tree", "numbers", "node", "level"] ["tree"] (ag dE):=⟨rfl,rfl,rfl,by decide +kernel,rfl,by decide +kernel,by decide +kernel⟩
noncomputable abbrev a8:Stmt:=top 13
theorem dM:FnScope ["outlines", "gap", "places", "number", "asked"] ["outlines", "gap"] (ag a8):=⟨rfl,rfl,rfl,by decide +kernel,rfl,by decide +kernel,by decide +kernel⟩
noncomputable abbrev bz:Stmt:=top 14
theorem cI:FnScope ["outlines", "gap", "last", "count", "places", "number", "one", "asked"] ["outlines", "gap", "last"] (ag bz):=⟨rfl,rfl,rfl,by decide +kernel,rfl,by decide +kernel,by decide +kernel⟩
noncomputable abbrev bg:Stmt:=top 17
theorem iy:FnScope ["tree", "places", "unit", "least"] ["tree", "places", "unit"] (ag bg):=⟨rfl,rfl,rfl,by decide +kernel,rfl,by decide +kernel,by decide +kernel⟩
noncomputable abbrev cy:Stmt:=top 28
theorem e9:FnScope ["turn", "point", "spot", "quarter"] ["turn", "point"] (ag cy):=⟨rfl,rfl,rfl,by decide +kernel,rfl,by decide +kernel,by decide +kernel⟩
noncomputable abbrev c7:Stmt:=top 36
theorem nK:FnScope ["_law_number", "_law_most"] ["_law_number", "_law_most"] (ag c7):=⟨rfl,rfl,rfl,by decide +kernel,rfl,by decide +kernel,by decide +kernel⟩
noncomputable abbrev bI:Stmt:=top 39
theorem lX:FnScope ["_law_found", "_law_size"] ["_law_found", "_law_size"] (ag bI):=⟨rfl,rfl,rfl,by decide +kernel,rfl,by decide +kernel,by decide +kernel⟩
noncomputable abbrev bC:Stmt:=top 44
theorem ef:FnScope ["_law_one", "_law_other", "_law_box", "_law_sides", "_law_x", "_law_y"] ["_law_one", "_law_other", "_law_box"] (ag bC):=⟨rfl,rfl,rfl,by decide +kernel,rfl,by decide +kernel,by decide +kernel⟩
noncomputable abbrev dG:Stmt:=top 45
theorem o8:FnScope ["_law_one", "_law_other", "_law_first", "_law_last"] ["_law_one", "_law_other", "_law_first", "_law_last"] (ag dG):=⟨rfl,rfl,rfl,by decide +kernel,rfl,by decide +kernel,by decide +kernel⟩
noncomputable abbrev ba:Stmt:=top 50
theorem eQ:FnScope ["_law_sheet", "_law_k", "_law_j"] ["_law_sheet"] (ag ba):=⟨rfl,rfl,rfl,by decide +kernel,rfl,by decide +kernel,by decide +kernel⟩
noncomputable abbrev fm:Stmt:=top 12
theorem mR:FnScope ["outlines", "gap", "earliest"] ["outlines", "gap"] (ag fm):=⟨rfl,rfl,rfl,by decide +kernel,rfl,by decide +kernel,by decide +kernel⟩
noncomputable abbrev iP:Stmt:=top 21
theorem ml:FnScope ["tree", "between", "rows_above", "level", "tallest"] ["tree", "between"] (ag iP):=⟨rfl,rfl,rfl,by decide +kernel,rfl,by decide +kernel,by decide +kernel⟩
noncomputable abbrev b8:Stmt:=(kv (top 32)).getD 1 (.Pass ⟨0,0,0,0⟩)
theorem nt:FnScope ["self", "point"] ["self", "point"] (ag b8):=⟨rfl,rfl,rfl,by decide +kernel,rfl,by decide +kernel,by decide +kernel⟩
noncomputable abbrev dH:Stmt:=top 37
theorem a7:FnScope ["_law_draws_here", "_law_start", "_law_many", "_law_most", "_law_deep", "_law_tree_here", "_law_way", "_law_k", "_law_number", "_law_tall", "_law_elder", "_law_keep"] ["_law_draws_here", "_law_start", "_law_many", "_law_most", "_law_deep"] (ag dH):=⟨rfl,rfl,rfl,by decide +kernel,rfl,by decide +kernel,by decide +kernel⟩
noncomputable abbrev eg:Stmt:=top 40
theorem qF:FnScope ["_law_cell"] ["_law_cell"] (ag eg):=⟨rfl,rfl,rfl,by decide +kernel,rfl,by decide +kernel,by decide +kernel⟩
noncomputable abbrev dc:Stmt:=top 47
theorem iJ:FnScope ["_law_tree_here", "_law_sheet", "_law_ways", "_law_box", "_law_way"] ["_law_tree_here", "_law_sheet", "_law_ways"] (ag dc):=⟨rfl,rfl,rfl,by decide +kernel,rfl,by decide +kernel,by decide +kernel⟩
noncomputable abbrev bu:Stmt:=top 48
theorem e_:FnScope ["_law_tree_here", "_law_sheet", "_law_way", "_law_node", "_law_elder", "_law_k"] ["_law_tree_here", "_law_sheet", "_law_way", "_law_node"] (ag bu):=⟨rfl,rfl,rfl,by decide +kernel,rfl,by decide +kernel,by decide +kernel⟩
noncomputable abbrev bA:Stmt:=top 49
theorem c9:FnScope ["_law_tree_here", "_law_ways", "_law_one", "_law_other", "_law_here", "_law_there", "_law_k", "_law_j"] ["_law_tree_here", "_law_ways", "_law_one", "_law_other"] (ag bA):=⟨rfl,rfl,rfl,by decide +kernel,rfl,by decide +kernel,by decide +kernel⟩
noncomputable abbrev bO:Stmt:=top 19
theorem gx:FnScope ["outlines", "gap", "room", "elder"] ["outlines", "gap"] (ag bO):=⟨rfl,rfl,rfl,by decide +kernel,rfl,by decide +kernel,by decide +kernel⟩
noncomputable abbrev cc:Stmt:=top 24
theorem nU:FnScope ["tree", "between"] ["tree", "between"] (ag cc):=⟨rfl,rfl,rfl,by decide +kernel,rfl,by decide +kernel,by decide +kernel⟩
noncomputable abbrev cq:Stmt:=(kv (top 30)).getD 1 (.Pass ⟨0,0,0,0⟩)
theorem gc:FnScope ["self", "box", "one", "other"] ["self", "box"] (ag cq):=⟨rfl,rfl,rfl,by decide +kernel,rfl,by decide +kernel,by decide +kernel⟩
noncomputable abbrev eV:Stmt:=top 18
theorem eG:FnScope ["tree", "gap", "offsets", "outlines", "node", "children", "below", "stands", "child", "stand"] ["tree", "gap"] (ag eV):=⟨rfl,rfl,rfl,by decide +kernel,rfl,by decide +kernel,by decide +kernel⟩
noncomputable abbrev gM:Stmt:=top 16
theorem kq:FnScope ["tree", "gap", "offsets", "places", "node"] ["tree", "gap"] (ag gM):=⟨rfl,rfl,rfl,by decide +kernel,rfl,by decide +kernel,by decide +kernel⟩
noncomputable abbrev gF:Stmt:=top 23
theorem fY:FnScope ["tree", "gap", "between", "above", "told", "row", "place", "reach", "level", "bottom"] ["tree", "gap", "between"] (ag gF):=⟨rfl,rfl,rfl,by decide +kernel,rfl,by decide +kernel,by decide +kernel⟩
noncomputable abbrev fN:Stmt:=top 25
theorem eT:FnScope ["tree", "gap", "between", "bottoms", "middles", "above", "levels", "told", "node", "elder", "top", "bend"] ["tree", "gap", "between"] (ag fN):=⟨rfl,rfl,rfl,by decide +kernel,rfl,by decide +kernel,by decide +kernel⟩
noncomputable abbrev c_:Stmt:=top 34
theorem bF:FnScope ["_law_script", "_law_many", "_law_cells", "_law_found", "_law_left", "_law_k", "_law_at", "_law_cell", "_law_one", "_law_other"] ["_law_script", "_law_many"] (ag c_):=⟨rfl,rfl,rfl,by decide +kernel,rfl,by decide +kernel,by decide +kernel⟩
noncomputable abbrev i8:Stmt:=top 51
theorem gn:FnScope ["_law_script", "_law_draws_here", "_law_tree_here", "_law_gap", "_law_between", "_law_lay_here", "_law_sheet", "_law_ways", "_law_node", "_law_other"] ["_law_script"] (ag i8):=⟨rfl,rfl,rfl,by decide +kernel,rfl,by decide +kernel,by decide +kernel⟩
theorem tM:bootBuiltins "list" = some (.type "list"):=by decide +kernel
theorem qM:bootBuiltins "tuple" = some (.type "tuple"):=by decide +kernel
theorem vk:bootBuiltins "int" = some (.type "int"):=by decide +kernel
theorem za:bootBuiltins "bool" = some (.type "bool"):=by decide +kernel
structure Txt (K:PySem.W.Frag) (mg:Str->Option Value):Prop where
 z_bool:mg "bool" = none
 z_enumerate:mg "enumerate" = none
 z_int:mg "int" = none
 z_isinstance:mg "isinstance" = none
 z_len:mg "len" = none
 z_list:mg "list" = none
 z_max:mg "max" = none
 z_min:mg "min" = none
 z_range:mg "range" = none
 z_tuple:mg "tuple" = none
 z_zip:mg "zip" = none
 c_QUARTERS:∃t,mg "QUARTERS" = some (.int 4 t)
 c_SHREDS:∃t,mg "SHREDS" = some (.int 256 t)
structure DefM (K:PySem.W.Frag) (x q:Str) (st:Stmt) (ps:List Str) (f:Addr) (fd:FuncData):Prop where
 F:Fun K x q st f fd
 b:Binds K fd ps []
structure Obs (K:PySem.W.Frag) (mg:Str->Option Value) (c_Standing c_Lying c_Turned f_Standing_spot f_Lying_spot f_Turned___init__ f_Turned_spot f_Standing_box:Addr):Prop where
 a_Standing:PySem.W.nsIn K mainGlobals "Standing" = some (some (.ref c_Standing))
 m_Standing:mg "Standing" = some (.ref c_Standing)
 i_Standing:InsK K c_Standing
 mk_Standing:Mk0 K c_Standing
 me_Standing_box:Meth K c_Standing "box" f_Standing_box
 me_Standing_spot:Meth K c_Standing "spot" f_Standing_spot
 q_Standing_Standing:PySem.W.kitOne K (.ref c_Standing) (.ref c_Standing)=some true
 q_Standing_Lying:PySem.W.kitOne K (.ref c_Standing) (.ref c_Lying)=some false
 q_Standing_Turned:PySem.W.kitOne K (.ref c_Standing) (.ref c_Turned)=some false
 a_Lying:PySem.W.nsIn K mainGlobals "Lying" = some (some (.ref c_Lying))
 m_Lying:mg "Lying" = some (.ref c_Lying)
 i_Lying:InsK K c_Lying
 mk_Lying:Mk0 K c_Lying
 me_Lying_box:Meth K c_Lying "box" f_Standing_box
 me_Lying_spot:Meth K c_Lying "spot" f_Lying_spot
 q_Lying_Standing:PySem.W.kitOne K (.ref c_Lying) (.ref c_Standing)=some true
 q_Lying_Lying:PySem.W.kitOne K (.ref c_Lying) (.ref c_Lying)=some true
 q_Lying_Turned:PySem.W.kitOne K (.ref c_Lying) (.ref c_Turned)=some false
 a_Turned:PySem.W.nsIn K mainGlobals "Turned" = some (some (.ref c_Turned))
 m_Turned:mg "Turned" = some (.ref c_Turned)
 i_Turned:InsK K c_Turned
 mk_Turned:Mk K c_Turned f_Turned___init__
 na_Turned_turn:gf K c_Turned "turn"
 me_Turned_box:Meth K c_Turned "box" f_Standing_box
 me_Turned_spot:Meth K c_Turned "spot" f_Turned_spot
 q_Turned_Standing:PySem.W.kitOne K (.ref c_Turned) (.ref c_Standing)=some true
 q_Turned_Lying:PySem.W.kitOne K (.ref c_Turned) (.ref c_Lying)=some false
 q_Turned_Turned:PySem.W.kitOne K (.ref c_Turned) (.ref c_Turned)=some true
section
variable {P:Program} {w:World} {K:PySem.W.Frag} {mg:Str->Option Value} {base:Heap} {c_Standing c_Lying c_Turned f_Standing_spot f_Lying_spot f_Turned___init__ f_Turned_spot f_Standing_box:Addr}
theorem nE {f:Addr} {fd:FuncData} (F:Fun K "check_node" "check_node" cY f fd) (T:Txt K mg) (O:Obs K mg c_Standing c_Lying c_Turned f_Standing_spot f_Lying_spot f_Turned___init__ f_Turned_spot f_Standing_box):FnOk P w K mg base CX0 1 f fd ["tree", "node"] (sp3 K mg eS):=by
 refine dR (N:=["tree", "node"]) (k:=0) (body:=fQ) rfl rfl rfl F n6 λcdv A outer s H E hr=>?_
 unfold fQ;exact (aq (c8 (lU (jO (b5 jQ (λ_=>jM) (aa 1) ah (aT _)) (ip (b5 w9 (λ_=>xr) (aa 1) (a_ aK bJ rfl T.z_len PySem.boot_len (ab (aa 0) aj)) (aT _))))) (aq xm) a9))
theorem mZ {f:Addr} {fd:FuncData} (F:Fun K "node_levels" "node_levels" bH f fd) (T:Txt K mg) (O:Obs K mg c_Standing c_Lying c_Turned f_Standing_spot f_Lying_spot f_Turned___init__ f_Turned_spot f_Standing_box):FnOk P w K mg base CX0 1 f fd ["tree"] (sp3 K mg bK):=by
 refine dR (N:=["tree", "levels", "row"]) (k:=0) (body:=fA) rfl rfl rfl F g4 λcdv A outer s H E hr=>?_
 unfold fA;exact (ai (aC (i:=1) g4.nd rfl (Or.inl rfl) (cT aj))
   (ai (b6 rfl PassesOwn.never (cP (aa 0)) (aA (i:=2) g4.nd rfl (Or.inl rfl)) (aq (gh 1 (cS (k9 (Ag (b5 (fi hr.units) gY (au ao ar (aa 2) ah (λ_ _=>rfl)) (hG fF (λ_=>fC) ah) (aT _)) ah (ay aU bp (au ao ar (aa 1) (au ao ar (aa 2) ah (λ_ _=>rfl)) (λ_ _=>rfl)) ah)))))))
   (aq (ft 1))))
theorem rD {f:Addr} {fd:FuncData} (F:Fun K "reaches" "reaches" dA f fd) (T:Txt K mg) (O:Obs K mg c_Standing c_Lying c_Turned f_Standing_spot f_Lying_spot f_Turned___init__ f_Turned_spot f_Standing_box):FnOk P w K mg base CX0 1 f fd ["tree"] (sp3 K mg df):=by
 refine dR (N:=["tree"]) (k:=0) (body:=iW) rfl rfl rfl F sf λcdv A outer s H E hr=>?_
 unfold iW;exact (aq (aJ (eF (sc:=(ag dA)) (outs:=[]) (is:=[0]) ["row"] ⟨rfl,rfl,by decide +kernel,by decide +kernel,by decide +kernel,trivial⟩ rfl (by decide) (cP (aa 0)) (λ_ _ _ _ _=>(aA (i:=0) (show List.Nodup (["row"]:List Str) by decide +kernel) rfl (Or.inl rfl))) (λ_ _ _ _ _=>eA) (λ_ _ _ _ _=>(ay gO (λ_=>iQ) (a_ aK bJ rfl T.z_len PySem.boot_len (ab (au ao ar (aa 0) ah (λ_ _=>rfl)) aj)) ah)))))
theorem rk {f:Addr} {fd:FuncData} (F:Fun K "nearest" "nearest" d6 f fd) (T:Txt K mg) (O:Obs K mg c_Standing c_Lying c_Turned f_Standing_spot f_Lying_spot f_Turned___init__ f_Turned_spot f_Standing_box):FnOk P w K mg base CX0 1 f fd ["one", "other", "gap"] (sp3 K mg en):=by
 refine dR (N:=["one", "other", "gap", "apart", "asked", "distance"]) (k:=0) (body:=iT) rfl rfl rfl F iO λcdv A outer s H E hr=>?_
 unfold iT;exact (ai (aC (i:=3) iO.nd rfl (Or.inr rfl) (ay bQ cN (dX rfl T.c_SHREDS) (ay aU bp (aa 2) ah)))
   (ai (hZ (i:=4) (sc:=(ag d6)) (outs:=[(3, "apart")]) (is:=[0,1]) ["ahead", "behind"] (λ_ _ _ q=>nY q) iO.nd rfl (Or.inl rfl) ⟨rfl,rfl,by decide +kernel,by decide +kernel,by decide +kernel,⟨⟨rfl,rfl⟩,trivial⟩⟩ rfl (by decide) (o7 rfl T.z_zip (aa 0) (aa 1)) (λ_ _ _ _ _=>(i_ (n:=2) rfl (bX (aA (i:=0) (show List.Nodup (["ahead", "behind", "apart"]:List Str) by decide +kernel) rfl (Or.inl rfl)) (bX (aA (i:=1) (show List.Nodup (["ahead", "behind", "apart"]:List Str) by decide +kernel) rfl (Or.inl rfl)) hR)))) (λ_ _ _ _ _=>eA) (λ_ _ _ _ _=>(ay d7 (λ_=>d8) (ay aU bp (au ao ar (aa 0) ah (λ_ _=>rfl)) (aa 2)) (au ao ar (aa 1) ah (λ_ _=>rfl)))))
   (ai (aC (i:=5) iO.nd rfl (Or.inl rfl) (a_ (gP _ rfl rfl) jy rfl T.z_max PyProof.Rows.boot_max (ab (aa 4) aj)))
   (aq (aJ (dw (ab (aa 5) (ab (wL (aa 4) (aa 5)) aj))))))))
theorem kJ {f:Addr} {fd:FuncData} (F:Fun K "joined_outline" "joined_outline" aS f fd) (T:Txt K mg) (O:Obs K mg c_Standing c_Lying c_Turned f_Standing_spot f_Lying_spot f_Turned___init__ f_Turned_spot f_Standing_box):FnOk P w K mg base CX0 1 f fd ["outlines", "stands"] (sp3 K mg bN):=by
 refine dR (N:=["outlines", "stands", "joined", "level", "there", "left", "right"]) (k:=0) (body:=d9) rfl rfl rfl F cA λcdv A outer s H E hr=>?_
 unfold d9;exact (ai (aC (i:=2) cA.nd rfl (Or.inl rfl) (cT aj))
   (ai (b6 rfl PassesOwn.never (iZ rfl T.z_range (a_ (gP _ rfl rfl) jy rfl T.z_max PyProof.Rows.boot_max (ab (eF (sc:=(ag aS)) (outs:=[]) (is:=[0]) ["outline"] ⟨rfl,rfl,by decide +kernel,by decide +kernel,by decide +kernel,trivial⟩ rfl (by decide) (cP (aa 0)) (λ_ _ _ _ _=>(aA (i:=0) (show List.Nodup (["outline"]:List Str) by decide +kernel) rfl (Or.inl rfl))) (λ_ _ _ _ _=>eA) (λ_ _ _ _ _=>(a_ aK bJ rfl T.z_len PySem.boot_len (ab (aa 0) aj)))) aj))) (aA (i:=3) cA.nd rfl (Or.inr rfl)) (ai (hZ (i:=4) (sc:=(ag aS)) (outs:=[(3, "level")]) (is:=[0,1]) ["number", "outline"] (λ_ _ _ q=>nY q) cA.nd rfl (Or.inl rfl) ⟨rfl,rfl,by decide +kernel,by decide +kernel,by decide +kernel,⟨⟨rfl,rfl⟩,trivial⟩⟩ rfl (by decide) (o5 rfl T.z_enumerate (aa 0)) (λ_ _ _ _ _=>(i_ (n:=2) rfl (bX (aA (i:=0) (show List.Nodup (["number", "outline", "level"]:List Str) by decide +kernel) rfl (Or.inl rfl)) (bX (aA (i:=1) (show List.Nodup (["number", "outline", "level"]:List Str) by decide +kernel) rfl (Or.inl rfl)) hR)))) (λ_ _ _ _ _=>(pY (b5 jQ (λ_=>jM) (aa 2) (a_ aK bJ rfl T.z_len PySem.boot_len (ab (aa 1) aj)) (aT _)))) (λ_ _ _ _ _=>(aa 0)))
   (ai (aC (i:=5) cA.nd rfl (Or.inl rfl) (a_ (jG _ rfl rfl) mi rfl T.z_min PyProof.Rows.boot_min (ab (eF (sc:=(ag aS)) (outs:=[(1, "stands"),(0, "outlines"),(3, "level")]) (is:=[0]) ["number"] ⟨rfl,rfl,by decide +kernel,by decide +kernel,by decide +kernel,⟨⟨rfl,rfl⟩,⟨rfl,rfl⟩,⟨rfl,rfl⟩,trivial⟩⟩ rfl (by decide) (cP (aa 4)) (λ_ _ _ _ _=>(aA (i:=0) (show List.Nodup (["number", "stands", "outlines", "level"]:List Str) by decide +kernel) rfl (Or.inl rfl))) (λ_ _ _ _ _=>eA) (λ_ _ _ _ _=>(ay aU bp (au ao ar (aa 1) (aa 0) (λ_ _=>rfl)) (au ao ar (au ao ar (au ao ar (aa 2) (aa 0) (λ_ _=>rfl)) (aa 3) (λ_ _=>rfl)) ah (λ_ _=>rfl))))) aj)))
   (ai (aC (i:=6) cA.nd rfl (Or.inl rfl) (a_ (gP _ rfl rfl) jy rfl T.z_max PyProof.Rows.boot_max (ab (eF (sc:=(ag aS)) (outs:=[(1, "stands"),(0, "outlines"),(3, "level")]) (is:=[0]) ["number"] ⟨rfl,rfl,by decide +kernel,by decide +kernel,by decide +kernel,⟨⟨rfl,rfl⟩,⟨rfl,rfl⟩,⟨rfl,rfl⟩,trivial⟩⟩ rfl (by decide) (cP (aa 4)) (λ_ _ _ _ _=>(aA (i:=0) (show List.Nodup (["number", "stands", "outlines", "level"]:List Str) by decide +kernel) rfl (Or.inl rfl))) (λ_ _ _ _ _=>eA) (λ_ _ _ _ _=>(ay aU bp (au ao ar (aa 1) (aa 0) (λ_ _=>rfl)) (au ao ar (au ao ar (au ao ar (aa 2) (aa 0) (λ_ _=>rfl)) (aa 3) (λ_ _=>rfl)) ah (λ_ _=>rfl))))) aj)))
   (aq (gh 2 (dw (ab (aa 5) (ab (aa 6) aj)))))))))
   (aq (ft 2))))
theorem vD {f:Addr} {fd:FuncData} (F:Fun K "flips" "flips" h_ f fd) (T:Txt K mg) (O:Obs K mg c_Standing c_Lying c_Turned f_Standing_spot f_Lying_spot f_Turned___init__ f_Turned_spot f_Standing_box):FnOk P w K mg base CX0 1 f fd ["turn"] (sp3 K mg jd):=by
 refine dR (N:=["turn"]) (k:=0) (body:=kK) rfl rfl rfl F wd λcdv A outer s H E hr=>?_
 unfold kK;exact (aq (aJ (eR w9 (λ_=>xr) (aa 0) (dX rfl T.c_QUARTERS) (aT _))))
theorem k8 {f:Addr} {fd:FuncData} (F:Fun K "spot" "Standing.spot" bw f fd) (T:Txt K mg) (O:Obs K mg c_Standing c_Lying c_Turned f_Standing_spot f_Lying_spot f_Turned___init__ f_Turned_spot f_Standing_box):FnOk P w K mg base CX0 1 f fd ["self", "point"] (sp3 K mg ax):=by
 refine dR (N:=["self", "point"]) (k:=0) (body:=eE) rfl rfl rfl F lj λcdv A outer s H E hr=>?_
 unfold eE;exact (aq (aJ (aa 1)))
theorem nZ {f:Addr} {fd:FuncData} (F:Fun K "spot" "Lying.spot" cE f fd) (T:Txt K mg) (O:Obs K mg c_Standing c_Lying c_Turned f_Standing_spot f_Lying_spot f_Turned___init__ f_Turned_spot f_Standing_box):FnOk P w K mg base CX0 1 f fd ["self", "point"] (sp3 K mg aG):=by
 refine dR (N:=["self", "point"]) (k:=0) (body:=fU) rfl rfl rfl F nN λcdv A outer s H E hr=>?_
 unfold fU;exact (aq (aJ (dw (ab (au ao ar (aa 1) ah (λ_ _=>rfl)) (ab (au ao ar (aa 1) ah (λ_ _=>rfl)) aj)))))
theorem j5 {f:Addr} {fd:FuncData} (F:Fun K "__init__" "Turned.__init__" bq f fd):FnOk P w K mg base CX0 1 f fd ["self", "turn"] (spI K "turn") :=
 vq F ka rfl (Or.inl rfl) (Or.inl rfl) (by decide) (by decide) (by decide) (by decide)
theorem l6 {f:Addr} {fd:FuncData} (F:Fun K "_law_letters" "_law_letters" cz f fd) (T:Txt K mg) (O:Obs K mg c_Standing c_Lying c_Turned f_Standing_spot f_Lying_spot f_Turned___init__ f_Turned_spot f_Standing_box):FnOk P w K mg base CX0 1 f fd ["_law_number", "_law_size"] (sp3 K mg dY):=by
 refine dR (N:=["_law_number", "_law_size", "_law_letters_here", "_law_label_here", "_law_k"]) (k:=0) (body:=eY) rfl rfl rfl F cU λcdv A outer s H E hr=>?_
 unfold eY;exact (ai (aC (i:=2) cU.nd rfl (Or.inl rfl) vo)
   (ai (aC (i:=3) cU.nd rfl (Or.inl rfl) vo)
   (ai (b6 rfl PassesOwn.never (iZ rfl T.z_range (aa 1)) (aA (i:=4) cU.nd rfl (Or.inl rfl)) (ai (aC (i:=3) cU.nd rfl (Or.inl rfl) (ay aU bp (aa 3) (au ao ar (aa 2) (ay dS (λ_=>dQ) (aa 0) ah) (λ_ _=>rfl))))
   (aq (aC (i:=0) cU.nd rfl (Or.inl rfl) (ay gO (λ_=>iQ) (aa 0) ah)))))
   (aq (aJ (aa 3))))))
theorem nR {f:Addr} {fd:FuncData} (F:Fun K "_law_whole" "_law_whole" cZ f fd) (T:Txt K mg) (O:Obs K mg c_Standing c_Lying c_Turned f_Standing_spot f_Lying_spot f_Turned___init__ f_Turned_spot f_Standing_box):FnOk P w K mg base CX0 1 f fd ["_law_found"] (sp3 K mg eW):=by
 refine dR (N:=["_law_found"]) (k:=0) (body:=fO) rfl rfl rfl F nW λcdv A outer s H E hr=>?_
 unfold fO;exact (aq (aJ (nh (kY rfl T.z_isinstance rfl T.z_int vk (aa 0)) (kU (Du (kY rfl T.z_isinstance rfl T.z_bool za (aa 0)))))))
theorem nJ {f:Addr} {fd:FuncData} (F:Fun K "_law_cross" "_law_cross" b9 f fd) (T:Txt K mg) (O:Obs K mg c_Standing c_Lying c_Turned f_Standing_spot f_Lying_spot f_Turned___init__ f_Turned_spot f_Standing_box):FnOk P w K mg base CX0 1 f fd ["_law_one", "_law_other", "_law_spot"] (sp3 K mg aQ):=by
 refine dR (N:=["_law_one", "_law_other", "_law_spot", "_law_ahead"]) (k:=0) (body:=fR) rfl rfl rfl F jT λcdv A outer s H E hr=>?_
 unfold fR;exact (ai (aC (i:=3) jT.nd rfl (Or.inl rfl) (ay bQ cN (ay d7 (λ_=>d8) (au ao ar (aa 1) ah (λ_ _=>rfl)) (au ao ar (aa 0) ah (λ_ _=>rfl))) (ay d7 (λ_=>d8) (au ao ar (aa 2) ah (λ_ _=>rfl)) (au ao ar (aa 0) ah (λ_ _=>rfl)))))
   (aq (aJ (ay d7 (λ_=>d8) (aa 3) (ay bQ cN (ay d7 (λ_=>d8) (au ao ar (aa 1) ah (λ_ _=>rfl)) (au ao ar (aa 0) ah (λ_ _=>rfl))) (ay d7 (λ_=>d8) (au ao ar (aa 2) ah (λ_ _=>rfl)) (au ao ar (aa 0) ah (λ_ _=>rfl))))))))
theorem nM {f:Addr} {fd:FuncData} (F:Fun K "_law_apart" "_law_apart" cg f fd) (T:Txt K mg) (O:Obs K mg c_Standing c_Lying c_Turned f_Standing_spot f_Lying_spot f_Turned___init__ f_Turned_spot f_Standing_box):FnOk P w K mg base CX0 1 f fd ["_law_one", "_law_other"] (sp3 K mg bE):=by
 refine dR (N:=["_law_one", "_law_other"]) (k:=0) (body:=fP) rfl rfl rfl F nC λcdv A outer s H E hr=>?_
 unfold fP;exact (aq (aJ (vi (eR jQ (λ_=>jM) (au ao ar (aa 0) ah (λ_ _=>rfl)) (au ao ar (aa 1) ah (λ_ _=>rfl)) (aT _)) (vi (eR jQ (λ_=>jM) (au ao ar (aa 1) ah (λ_ _=>rfl)) (au ao ar (aa 0) ah (λ_ _=>rfl)) (aT _)) (vi (eR jQ (λ_=>jM) (au ao ar (aa 0) ah (λ_ _=>rfl)) (au ao ar (aa 1) ah (λ_ _=>rfl)) (aT _)) (kU (eR jQ (λ_=>jM) (au ao ar (aa 1) ah (λ_ _=>rfl)) (au ao ar (aa 0) ah (λ_ _=>rfl)) (aT _))))))))
theorem nL {f:Addr} {fd:FuncData} (F:Fun K "_law_frame" "_law_frame" cF f fd) (T:Txt K mg) (O:Obs K mg c_Standing c_Lying c_Turned f_Standing_spot f_Lying_spot f_Turned___init__ f_Turned_spot f_Standing_box):FnOk P w K mg base CX0 1 f fd ["_law_one", "_law_other"] (sp3 K mg cG):=by
 refine dR (N:=["_law_one", "_law_other"]) (k:=0) (body:=fL) rfl rfl rfl F nI λcdv A outer s H E hr=>?_
 unfold fL;exact (aq (aJ (dw (ab (a_ (iG rfl) (λ_=>kM) rfl T.z_min PyProof.Rows.boot_min (ab (au ao ar (aa 0) ah (λ_ _=>rfl)) (ab (au ao ar (aa 1) ah (λ_ _=>rfl)) aj))) (ab (a_ (iG rfl) (λ_=>kM) rfl T.z_min PyProof.Rows.boot_min (ab (au ao ar (aa 0) ah (λ_ _=>rfl)) (ab (au ao ar (aa 1) ah (λ_ _=>rfl)) aj))) (ab (a_ (jv rfl) (λ_=>mq) rfl T.z_max PyProof.Rows.boot_max (ab (au ao ar (aa 0) ah (λ_ _=>rfl)) (ab (au ao ar (aa 1) ah (λ_ _=>rfl)) aj))) (ab (a_ (jv rfl) (λ_=>mq) rfl T.z_max PyProof.Rows.boot_max (ab (au ao ar (aa 0) ah (λ_ _=>rfl)) (ab (au ao ar (aa 1) ah (λ_ _=>rfl)) aj))) aj)))))))
theorem lW {f:Addr} {fd:FuncData} (F:Fun K "_law_on_side" "_law_on_side" cu f fd) (T:Txt K mg) (O:Obs K mg c_Standing c_Lying c_Turned f_Standing_spot f_Lying_spot f_Turned___init__ f_Turned_spot f_Standing_box):FnOk P w K mg base CX0 1 f fd ["_law_spot", "_law_box"] (sp3 K mg bc):=by
 refine dR (N:=["_law_spot", "_law_box"]) (k:=0) (body:=d3) rfl rfl rfl F lY λcdv A outer s H E hr=>?_
 unfold d3;exact (ai (c8 (lU (jO (b5 (fi hr.units) gY (au ao ar (aa 0) ah (λ_ _=>rfl)) (au ao ar (aa 1) ah (λ_ _=>rfl)) (aT _)) (ip (b5 (fi hr.units) gY (au ao ar (aa 0) ah (λ_ _=>rfl)) (au ao ar (aa 1) ah (λ_ _=>rfl)) (aT _))))) (aq (aJ (nh (eR jQ (λ_=>jM) (au ao ar (aa 1) ah (λ_ _=>rfl)) (au ao ar (aa 0) ah (λ_ _=>rfl)) (aT _)) (kU (eR jQ (λ_=>jM) (au ao ar (aa 0) ah (λ_ _=>rfl)) (au ao ar (aa 1) ah (λ_ _=>rfl)) (aT _)))))) a9)
   (ai (c8 (lU (jO (b5 (fi hr.units) gY (au ao ar (aa 0) ah (λ_ _=>rfl)) (au ao ar (aa 1) ah (λ_ _=>rfl)) (aT _)) (ip (b5 (fi hr.units) gY (au ao ar (aa 0) ah (λ_ _=>rfl)) (au ao ar (aa 1) ah (λ_ _=>rfl)) (aT _))))) (aq (aJ (nh (eR jQ (λ_=>jM) (au ao ar (aa 1) ah (λ_ _=>rfl)) (au ao ar (aa 0) ah (λ_ _=>rfl)) (aT _)) (kU (eR jQ (λ_=>jM) (au ao ar (aa 0) ah (λ_ _=>rfl)) (au ao ar (aa 1) ah (λ_ _=>rfl)) (aT _)))))) a9)
   (aq (aJ ee))))
theorem m_ {f:Addr} {fd:FuncData} (F:Fun K "children_of" "children_of" b_ f fd) (T:Txt K mg) (O:Obs K mg c_Standing c_Lying c_Turned f_Standing_spot f_Lying_spot f_Turned___init__ f_Turned_spot f_Standing_box) {A1:Addr} {B1:FuncData} (W1:Def K mg "check_node" cY ["tree", "node"] A1 B1) (X1:FnOk P w K mg base CX0 1 A1 B1 ["tree", "node"] (sp3 K mg eS)):FnOk P w K mg base CX0 2 f fd ["tree", "node"] (sp3 K mg dt):=by
 refine dR (N:=["tree", "node"]) (k:=1) (body:=fB) rfl rfl rfl F mF λcdv A outer s H E hr=>?_
 unfold fB;exact (ai (zJ (az X1 (hr.mono (by decide)) rfl W1.g W1.F.kp W1.b aN (ab (aa 0) (ab (aa 1) aj))))
   (aq (aJ (eF (sc:=(ag b_)) (outs:=[(1, "node")]) (is:=[0,1]) ["number", "row"] ⟨rfl,rfl,by decide +kernel,by decide +kernel,by decide +kernel,⟨⟨rfl,rfl⟩,trivial⟩⟩ rfl (by decide) (o5 rfl T.z_enumerate (aa 0)) (λ_ _ _ _ _=>(i_ (n:=2) rfl (bX (aA (i:=0) (show List.Nodup (["number", "row", "node"]:List Str) by decide +kernel) rfl (Or.inl rfl)) (bX (aA (i:=1) (show List.Nodup (["number", "row", "node"]:List Str) by decide +kernel) rfl (Or.inl rfl)) hR)))) (λ_ _ _ _ _=>(pY (b5 (fi hr.units) gY (au ao ar (aa 1) ah (λ_ _=>rfl)) (aa 2) (aT _)))) (λ_ _ _ _ _=>(aa 0))))))
theorem pX {f:Addr} {fd:FuncData} (F:Fun K "levels_of" "levels_of" dE f fd) (T:Txt K mg) (O:Obs K mg c_Standing c_Lying c_Turned f_Standing_spot f_Lying_spot f_Turned___init__ f_Turned_spot f_Standing_box) {A2:Addr} {B2:FuncData} (W2:Def K mg "node_levels" bH ["tree"] A2 B2) (X2:FnOk P w K mg base CX0 1 A2 B2 ["tree"] (sp3 K mg bK)):FnOk P w K mg base CX0 2 f fd ["tree"] (sp3 K mg fq):=by
 refine dR (N:=["tree", "numbers", "node", "level"]) (k:=1) (body:=gL) rfl rfl rfl F gH λcdv A outer s H E hr=>?_
 unfold gL;exact (ai (aC (i:=1) gH.nd rfl (Or.inl rfl) (cT aj))
   (ai (b6 rfl PassesOwn.never (o5 rfl T.z_enumerate (az X2 (hr.mono (by decide)) rfl W2.g W2.F.kp W2.b aN (ab (aa 0) aj))) (i_ (n:=2) rfl (bX (aA (i:=2) gH.nd rfl (Or.inl rfl)) (bX (aA (i:=3) gH.nd rfl (Or.inl rfl)) hR))) (ai (c8 (CV (b5 (fi hr.units) gY (aa 3) (a_ aK bJ rfl T.z_len PySem.boot_len (ab (aa 1) aj)) (aT _))) (aq (gh 1 (cT aj))) a9)
   (aq (xp 1 (aa 3) (aa 2) (λ_ _=>rfl)))))
   (aq (ft 1))))
theorem jW {f:Addr} {fd:FuncData} (F:Fun K "earliest_places" "earliest_places" a8 f fd) (T:Txt K mg) (O:Obs K mg c_Standing c_Lying c_Turned f_Standing_spot f_Lying_spot f_Turned___init__ f_Turned_spot f_Standing_box) {A4:Addr} {B4:FuncData} (W4:Def K mg "nearest" d6 ["one", "other", "gap"] A4 B4) (X4:FnOk P w K mg base CX0 1 A4 B4 ["one", "other", "gap"] (sp3 K mg en)):FnOk P w K mg base CX0 2 f fd ["outlines", "gap"] (sp3 K mg cO):=by
 refine dR (N:=["outlines", "gap", "places", "number", "asked"]) (k:=1) (body:=dU) rfl rfl rfl F dM λcdv A outer s H E hr=>?_
 unfold dU;exact (ai (aC (i:=2) dM.nd rfl (Or.inr rfl) (cT (ab ah aj)))
   (ai (b6 rfl PassesOwn.never (ou rfl T.z_range ah (a_ aK bJ rfl T.z_len PySem.boot_len (ab (aa 0) aj))) (aA (i:=3) dM.nd rfl (Or.inr rfl)) (ai (hZ (i:=4) (sc:=(ag a8)) (outs:=[(2, "places"),(0, "outlines"),(3, "number"),(1, "gap")]) (is:=[0]) ["ahead"] (λ_ _ _ q=>x4 (nY q)) dM.nd rfl (Or.inl rfl) ⟨rfl,rfl,by decide +kernel,by decide +kernel,by decide +kernel,⟨⟨rfl,rfl⟩,⟨rfl,rfl⟩,⟨rfl,rfl⟩,⟨rfl,rfl⟩,trivial⟩⟩ rfl (by decide) (iZ rfl T.z_range (aa 3)) (λ_ _ _ _ _=>(aA (i:=0) (show List.Nodup (["ahead", "places", "outlines", "number", "gap"]:List Str) by decide +kernel) rfl (Or.inl rfl))) (λ_ _ _ _ _=>eA) (λ_ _ _ _ _=>(ay aU bp (au ao ar (aa 1) (aa 0) (λ_ _=>rfl)) (au ao ar (az X4 (hr.mono (by decide)) rfl W4.g W4.F.kp W4.b aN (ab (au ao ar (aa 2) (aa 0) (λ_ _=>rfl)) (ab (au ao ar (aa 2) (aa 3) (λ_ _=>rfl)) (ab (aa 4) aj)))) ah (λ_ _=>rfl)))))
   (aq (gh 2 (a_ (gP _ rfl rfl) jy rfl T.z_max PyProof.Rows.boot_max (ab (aa 4) aj))))))
   (aq (ft 2))))
theorem lq {f:Addr} {fd:FuncData} (F:Fun K "latest_places" "latest_places" bz f fd) (T:Txt K mg) (O:Obs K mg c_Standing c_Lying c_Turned f_Standing_spot f_Lying_spot f_Turned___init__ f_Turned_spot f_Standing_box) {A4:Addr} {B4:FuncData} (W4:Def K mg "nearest" d6 ["one", "other", "gap"] A4 B4) (X4:FnOk P w K mg base CX0 1 A4 B4 ["one", "other", "gap"] (sp3 K mg en)):FnOk P w K mg base CX0 2 f fd ["outlines", "gap", "last"] (sp3 K mg dB):=by
 refine dR (N:=["outlines", "gap", "last", "count", "places", "number", "one", "asked"]) (k:=1) (body:=eI) rfl rfl rfl F cI λcdv A outer s H E hr=>?_
 unfold eI;exact (ai (aC (i:=3) cI.nd rfl (Or.inl rfl) (a_ aK bJ rfl T.z_len PySem.boot_len (ab (aa 0) aj)))
   (ai (aC (i:=4) cI.nd rfl (Or.inr rfl) (ay bQ cN (cT (ab (aa 2) aj)) (aa 3)))
   (ai (b6 rfl PassesOwn.never (An rfl T.z_range (ay d7 (λ_=>d8) (aa 3) ah) (hG fF (λ_=>fC) ah) (hG fF (λ_=>fC) ah)) (aA (i:=5) cI.nd rfl (Or.inl rfl)) (ai (aC (i:=6) cI.nd rfl (Or.inr rfl) (au ao ar (aa 0) (aa 5) (λ_ _=>rfl)))
   (ai (hZ (i:=7) (sc:=(ag bz)) (outs:=[(4, "places"),(6, "one"),(0, "outlines"),(1, "gap")]) (is:=[0]) ["behind"] (λ_ _ _ q=>x4 (nY q)) cI.nd rfl (Or.inl rfl) ⟨rfl,rfl,by decide +kernel,by decide +kernel,by decide +kernel,⟨⟨rfl,rfl⟩,⟨rfl,rfl⟩,⟨rfl,rfl⟩,⟨rfl,rfl⟩,trivial⟩⟩ rfl (by decide) (ou rfl T.z_range (ay aU bp (aa 5) ah) (aa 3)) (λ_ _ _ _ _=>(aA (i:=0) (show List.Nodup (["behind", "places", "one", "outlines", "gap"]:List Str) by decide +kernel) rfl (Or.inl rfl))) (λ_ _ _ _ _=>eA) (λ_ _ _ _ _=>(ay d7 (λ_=>d8) (au ao ar (aa 1) (aa 0) (λ_ _=>rfl)) (au ao ar (az X4 (hr.mono (by decide)) rfl W4.g W4.F.kp W4.b aN (ab (aa 2) (ab (au ao ar (aa 3) (aa 0) (λ_ _=>rfl)) (ab (aa 4) aj)))) ah (λ_ _=>rfl)))))
   (aq (rH 4 (aa 5) (a_ (jG _ rfl rfl) mi rfl T.z_min PyProof.Rows.boot_min (ab (aa 7) aj)))))))
   (aq (ft 4)))))
theorem lz {f:Addr} {fd:FuncData} (F:Fun K "moved_to_side" "moved_to_side" bg f fd) (T:Txt K mg) (O:Obs K mg c_Standing c_Lying c_Turned f_Standing_spot f_Lying_spot f_Turned___init__ f_Turned_spot f_Standing_box) {A3:Addr} {B3:FuncData} (W3:Def K mg "reaches" dA ["tree"] A3 B3) (X3:FnOk P w K mg base CX0 1 A3 B3 ["tree"] (sp3 K mg df)):FnOk P w K mg base CX0 2 f fd ["tree", "places", "unit"] (sp3 K mg du):=by
 refine dR (N:=["tree", "places", "unit", "least"]) (k:=1) (body:=eL) rfl rfl rfl F iy λcdv A outer s H E hr=>?_
 unfold eL;exact (ai (aC (i:=3) iy.nd rfl (Or.inr rfl) (a_ (jG _ rfl rfl) mi rfl T.z_min PyProof.Rows.boot_min (ab (eF (sc:=(ag bg)) (outs:=[(2, "unit")]) (is:=[0,1]) ["place", "reach"] ⟨rfl,rfl,by decide +kernel,by decide +kernel,by decide +kernel,⟨⟨rfl,rfl⟩,trivial⟩⟩ rfl (by decide) (o7 rfl T.z_zip (aa 1) (az X3 (hr.mono (by decide)) rfl W3.g W3.F.kp W3.b aN (ab (aa 0) aj))) (λ_ _ _ _ _=>(i_ (n:=2) rfl (bX (aA (i:=0) (show List.Nodup (["place", "reach", "unit"]:List Str) by decide +kernel) rfl (Or.inl rfl)) (bX (aA (i:=1) (show List.Nodup (["place", "reach", "unit"]:List Str) by decide +kernel) rfl (Or.inl rfl)) hR)))) (λ_ _ _ _ _=>eA) (λ_ _ _ _ _=>(ay d7 (λ_=>d8) (aa 0) (ay bQ cN (aa 2) (aa 1))))) aj)))
   (aq (aJ (eF (sc:=(ag bg)) (outs:=[(3, "least")]) (is:=[0]) ["place"] ⟨rfl,rfl,by decide +kernel,by decide +kernel,by decide +kernel,⟨⟨rfl,rfl⟩,trivial⟩⟩ rfl (by decide) (cP (aa 1)) (λ_ _ _ _ _=>(aA (i:=0) (show List.Nodup (["place", "least"]:List Str) by decide +kernel) rfl (Or.inl rfl))) (λ_ _ _ _ _=>eA) (λ_ _ _ _ _=>(ay d7 (λ_=>d8) (aa 0) (aa 1)))))))
theorem lV {f:Addr} {fd:FuncData} (F:Fun K "turned_point" "turned_point" cy f fd) (T:Txt K mg) (O:Obs K mg c_Standing c_Lying c_Turned f_Standing_spot f_Lying_spot f_Turned___init__ f_Turned_spot f_Standing_box) {A6:Addr} {B6:FuncData} (W6:Def K mg "flips" h_ ["turn"] A6 B6) (X6:FnOk P w K mg base CX0 1 A6 B6 ["turn"] (sp3 K mg jd)):FnOk P w K mg base CX0 2 f fd ["turn", "point"] (sp3 K mg dZ):=by
 refine dR (N:=["turn", "point", "spot", "quarter"]) (k:=1) (body:=eZ) rfl rfl rfl F e9 λcdv A outer s H E hr=>?_
 unfold eZ;exact (ai (aC (i:=2) e9.nd rfl (Or.inl rfl) (Ag (dh (az X6 (hr.mono (by decide)) rfl W6.g W6.F.kp W6.b aN (ab (aa 0) aj))) (dw (ab (hG fF (λ_=>fC) (au ao ar (aa 1) ah (λ_ _=>rfl))) (ab (au ao ar (aa 1) ah (λ_ _=>rfl)) aj))) (aa 1)))
   (ai (b6 rfl PassesOwn.never (iZ rfl T.z_range (ay dS (λ_=>dQ) (aa 0) (dX rfl T.c_QUARTERS))) (aA (i:=3) e9.nd rfl (Or.inl rfl)) (aq (aC (i:=2) e9.nd rfl (Or.inl rfl) (dw (ab (hG fF (λ_=>fC) (au ao ar (aa 2) ah (λ_ _=>rfl))) (ab (au ao ar (aa 2) ah (λ_ _=>rfl)) aj))))))
   (aq (aJ (aa 2)))))
theorem nF {f:Addr} {fd:FuncData} (F:Fun K "_law_label" "_law_label" c7 f fd) (T:Txt K mg) (O:Obs K mg c_Standing c_Lying c_Turned f_Standing_spot f_Lying_spot f_Turned___init__ f_Turned_spot f_Standing_box) {A7:Addr} {B7:FuncData} (W7:Def K mg "_law_letters" cz ["_law_number", "_law_size"] A7 B7) (X7:FnOk P w K mg base CX0 1 A7 B7 ["_law_number", "_law_size"] (sp3 K mg dY)):FnOk P w K mg base CX0 2 f fd ["_law_number", "_law_most"] (sp3 K mg dW):=by
 refine dR (N:=["_law_number", "_law_most"]) (k:=1) (body:=eX) rfl rfl rfl F nK λcdv A outer s H E hr=>?_
 unfold eX;exact (aq (aJ (az X7 (hr.mono (by decide)) rfl W7.g W7.F.kp W7.b aN (ab (ay gO (λ_=>iQ) (aa 0) (aa 1)) (ab (ay aU bp ah (ay dS (λ_=>dQ) (aa 0) (aa 1))) aj)))))
theorem lZ {f:Addr} {fd:FuncData} (F:Fun K "_law_numbers" "_law_numbers" bI f fd) (T:Txt K mg) (O:Obs K mg c_Standing c_Lying c_Turned f_Standing_spot f_Lying_spot f_Turned___init__ f_Turned_spot f_Standing_box) {A8:Addr} {B8:FuncData} (W8:Def K mg "_law_whole" cZ ["_law_found"] A8 B8) (X8:FnOk P w K mg base CX0 1 A8 B8 ["_law_found"] (sp3 K mg eW)):FnOk P w K mg base CX0 2 f fd ["_law_found", "_law_size"] (sp3 K mg bW):=by
 refine dR (N:=["_law_found", "_law_size"]) (k:=1) (body:=e7) rfl rfl rfl F lX λcdv A outer s H E hr=>?_
 unfold e7;exact (ai (c8 (lU (jO (fK (dh (kY rfl T.z_isinstance rfl T.z_tuple qM (aa 0)))) (ip (b5 (ij hr.units) jN (a_ aK bJ rfl T.z_len PySem.boot_len (ab (aa 0) aj)) (aa 1) (aT _))))) (aq (aJ ee)) a9)
   (aq (aJ (eR (fi hr.units) gY (a_ aK bJ rfl T.z_len PySem.boot_len (ab (eF (sc:=(ag bI)) (outs:=[]) (is:=[0]) ["_law_number"] ⟨rfl,rfl,by decide +kernel,by decide +kernel,by decide +kernel,trivial⟩ rfl (by decide) (wC (aa 0)) (λ_ _ _ _ _=>(aA (i:=0) (show List.Nodup (["_law_number"]:List Str) by decide +kernel) rfl (Or.inl rfl))) (λ_ _ _ _ _=>(pY (dh (az X8 (hr.mono (by decide)) rfl W8.g W8.F.kp W8.b aN (ab (aa 0) aj))))) (λ_ _ _ _ _=>(aa 0))) aj)) (aa 1) (aT _)))))
theorem kQ {f:Addr} {fd:FuncData} (F:Fun K "_law_meets_box" "_law_meets_box" bC f fd) (T:Txt K mg) (O:Obs K mg c_Standing c_Lying c_Turned f_Standing_spot f_Lying_spot f_Turned___init__ f_Turned_spot f_Standing_box) {A9:Addr} {B9:FuncData} (W9:Def K mg "_law_cross" b9 ["_law_one", "_law_other", "_law_spot"] A9 B9) (X9:FnOk P w K mg base CX0 1 A9 B9 ["_law_one", "_law_other", "_law_spot"] (sp3 K mg aQ)) {A10:Addr} {B10:FuncData} (W10:Def K mg "_law_apart" cg ["_law_one", "_law_other"] A10 B10) (X10:FnOk P w K mg base CX0 1 A10 B10 ["_law_one", "_law_other"] (sp3 K mg bE)) {A11:Addr} {B11:FuncData} (W11:Def K mg "_law_frame" cF ["_law_one", "_law_other"] A11 B11) (X11:FnOk P w K mg base CX0 1 A11 B11 ["_law_one", "_law_other"] (sp3 K mg cG)):FnOk P w K mg base CX0 2 f fd ["_law_one", "_law_other", "_law_box"] (sp3 K mg bt):=by
 refine dR (N:=["_law_one", "_law_other", "_law_box", "_law_sides", "_law_x", "_law_y"]) (k:=1) (body:=cB) rfl rfl rfl F ef λcdv A outer s H E hr=>?_
 unfold cB;exact (ai (c8 (dh (az X10 (hr.mono (by decide)) rfl W10.g W10.F.kp W10.b aN (ab (az X11 (hr.mono (by decide)) rfl W11.g W11.F.kp W11.b aN (ab (aa 0) (ab (aa 1) aj))) (ab (aa 2) aj)))) (aq (aJ ee)) a9)
   (ai (aC (i:=3) ef.nd rfl (Or.inl rfl) (cT aj))
   (ai (b6 rfl PassesOwn.never (cP (cT (ab (au ao ar (aa 2) ah (λ_ _=>rfl)) (ab (au ao ar (aa 2) ah (λ_ _=>rfl)) aj)))) (aA (i:=4) ef.nd rfl (Or.inl rfl)) (aq (b6 rfl PassesOwn.never (cP (cT (ab (au ao ar (aa 2) ah (λ_ _=>rfl)) (ab (au ao ar (aa 2) ah (λ_ _=>rfl)) aj)))) (aA (i:=5) ef.nd rfl (Or.inl rfl)) (aq (gh 3 (cS (az X9 (hr.mono (by decide)) rfl W9.g W9.F.kp W9.b aN (ab (aa 0) (ab (aa 1) (ab (dw (ab (aa 4) (ab (aa 5) aj))) aj))))))))))
   (aq (pH 3 (aJ (nh (eR z_ (λ_=>zO) (a_ (jG _ rfl rfl) mi rfl T.z_min PyProof.Rows.boot_min (ab (aa 3) aj)) ah (aT _)) (kU (eR w9 (λ_=>xr) (a_ (gP _ rfl rfl) jy rfl T.z_max PyProof.Rows.boot_max (ab (aa 3) aj)) ah (aT _))))))))))
theorem pI {f:Addr} {fd:FuncData} (F:Fun K "_law_meet" "_law_meet" dG f fd) (T:Txt K mg) (O:Obs K mg c_Standing c_Lying c_Turned f_Standing_spot f_Lying_spot f_Turned___init__ f_Turned_spot f_Standing_box) {A9:Addr} {B9:FuncData} (W9:Def K mg "_law_cross" b9 ["_law_one", "_law_other", "_law_spot"] A9 B9) (X9:FnOk P w K mg base CX0 1 A9 B9 ["_law_one", "_law_other", "_law_spot"] (sp3 K mg aQ)) {A10:Addr} {B10:FuncData} (W10:Def K mg "_law_apart" cg ["_law_one", "_law_other"] A10 B10) (X10:FnOk P w K mg base CX0 1 A10 B10 ["_law_one", "_law_other"] (sp3 K mg bE)) {A11:Addr} {B11:FuncData} (W11:Def K mg "_law_frame" cF ["_law_one", "_law_other"] A11 B11) (X11:FnOk P w K mg base CX0 1 A11 B11 ["_law_one", "_law_other"] (sp3 K mg cG)):FnOk P w K mg base CX0 2 f fd ["_law_one", "_law_other", "_law_first", "_law_last"] (sp3 K mg c6):=by
 refine dR (N:=["_law_one", "_law_other", "_law_first", "_law_last"]) (k:=1) (body:=eJ) rfl rfl rfl F o8 λcdv A outer s H E hr=>?_
 unfold eJ;exact (ai (c8 (dh (az X10 (hr.mono (by decide)) rfl W10.g W10.F.kp W10.b aN (ab (az X11 (hr.mono (by decide)) rfl W11.g W11.F.kp W11.b aN (ab (aa 0) (ab (aa 1) aj))) (ab (az X11 (hr.mono (by decide)) rfl W11.g W11.F.kp W11.b aN (ab (aa 2) (ab (aa 3) aj))) aj)))) (aq (aJ ee)) a9)
   (ai (c8 (b5 wN (λ_=>xR) (ay t9 (λ_=>tE) (az X9 (hr.mono (by decide)) rfl W9.g W9.F.kp W9.b aN (ab (aa 0) (ab (aa 1) (ab (aa 2) aj)))) (az X9 (hr.mono (by decide)) rfl W9.g W9.F.kp W9.b aN (ab (aa 0) (ab (aa 1) (ab (aa 3) aj))))) ah (aT _)) (aq (aJ ee)) a9)
   (aq (aJ (eR z_ (λ_=>zO) (ay t9 (λ_=>tE) (az X9 (hr.mono (by decide)) rfl W9.g W9.F.kp W9.b aN (ab (aa 2) (ab (aa 3) (ab (aa 0) aj)))) (az X9 (hr.mono (by decide)) rfl W9.g W9.F.kp W9.b aN (ab (aa 2) (ab (aa 3) (ab (aa 1) aj))))) ah (aT _))))))
theorem jL {f:Addr} {fd:FuncData} (F:Fun K "_law_boxes_clear" "_law_boxes_clear" ba f fd) (T:Txt K mg) (O:Obs K mg c_Standing c_Lying c_Turned f_Standing_spot f_Lying_spot f_Turned___init__ f_Turned_spot f_Standing_box) {A10:Addr} {B10:FuncData} (W10:Def K mg "_law_apart" cg ["_law_one", "_law_other"] A10 B10) (X10:FnOk P w K mg base CX0 1 A10 B10 ["_law_one", "_law_other"] (sp3 K mg bE)):FnOk P w K mg base CX0 2 f fd ["_law_sheet"] (sp3 K mg cC):=by
 refine dR (N:=["_law_sheet", "_law_k", "_law_j"]) (k:=1) (body:=dm) rfl rfl rfl F eQ λcdv A outer s H E hr=>?_
 unfold dm;exact (ai (b6 rfl PassesOwn.never (iZ rfl T.z_range (a_ aK bJ rfl T.z_len PySem.boot_len (ab (aa 0) aj))) (aA (i:=1) eQ.nd rfl (Or.inl rfl)) (aq (b6 rfl PassesOwn.never (iZ rfl T.z_range (aa 1)) (aA (i:=2) eQ.nd rfl (Or.inl rfl)) (aq (c8 (fK (dh (az X10 (hr.mono (by decide)) rfl W10.g W10.F.kp W10.b aN (ab (au ao ar (aa 0) (aa 1) (λ_ _=>rfl)) (ab (au ao ar (aa 0) (aa 2) (λ_ _=>rfl)) aj))))) (aq (aJ ee)) a9)))))
   (aq (aJ ee)))
theorem rz {f:Addr} {fd:FuncData} (F:Fun K "room_of" "room_of" fm f fd) (T:Txt K mg) (O:Obs K mg c_Standing c_Lying c_Turned f_Standing_spot f_Lying_spot f_Turned___init__ f_Turned_spot f_Standing_box) {A15:Addr} {B15:FuncData} (W15:Def K mg "earliest_places" a8 ["outlines", "gap"] A15 B15) (X15:FnOk P w K mg base CX0 2 A15 B15 ["outlines", "gap"] (sp3 K mg cO)) {A16:Addr} {B16:FuncData} (W16:Def K mg "latest_places" bz ["outlines", "gap", "last"] A16 B16) (X16:FnOk P w K mg base CX0 2 A16 B16 ["outlines", "gap", "last"] (sp3 K mg dB)):FnOk P w K mg base CX0 3 f fd ["outlines", "gap"] (sp3 K mg gQ):=by
 refine dR (N:=["outlines", "gap", "earliest"]) (k:=2) (body:=iS) rfl rfl rfl F mR λcdv A outer s H E hr=>?_
 unfold iS;exact (ai (aC (i:=2) mR.nd rfl (Or.inl rfl) (cS (az X15 (hr.mono (by decide)) rfl W15.g W15.F.kp W15.b aN (ab (aa 0) (ab (aa 1) aj)))))
   (aq (aJ (dw (ab (aa 2) (ab (cS (az X16 (hr.mono (by decide)) rfl W16.g W16.F.kp W16.b aN (ab (aa 0) (ab (aa 1) (ab (au ao ar (aa 2) (hG fF (λ_=>fC) ah) (λ_ _=>rfl)) aj))))) aj))))))
theorem zj {f:Addr} {fd:FuncData} (F:FunD K "tops" "tops" iP f fd) (T:Txt K mg) (O:Obs K mg c_Standing c_Lying c_Turned f_Standing_spot f_Lying_spot f_Turned___init__ f_Turned_spot f_Standing_box) {A14:Addr} {B14:FuncData} (W14:Def K mg "levels_of" dE ["tree"] A14 B14) (X14:FnOk P w K mg base CX0 2 A14 B14 ["tree"] (sp3 K mg fq)):FnOk P w K mg base CX0 3 f fd ["tree", "between"] (sp3 K mg km):=by
 refine Dt (N:=["tree", "between", "rows_above", "level", "tallest"]) (k:=2) (body:=l9) rfl rfl rfl F ml λcdv A outer s H E hr=>?_
 unfold l9;exact (ai (aC (i:=2) ml.nd rfl (Or.inl rfl) (cT (ab ah aj)))
   (ai (b6 rfl PassesOwn.never (cP (oM mz o6 (az X14 (hr.mono (by decide)) rfl W14.g W14.F.kp W14.b aN (ab (aa 0) aj)) jC (jE (hG fF (λ_=>fC) ah)))) (aA (i:=3) ml.nd rfl (Or.inl rfl)) (ai (aC (i:=4) ml.nd rfl (Or.inl rfl) (a_ (gP _ rfl rfl) jy rfl T.z_max PyProof.Rows.boot_max (ab (eF (sc:=(ag iP)) (outs:=[(0, "tree")]) (is:=[0]) ["node"] ⟨rfl,rfl,by decide +kernel,by decide +kernel,by decide +kernel,⟨⟨rfl,rfl⟩,trivial⟩⟩ rfl (by decide) (cP (aa 3)) (λ_ _ _ _ _=>(aA (i:=0) (show List.Nodup (["node", "tree"]:List Str) by decide +kernel) rfl (Or.inl rfl))) (λ_ _ _ _ _=>eA) (λ_ _ _ _ _=>(au ao ar (au ao ar (aa 1) (aa 0) (λ_ _=>rfl)) ah (λ_ _=>rfl)))) aj)))
   (aq (gh 2 (k9 (ay aU bp (ay aU bp (au ao ar (aa 2) (hG fF (λ_=>fC) ah) (λ_ _=>rfl)) (aa 4)) (aa 1)))))))
   (aq (ft 2))))
theorem mE {f:Addr} {fd:FuncData} (F:Fun K "spot" "Turned.spot" b8 f fd) (T:Txt K mg) (O:Obs K mg c_Standing c_Lying c_Turned f_Standing_spot f_Lying_spot f_Turned___init__ f_Turned_spot f_Standing_box) {A18:Addr} {B18:FuncData} (W18:Def K mg "turned_point" cy ["turn", "point"] A18 B18) (X18:FnOk P w K mg base CX0 2 A18 B18 ["turn", "point"] (sp3 K mg dZ)):FnOk P w K mg base CX0 3 f fd ["self", "point"] (sp3 K mg aD):=by
 refine dR (N:=["self", "point"]) (k:=2) (body:=fv) rfl rfl rfl F nt λcdv A outer s H E hr=>?_
 unfold fv;exact (aq (aJ (az X18 (hr.mono (by decide)) rfl W18.g W18.F.kp W18.b aN (ab (CD (tb:=λnm=>decide (nm = "Turned")) (y8 O.a_Turned ⟨O.i_Turned.c,O.na_Turned_turn⟩) (aa 0)) (ab (aa 1) aj)))))
theorem pL {f:Addr} {fd:FuncData} (F:Fun K "_law_tree" "_law_tree" dH f fd) (T:Txt K mg) (O:Obs K mg c_Standing c_Lying c_Turned f_Standing_spot f_Lying_spot f_Turned___init__ f_Turned_spot f_Standing_box) {A19:Addr} {B19:FuncData} (W19:Def K mg "_law_label" c7 ["_law_number", "_law_most"] A19 B19) (X19:FnOk P w K mg base CX0 2 A19 B19 ["_law_number", "_law_most"] (sp3 K mg dW)):FnOk P w K mg base CX0 3 f fd ["_law_draws_here", "_law_start", "_law_many", "_law_most", "_law_deep"] (sp3 K mg dC):=by
 refine dR (N:=["_law_draws_here", "_law_start", "_law_many", "_law_most", "_law_deep", "_law_tree_here", "_law_way", "_law_k", "_law_number", "_law_tall", "_law_elder", "_law_keep"]) (k:=2) (body:=fw) rfl rfl rfl F a7 λcdv A outer s H E hr=>?_
 unfold fw;exact (ai (aC (i:=5) a7.nd rfl (Or.inl rfl) (cT aj))
   (ai (aC (i:=6) a7.nd rfl (Or.inl rfl) (cS (cT aj)))
   (ai (b6 rfl PassesOwn.never (iZ rfl T.z_range (aa 2)) (aA (i:=7) a7.nd rfl (Or.inl rfl)) (ai (aC (i:=8) a7.nd rfl (Or.inl rfl) (au ao ar (aa 0) (ay aU bp (aa 1) (aa 7)) (λ_ _=>rfl)))
   (ai (aC (i:=9) a7.nd rfl (Or.inl rfl) (ay aU bp ah (ay dS (λ_=>dQ) (aa 8) ah)))
   (ai (aC (i:=8) a7.nd rfl (Or.inl rfl) (ay gO (λ_=>iQ) (aa 8) ah))
   (ai (aC (i:=10) a7.nd rfl (Or.inl rfl) (hG fF (λ_=>fC) ah))
   (ai (c8 (b5 wN (λ_=>xR) (aa 7) ah (aT _)) (ai (aC (i:=11) a7.nd rfl (Or.inl rfl) (ay aU bp ah (ay dS (λ_=>dQ) (aa 8) (a_ aK bJ rfl T.z_len PySem.boot_len (ab (aa 6) aj)))))
   (ai (c8 (b5 (fi hr.units) gY (ay dS (λ_=>dQ) (ay gO (λ_=>iQ) (aa 8) (a_ aK bJ rfl T.z_len PySem.boot_len (ab (aa 6) aj))) ah) ah (aT _)) (aq (aC (i:=11) a7.nd rfl (Or.inl rfl) (a_ aK bJ rfl T.z_len PySem.boot_len (ab (aa 6) aj)))) a9)
   (ai (aC (i:=8) a7.nd rfl (Or.inl rfl) (ay gO (λ_=>iQ) (aa 8) (ay bQ cN ah (a_ aK bJ rfl T.z_len PySem.boot_len (ab (aa 6) aj)))))
   (ai (aC (i:=6) a7.nd rfl (Or.inl rfl) (cS (oM mz o6 (aa 6) jC (jE (a_ (iG rfl) (λ_=>kM) rfl T.z_min PyProof.Rows.boot_min (ab (aa 11) (ab (aa 4) aj)))))))
   (aq (aC (i:=10) a7.nd rfl (Or.inl rfl) (au ao ar (aa 6) (hG fF (λ_=>fC) ah) (λ_ _=>rfl)))))))) a9)
   (ai (gh 5 (cS (dw (ab (aa 10) (ab (cS (az X19 (hr.mono (by decide)) rfl W19.g W19.F.kp W19.b aN (ab (aa 8) (ab (aa 3) aj)))) (ab (aa 9) aj))))))
   (aq (aC (i:=6) a7.nd rfl (Or.inl rfl) (cS (ay aU bp (aa 6) (cT (ab (aa 7) aj)))))))))))))
   (aq (ft 5)))))
theorem qp {f:Addr} {fd:FuncData} (F:Fun K "_law_lay" "_law_lay" eg f fd) (T:Txt K mg) (O:Obs K mg c_Standing c_Lying c_Turned f_Standing_spot f_Lying_spot f_Turned___init__ f_Turned_spot f_Standing_box) {fd_Turned___init__:FuncData} (D_Turned___init__:DefM K "__init__" "Turned.__init__" bq ["self", "turn"] f_Turned___init__ fd_Turned___init__) (G_Turned___init__:FnOk P w K mg base CX0 1 f_Turned___init__ fd_Turned___init__ ["self", "turn"] (spI K "turn")):FnOk P w K mg base CX0 3 f fd ["_law_cell"] (sp3 K mg f_):=by
 refine dR (N:=["_law_cell"]) (k:=2) (body:=ib) rfl rfl rfl F qF λcdv A outer s H E hr=>?_
 unfold ib;exact (ai (c8 (b5 (fi hr.units) gY (ay dS (λ_=>dQ) (aa 0) ah) ah (aT _)) (aq (aJ (ua O.a_Standing O.mk_Standing rfl O.m_Standing))) a9)
   (ai (c8 (b5 (fi hr.units) gY (ay dS (λ_=>dQ) (aa 0) ah) ah (aT _)) (aq (aJ (ua O.a_Lying O.mk_Lying rfl O.m_Lying))) a9)
   (aq (aJ (yJ O.a_Turned O.i_Turned.c O.na_Turned_turn O.mk_Turned G_Turned___init__ (hr.mono (by decide)) rfl O.m_Turned D_Turned___init__.b aN (ab (ay dS (λ_=>dQ) (aa 0) ah) aj))))))
theorem pG {f:Addr} {fd:FuncData} (F:Fun K "_law_told" "_law_told" dc f fd) (T:Txt K mg) (O:Obs K mg c_Standing c_Lying c_Turned f_Standing_spot f_Lying_spot f_Turned___init__ f_Turned_spot f_Standing_box) {A20:Addr} {B20:FuncData} (W20:Def K mg "_law_numbers" bI ["_law_found", "_law_size"] A20 B20) (X20:FnOk P w K mg base CX0 2 A20 B20 ["_law_found", "_law_size"] (sp3 K mg bW)):FnOk P w K mg base CX0 3 f fd ["_law_tree_here", "_law_sheet", "_law_ways"] (sp3 K mg eH):=by
 refine dR (N:=["_law_tree_here", "_law_sheet", "_law_ways", "_law_box", "_law_way"]) (k:=2) (body:=gI) rfl rfl rfl F iJ λcdv A outer s H E hr=>?_
 unfold gI;exact (ai (c8 (lU (jO (fK (dh (kY rfl T.z_isinstance rfl T.z_list tM (aa 1)))) (ip (fK (dh (kY rfl T.z_isinstance rfl T.z_list tM (aa 2))))))) (aq (aJ ee)) a9)
   (ai (c8 (lU (jO (b5 (ij hr.units) jN (a_ aK bJ rfl T.z_len PySem.boot_len (ab (aa 1) aj)) (a_ aK bJ rfl T.z_len PySem.boot_len (ab (aa 0) aj)) (aT _)) (ip (b5 (ij hr.units) jN (a_ aK bJ rfl T.z_len PySem.boot_len (ab (aa 2) aj)) (ay d7 (λ_=>d8) (a_ aK bJ rfl T.z_len PySem.boot_len (ab (aa 0) aj)) ah) (aT _))))) (aq (aJ ee)) a9)
   (ai (b6 rfl PassesOwn.never (cP (aa 1)) (aA (i:=3) iJ.nd rfl (Or.inl rfl)) (aq (c8 (fK (dh (az X20 (hr.mono (by decide)) rfl W20.g W20.F.kp W20.b aN (ab (aa 3) (ab ah aj))))) (aq (aJ ee)) a9)))
   (ai (b6 rfl PassesOwn.never (cP (aa 2)) (aA (i:=4) iJ.nd rfl (Or.inl rfl)) (ai (c8 (lU (jO (fK (dh (kY rfl T.z_isinstance rfl T.z_tuple qM (aa 4)))) (ip (b5 (ij hr.units) jN (a_ aK bJ rfl T.z_len PySem.boot_len (ab (aa 4) aj)) ah (aT _))))) (aq (aJ ee)) a9)
   (aq (c8 (b5 (ij hr.units) jN (a_ aK bJ rfl T.z_len PySem.boot_len (ab (eF (sc:=(ag dc)) (outs:=[]) (is:=[0]) ["_law_spot"] ⟨rfl,rfl,by decide +kernel,by decide +kernel,by decide +kernel,trivial⟩ rfl (by decide) (wC (aa 4)) (λ_ _ _ _ _=>(aA (i:=0) (show List.Nodup (["_law_spot"]:List Str) by decide +kernel) rfl (Or.inl rfl))) (λ_ _ _ _ _=>(pY (dh (az X20 (hr.mono (by decide)) rfl W20.g W20.F.kp W20.b aN (ab (aa 0) (ab ah aj)))))) (λ_ _ _ _ _=>(aa 0))) aj)) ah (aT _)) (aq (aJ ee)) a9))))
   (aq (aJ ee))))))
theorem j4 {f:Addr} {fd:FuncData} (F:Fun K "_law_line_clear" "_law_line_clear" bu f fd) (T:Txt K mg) (O:Obs K mg c_Standing c_Lying c_Turned f_Standing_spot f_Lying_spot f_Turned___init__ f_Turned_spot f_Standing_box) {A21:Addr} {B21:FuncData} (W21:Def K mg "_law_meets_box" bC ["_law_one", "_law_other", "_law_box"] A21 B21) (X21:FnOk P w K mg base CX0 2 A21 B21 ["_law_one", "_law_other", "_law_box"] (sp3 K mg bt)) {A12:Addr} {B12:FuncData} (W12:Def K mg "_law_on_side" cu ["_law_spot", "_law_box"] A12 B12) (X12:FnOk P w K mg base CX0 1 A12 B12 ["_law_spot", "_law_box"] (sp3 K mg bc)):FnOk P w K mg base CX0 3 f fd ["_law_tree_here", "_law_sheet", "_law_way", "_law_node"] (sp3 K mg cL):=by
 refine dR (N:=["_law_tree_here", "_law_sheet", "_law_way", "_law_node", "_law_elder", "_law_k"]) (k:=2) (body:=dI) rfl rfl rfl F e_ λcdv A outer s H E hr=>?_
 unfold dI;exact (ai (aC (i:=4) e_.nd rfl (Or.inl rfl) (au ao ar (au ao ar (aa 0) (aa 3) (λ_ _=>rfl)) ah (λ_ _=>rfl)))
   (ai (c8 (lU (jO (fK (dh (az X12 (hr.mono (by decide)) rfl W12.g W12.F.kp W12.b aN (ab (au ao ar (aa 2) ah (λ_ _=>rfl)) (ab (au ao ar (aa 1) (aa 4) (λ_ _=>rfl)) aj))))) (ip (fK (dh (az X12 (hr.mono (by decide)) rfl W12.g W12.F.kp W12.b aN (ab (au ao ar (aa 2) ah (λ_ _=>rfl)) (ab (au ao ar (aa 1) (aa 3) (λ_ _=>rfl)) aj)))))))) (aq (aJ ee)) a9)
   (ai (b6 rfl PassesOwn.never (iZ rfl T.z_range (a_ aK bJ rfl T.z_len PySem.boot_len (ab (aa 0) aj))) (aA (i:=5) e_.nd rfl (Or.inl rfl)) (ai (c8 (lU (q_ (b5 (ij hr.units) jN (aa 5) (aa 4) (aT _)) (tZ (dh (az X21 (hr.mono (by decide)) rfl W21.g W21.F.kp W21.b aN (ab (au ao ar (aa 2) ah (λ_ _=>rfl)) (ab (au ao ar (aa 2) ah (λ_ _=>rfl)) (ab (au ao ar (aa 1) (aa 5) (λ_ _=>rfl)) aj)))))))) (aq (aJ ee)) a9)
   (aq (c8 (lU (q_ (b5 (ij hr.units) jN (aa 5) (aa 3) (aT _)) (q_ (lU (jO (b5 (ij hr.units) jN (aa 5) (aa 4) (aT _)) (ip (b5 (ij hr.units) jN (au ao ar (aa 2) ah (λ_ _=>rfl)) (au ao ar (aa 2) ah (λ_ _=>rfl)) (aT _))))) (tZ (dh (az X21 (hr.mono (by decide)) rfl W21.g W21.F.kp W21.b aN (ab (au ao ar (aa 2) ah (λ_ _=>rfl)) (ab (au ao ar (aa 2) ah (λ_ _=>rfl)) (ab (au ao ar (aa 1) (aa 5) (λ_ _=>rfl)) aj))))))))) (aq (aJ ee)) a9))))
   (aq (aJ ee)))))
theorem kj {f:Addr} {fd:FuncData} (F:Fun K "_law_two_clear" "_law_two_clear" bA f fd) (T:Txt K mg) (O:Obs K mg c_Standing c_Lying c_Turned f_Standing_spot f_Lying_spot f_Turned___init__ f_Turned_spot f_Standing_box) {A9:Addr} {B9:FuncData} (W9:Def K mg "_law_cross" b9 ["_law_one", "_law_other", "_law_spot"] A9 B9) (X9:FnOk P w K mg base CX0 1 A9 B9 ["_law_one", "_law_other", "_law_spot"] (sp3 K mg aQ)) {A22:Addr} {B22:FuncData} (W22:Def K mg "_law_meet" dG ["_law_one", "_law_other", "_law_first", "_law_last"] A22 B22) (X22:FnOk P w K mg base CX0 2 A22 B22 ["_law_one", "_law_other", "_law_first", "_law_last"] (sp3 K mg c6)):FnOk P w K mg base CX0 3 f fd ["_law_tree_here", "_law_ways", "_law_one", "_law_other"] (sp3 K mg cX):=by
 refine dR (N:=["_law_tree_here", "_law_ways", "_law_one", "_law_other", "_law_here", "_law_there", "_law_k", "_law_j"]) (k:=2) (body:=d_) rfl rfl rfl F c9 λcdv A outer s H E hr=>?_
 unfold d_;exact (ai (aC (i:=4) c9.nd rfl (Or.inl rfl) (au ao ar (aa 1) (ay d7 (λ_=>d8) (aa 2) ah) (λ_ _=>rfl)))
   (ai (aC (i:=5) c9.nd rfl (Or.inl rfl) (au ao ar (aa 1) (ay d7 (λ_=>d8) (aa 3) ah) (λ_ _=>rfl)))
   (ai (c8 (b5 (fi hr.units) gY (au ao ar (au ao ar (aa 0) (aa 2) (λ_ _=>rfl)) ah (λ_ _=>rfl)) (au ao ar (au ao ar (aa 0) (aa 3) (λ_ _=>rfl)) ah (λ_ _=>rfl)) (aT _)) (aq (aJ (nh (eR (fi hr.units) gY (oM xX w8 (aa 4) jC (jE ah)) (oM xX w8 (aa 5) jC (jE ah)) (aT _)) (kU (eR (ij hr.units) jN (az X9 (hr.mono (by decide)) rfl W9.g W9.F.kp W9.b aN (ab (au ao ar (aa 4) ah (λ_ _=>rfl)) (ab (au ao ar (aa 4) ah (λ_ _=>rfl)) (ab (au ao ar (aa 5) ah (λ_ _=>rfl)) aj)))) ah (aT _)))))) a9)
   (ai (b6 rfl PassesOwn.never (iZ rfl T.z_range ah) (aA (i:=6) c9.nd rfl (Or.inl rfl)) (aq (b6 rfl PassesOwn.never (iZ rfl T.z_range ah) (aA (i:=7) c9.nd rfl (Or.inl rfl)) (aq (c8 (dh (az X22 (hr.mono (by decide)) rfl W22.g W22.F.kp W22.b aN (ab (au ao ar (aa 4) (aa 6) (λ_ _=>rfl)) (ab (au ao ar (aa 4) (ay aU bp (aa 6) ah) (λ_ _=>rfl)) (ab (au ao ar (aa 5) (aa 7) (λ_ _=>rfl)) (ab (au ao ar (aa 5) (ay aU bp (aa 7) ah) (λ_ _=>rfl)) aj)))))) (aq (aJ ee)) a9)))))
   (aq (aJ ee))))))
theorem l7 {f:Addr} {fd:FuncData} (F:Fun K "stands_below" "stands_below" bO f fd) (T:Txt K mg) (O:Obs K mg c_Standing c_Lying c_Turned f_Standing_spot f_Lying_spot f_Turned___init__ f_Turned_spot f_Standing_box) {A24:Addr} {B24:FuncData} (W24:Def K mg "room_of" fm ["outlines", "gap"] A24 B24) (X24:FnOk P w K mg base CX0 3 A24 B24 ["outlines", "gap"] (sp3 K mg gQ)):FnOk P w K mg base CX0 4 f fd ["outlines", "gap"] (sp3 K mg bh):=by
 refine dR (N:=["outlines", "gap", "room", "elder"]) (k:=3) (body:=e6) rfl rfl rfl F gx λcdv A outer s H E hr=>?_
 unfold e6;exact (ai (aC (i:=2) gx.nd rfl (Or.inl rfl) (cS (az X24 (hr.mono (by decide)) rfl W24.g W24.F.kp W24.b aN (ab (aa 0) (ab (aa 1) aj)))))
   (ai (aC (i:=3) gx.nd rfl (Or.inr rfl) (ay gO (λ_=>iQ) (au ao ar (au ao ar (aa 2) ah (λ_ _=>rfl)) (hG fF (λ_=>fC) ah) (λ_ _=>rfl)) ah))
   (aq (aJ (eF (sc:=(ag bO)) (outs:=[(3, "elder")]) (is:=[0,1]) ["earliest", "latest"] ⟨rfl,rfl,by decide +kernel,by decide +kernel,by decide +kernel,⟨⟨rfl,rfl⟩,trivial⟩⟩ rfl (by decide) (o7 rfl T.z_zip (au ao ar (aa 2) ah (λ_ _=>rfl)) (au ao ar (aa 2) ah (λ_ _=>rfl))) (λ_ _ _ _ _=>(i_ (n:=2) rfl (bX (aA (i:=0) (show List.Nodup (["earliest", "latest", "elder"]:List Str) by decide +kernel) rfl (Or.inl rfl)) (bX (aA (i:=1) (show List.Nodup (["earliest", "latest", "elder"]:List Str) by decide +kernel) rfl (Or.inl rfl)) hR)))) (λ_ _ _ _ _=>eA) (λ_ _ _ _ _=>(ay d7 (λ_=>d8) (ay gO (λ_=>iQ) (ay aU bp (aa 0) (aa 1)) ah) (aa 2))))))))
theorem n8 {f:Addr} {fd:FuncData} (F:Fun K "level_tops" "level_tops" cc f fd) (T:Txt K mg) (O:Obs K mg c_Standing c_Lying c_Turned f_Standing_spot f_Lying_spot f_Turned___init__ f_Turned_spot f_Standing_box) {A25:Addr} {B25:FuncData} (W25:DefD K mg "tops" iP ["tree", "between"] ["between"] 1 [.int 1] A25 B25) (X25:FnOk P w K mg base CX0 3 A25 B25 ["tree", "between"] (sp3 K mg km)):FnOk P w K mg base CX0 4 f fd ["tree", "between"] (sp3 K mg de):=by
 refine dR (N:=["tree", "between"]) (k:=3) (body:=fM) rfl rfl rfl F nU λcdv A outer s H E hr=>?_
 unfold fM;exact (aq (aJ (eF (sc:=(ag cc)) (outs:=[]) (is:=[0]) ["rows"] ⟨rfl,rfl,by decide +kernel,by decide +kernel,by decide +kernel,trivial⟩ rfl (by decide) (cP (az X25 (hr.mono (by decide)) rfl W25.g W25.F.kp W25.b aN (ab (aa 0) (ab (aa 1) aj)))) (λ_ _ _ _ _=>(aA (i:=0) (show List.Nodup (["rows"]:List Str) by decide +kernel) rfl (Or.inl rfl))) (λ_ _ _ _ _=>eA) (λ_ _ _ _ _=>(ay bQ cN (dX rfl T.c_SHREDS) (aa 0))))))
theorem lR {f:Addr} {fd:FuncData} (F:Fun K "box" "Standing.box" cq f fd) (T:Txt K mg) (O:Obs K mg c_Standing c_Lying c_Turned f_Standing_spot f_Lying_spot f_Turned___init__ f_Turned_spot f_Standing_box) {fd_Standing_spot:FuncData} (D_Standing_spot:DefM K "spot" "Standing.spot" bw ["self", "point"] f_Standing_spot fd_Standing_spot) (G_Standing_spot:FnOk P w K mg base CX0 1 f_Standing_spot fd_Standing_spot ["self", "point"] (sp3 K mg ax)) {fd_Lying_spot:FuncData} (D_Lying_spot:DefM K "spot" "Lying.spot" cE ["self", "point"] f_Lying_spot fd_Lying_spot) (G_Lying_spot:FnOk P w K mg base CX0 1 f_Lying_spot fd_Lying_spot ["self", "point"] (sp3 K mg aG)) {fd_Turned_spot:FuncData} (D_Turned_spot:DefM K "spot" "Turned.spot" b8 ["self", "point"] f_Turned_spot fd_Turned_spot) (G_Turned_spot:FnOk P w K mg base CX0 3 f_Turned_spot fd_Turned_spot ["self", "point"] (sp3 K mg aD)):FnOk P w K mg base CX0 4 f fd ["self", "box"] (sp3 K mg aw):=by
 refine dR (N:=["self", "box", "one", "other"]) (k:=3) (body:=e8) rfl rfl rfl F gc λcdv A outer s H E hr=>?_
 unfold e8;exact (ai (aC (i:=2) gc.nd rfl (Or.inl rfl) (cS (jw (tb:=(λnm=>List.lookup nm [("Standing",ax),("Lying",aG),("Turned",aD)])) (k:=3) (bY O.a_Standing ⟨_,⟨O.i_Standing.c,O.me_Standing_spot,⟨_,_,FnOk.mono (k:=3) G_Standing_spot (by decide),D_Standing_spot.b⟩⟩⟩ (bY O.a_Lying ⟨_,⟨O.i_Lying.c,O.me_Lying_spot,⟨_,_,FnOk.mono (k:=3) G_Lying_spot (by decide),D_Lying_spot.b⟩⟩⟩ (bY O.a_Turned ⟨_,⟨O.i_Turned.c,O.me_Turned_spot,⟨_,_,FnOk.mono (k:=3) G_Turned_spot (by decide),D_Turned_spot.b⟩⟩⟩ jF))) (hr.mono (by decide)) aN (aa 0) (ab (dw (ab (au ao ar (aa 1) ah (λ_ _=>rfl)) (ab (au ao ar (aa 1) ah (λ_ _=>rfl)) aj))) aj))))
   (ai (aC (i:=3) gc.nd rfl (Or.inl rfl) (cS (jw (tb:=(λnm=>List.lookup nm [("Standing",ax),("Lying",aG),("Turned",aD)])) (k:=3) (bY O.a_Standing ⟨_,⟨O.i_Standing.c,O.me_Standing_spot,⟨_,_,FnOk.mono (k:=3) G_Standing_spot (by decide),D_Standing_spot.b⟩⟩⟩ (bY O.a_Lying ⟨_,⟨O.i_Lying.c,O.me_Lying_spot,⟨_,_,FnOk.mono (k:=3) G_Lying_spot (by decide),D_Lying_spot.b⟩⟩⟩ (bY O.a_Turned ⟨_,⟨O.i_Turned.c,O.me_Turned_spot,⟨_,_,FnOk.mono (k:=3) G_Turned_spot (by decide),D_Turned_spot.b⟩⟩⟩ jF))) (hr.mono (by decide)) aN (aa 0) (ab (dw (ab (au ao ar (aa 1) ah (λ_ _=>rfl)) (ab (au ao ar (aa 1) ah (λ_ _=>rfl)) aj))) aj))))
   (aq (aJ (dw (ab (a_ (iG rfl) (λ_=>kM) rfl T.z_min PyProof.Rows.boot_min (ab (au ao ar (aa 2) ah (λ_ _=>rfl)) (ab (au ao ar (aa 3) ah (λ_ _=>rfl)) aj))) (ab (a_ (iG rfl) (λ_=>kM) rfl T.z_min PyProof.Rows.boot_min (ab (au ao ar (aa 2) ah (λ_ _=>rfl)) (ab (au ao ar (aa 3) ah (λ_ _=>rfl)) aj))) (ab (a_ (jv rfl) (λ_=>mq) rfl T.z_max PyProof.Rows.boot_max (ab (au ao ar (aa 2) ah (λ_ _=>rfl)) (ab (au ao ar (aa 3) ah (λ_ _=>rfl)) aj))) (ab (a_ (jv rfl) (λ_=>mq) rfl T.z_max PyProof.Rows.boot_max (ab (au ao ar (aa 2) ah (λ_ _=>rfl)) (ab (au ao ar (aa 3) ah (λ_ _=>rfl)) aj))) aj)))))))))
theorem uS {f:Addr} {fd:FuncData} (F:Fun K "pieces" "pieces" eV f fd) (T:Txt K mg) (O:Obs K mg c_Standing c_Lying c_Turned f_Standing_spot f_Lying_spot f_Turned___init__ f_Turned_spot f_Standing_box) {A13:Addr} {B13:FuncData} (W13:Def K mg "children_of" b_ ["tree", "node"] A13 B13) (X13:FnOk P w K mg base CX0 2 A13 B13 ["tree", "node"] (sp3 K mg dt)) {A3:Addr} {B3:FuncData} (W3:Def K mg "reaches" dA ["tree"] A3 B3) (X3:FnOk P w K mg base CX0 1 A3 B3 ["tree"] (sp3 K mg df)) {A31:Addr} {B31:FuncData} (W31:Def K mg "stands_below" bO ["outlines", "gap"] A31 B31) (X31:FnOk P w K mg base CX0 4 A31 B31 ["outlines", "gap"] (sp3 K mg bh)) {A5:Addr} {B5:FuncData} (W5:Def K mg "joined_outline" aS ["outlines", "stands"] A5 B5) (X5:FnOk P w K mg base CX0 1 A5 B5 ["outlines", "stands"] (sp3 K mg bN)):FnOk P w K mg base CX0 5 f fd ["tree", "gap"] (sp3 K mg iA):=by
 refine dR (N:=["tree", "gap", "offsets", "outlines", "node", "children", "below", "stands", "child", "stand"]) (k:=4) (body:=jH) rfl rfl rfl F eG λcdv A outer s H E hr=>?_
 unfold jH;exact (ai (aC (i:=2) eG.nd rfl (Or.inl rfl) (ay bQ cN (cT (ab ah aj)) (a_ aK bJ rfl T.z_len PySem.boot_len (ab (aa 0) aj))))
   (ai (aC (i:=3) eG.nd rfl (Or.inr rfl) (eF (sc:=(ag eV)) (outs:=[]) (is:=[0]) ["reach"] ⟨rfl,rfl,by decide +kernel,by decide +kernel,by decide +kernel,trivial⟩ rfl (by decide) (cP (az X3 (hr.mono (by decide)) rfl W3.g W3.F.kp W3.b aN (ab (aa 0) aj))) (λ_ _ _ _ _=>(aA (i:=0) (show List.Nodup (["reach"]:List Str) by decide +kernel) rfl (Or.inl rfl))) (λ_ _ _ _ _=>eA) (λ_ _ _ _ _=>(cT (ab (cS (dw (ab (ay bQ cN (hG fF (λ_=>fC) (dX rfl T.c_SHREDS)) (aa 0)) (ab (ay bQ cN (dX rfl T.c_SHREDS) (aa 0)) aj)))) aj)))))
   (ai (b6 rfl PassesOwn.never (An rfl T.z_range (ay d7 (λ_=>d8) (a_ aK bJ rfl T.z_len PySem.boot_len (ab (aa 0) aj)) ah) (hG fF (λ_=>fC) ah) (hG fF (λ_=>fC) ah)) (aA (i:=4) eG.nd rfl (Or.inl rfl)) (ai (aC (i:=5) eG.nd rfl (Or.inl rfl) (cS (az X13 (hr.mono (by decide)) rfl W13.g W13.F.kp W13.b aN (ab (aa 0) (ab (aa 4) aj)))))
   (aq (c8 (b5 wN (λ_=>xR) (a_ aK bJ rfl T.z_len PySem.boot_len (ab (aa 5) aj)) ah (aT _)) (ai (yP 3 5 (AY (sc:=(ag eV)) (i:=3) (c:=5) (bi:=6) ⟨rfl,rfl,by decide +kernel,by decide +kernel,by decide +kernel,⟨⟨rfl,rfl⟩,trivial⟩⟩ eG.nd rfl (Or.inl rfl) rfl rfl (by first | exact Or.inl rfl | exact Or.inr (Or.inl rfl) | exact Or.inr (Or.inr rfl)) (λ_ _ _ _ _=>ud (show List.Nodup (["child", "outlines"]:List Str) by decide +kernel) rfl (Or.inl rfl)) (λ_ _ _ _ _ hK=>t5 (mH _ hK) (gm rfl (by first | exact Or.inl rfl | exact Or.inr (Or.inl rfl) | exact Or.inr (Or.inr rfl))) (gm rfl (by first | exact Or.inl rfl | exact Or.inr (Or.inl rfl) | exact Or.inr (Or.inr rfl))) (λ_ _=>rfl))))
   (ai (aC (i:=7) eG.nd rfl (Or.inl rfl) (cS (az X31 (hr.mono (by decide)) rfl W31.g W31.F.kp W31.b aN (ab (aa 6) (ab (aa 1) aj)))))
   (ai (b6 rfl PassesOwn.never (o7 rfl T.z_zip (aa 5) (aa 7)) (i_ (n:=2) rfl (bX (aA (i:=8) eG.nd rfl (Or.inl rfl)) (bX (aA (i:=9) eG.nd rfl (Or.inl rfl)) hR))) (aq (rH 2 (aa 8) (aa 9))))
   (aq (wG 3 (aa 4) (az X5 (hr.mono (by decide)) rfl W5.g W5.F.kp W5.b aN (ab (aa 6) (ab (aa 7) aj))) (λ_ _=>rfl)))))) a9))))
   (aq (pH 3 (pH 2 (aJ (dw (ab (aa 2) (ab (aa 3) aj))))))))))
theorem wz {f:Addr} {fd:FuncData} (F:Fun K "drawn" "drawn" gM f fd) (T:Txt K mg) (O:Obs K mg c_Standing c_Lying c_Turned f_Standing_spot f_Lying_spot f_Turned___init__ f_Turned_spot f_Standing_box) {A17:Addr} {B17:FuncData} (W17:Def K mg "moved_to_side" bg ["tree", "places", "unit"] A17 B17) (X17:FnOk P w K mg base CX0 2 A17 B17 ["tree", "places", "unit"] (sp3 K mg du)) {A33:Addr} {B33:FuncData} (W33:Def K mg "pieces" eV ["tree", "gap"] A33 B33) (X33:FnOk P w K mg base CX0 5 A33 B33 ["tree", "gap"] (sp3 K mg iA)):FnOk P w K mg base CX0 6 f fd ["tree", "gap"] (sp3 K mg g7):=by
 refine dR (N:=["tree", "gap", "offsets", "places", "node"]) (k:=5) (body:=kA) rfl rfl rfl F kq λcdv A outer s H E hr=>?_
 unfold kA;exact (ai (aC (i:=2) kq.nd rfl (Or.inl rfl) (au ao ar (az X33 (hr.mono (by decide)) rfl W33.g W33.F.kp W33.b aN (ab (aa 0) (ab (aa 1) aj))) ah (λ_ _=>rfl)))
   (ai (aC (i:=3) kq.nd rfl (Or.inl rfl) (cT (ab ah aj)))
   (ai (b6 rfl PassesOwn.never (ou rfl T.z_range ah (a_ aK bJ rfl T.z_len PySem.boot_len (ab (aa 0) aj))) (aA (i:=4) kq.nd rfl (Or.inl rfl)) (aq (gh 3 (k9 (ay aU bp (au ao ar (aa 3) (au ao ar (au ao ar (aa 0) (aa 4) (λ_ _=>rfl)) ah (λ_ _=>rfl)) (λ_ _=>rfl)) (au ao ar (aa 2) (aa 4) (λ_ _=>rfl)))))))
   (aq (pH 3 (aJ (az X17 (hr.mono (by decide)) rfl W17.g W17.F.kp W17.b aN (ab (aa 0) (ab (aa 3) (ab (dX rfl T.c_SHREDS) aj))))))))))
theorem xt {f:Addr} {fd:FuncData} (F:FunD K "boxes" "boxes" gF f fd) (T:Txt K mg) (O:Obs K mg c_Standing c_Lying c_Turned f_Standing_spot f_Lying_spot f_Turned___init__ f_Turned_spot f_Standing_box) {A2:Addr} {B2:FuncData} (W2:Def K mg "node_levels" bH ["tree"] A2 B2) (X2:FnOk P w K mg base CX0 1 A2 B2 ["tree"] (sp3 K mg bK)) {A3:Addr} {B3:FuncData} (W3:Def K mg "reaches" dA ["tree"] A3 B3) (X3:FnOk P w K mg base CX0 1 A3 B3 ["tree"] (sp3 K mg df)) {A34:Addr} {B34:FuncData} (W34:Def K mg "drawn" gM ["tree", "gap"] A34 B34) (X34:FnOk P w K mg base CX0 6 A34 B34 ["tree", "gap"] (sp3 K mg g7)) {A32:Addr} {B32:FuncData} (W32:Def K mg "level_tops" cc ["tree", "between"] A32 B32) (X32:FnOk P w K mg base CX0 4 A32 B32 ["tree", "between"] (sp3 K mg de)):FnOk P w K mg base CX0 7 f fd ["tree", "gap", "between"] (sp3 K mg fV):=by
 refine Dt (N:=["tree", "gap", "between", "above", "told", "row", "place", "reach", "level", "bottom"]) (k:=6) (body:=kH) rfl rfl rfl F fY λcdv A outer s H E hr=>?_
 unfold kH;exact (ai (aC (i:=3) fY.nd rfl (Or.inl rfl) (cS (az X32 (hr.mono (by decide)) rfl W32.g W32.F.kp W32.b aN (ab (aa 0) (ab (aa 2) aj)))))
   (ai (aC (i:=4) fY.nd rfl (Or.inl rfl) (cT aj))
   (ai (b6 rfl PassesOwn.never (GN rfl T.z_zip (aa 0) (az X34 (hr.mono (by decide)) rfl W34.g W34.F.kp W34.b aN (ab (aa 0) (ab (aa 1) aj))) (az X3 (hr.mono (by decide)) rfl W3.g W3.F.kp W3.b aN (ab (aa 0) aj)) (az X2 (hr.mono (by decide)) rfl W2.g W2.F.kp W2.b aN (ab (aa 0) aj))) (i_ (n:=4) rfl (bX (aA (i:=5) fY.nd rfl (Or.inl rfl)) (bX (aA (i:=6) fY.nd rfl (Or.inl rfl)) (bX (aA (i:=7) fY.nd rfl (Or.inl rfl)) (bX (aA (i:=8) fY.nd rfl (Or.inl rfl)) hR))))) (ai (aC (i:=9) fY.nd rfl (Or.inl rfl) (ay aU bp (au ao ar (aa 3) (aa 8) (λ_ _=>rfl)) (ay bQ cN (dX rfl T.c_SHREDS) (au ao ar (aa 5) ah (λ_ _=>rfl)))))
   (aq (gh 4 (cS (dw (ab (ay d7 (λ_=>d8) (aa 6) (ay bQ cN (dX rfl T.c_SHREDS) (aa 7))) (ab (au ao ar (aa 3) (aa 8) (λ_ _=>rfl)) (ab (ay aU bp (aa 6) (ay bQ cN (dX rfl T.c_SHREDS) (ay aU bp (aa 7) ah))) (ab (aa 9) aj))))))))))
   (aq (ft 4)))))
theorem xY {f:Addr} {fd:FuncData} (F:FunD K "lines" "lines" fN f fd) (T:Txt K mg) (O:Obs K mg c_Standing c_Lying c_Turned f_Standing_spot f_Lying_spot f_Turned___init__ f_Turned_spot f_Standing_box) {A2:Addr} {B2:FuncData} (W2:Def K mg "node_levels" bH ["tree"] A2 B2) (X2:FnOk P w K mg base CX0 1 A2 B2 ["tree"] (sp3 K mg bK)) {A34:Addr} {B34:FuncData} (W34:Def K mg "drawn" gM ["tree", "gap"] A34 B34) (X34:FnOk P w K mg base CX0 6 A34 B34 ["tree", "gap"] (sp3 K mg g7)) {A35:Addr} {B35:FuncData} (W35:DefD K mg "boxes" gF ["tree", "gap", "between"] ["between"] 2 [.int 1] A35 B35) (X35:FnOk P w K mg base CX0 7 A35 B35 ["tree", "gap", "between"] (sp3 K mg fV)) {A32:Addr} {B32:FuncData} (W32:Def K mg "level_tops" cc ["tree", "between"] A32 B32) (X32:FnOk P w K mg base CX0 4 A32 B32 ["tree", "between"] (sp3 K mg de)):FnOk P w K mg base CX0 8 f fd ["tree", "gap", "between"] (sp3 K mg iz):=by
 refine Dt (N:=["tree", "gap", "between", "bottoms", "middles", "above", "levels", "told", "node", "elder", "top", "bend"]) (k:=7) (body:=kL) rfl rfl rfl F eT λcdv A outer s H E hr=>?_
 unfold kL;exact (ai (hZ (i:=3) (sc:=(ag fN)) (outs:=[]) (is:=[0]) ["box"] (λ_ _ _ q=>nY q) eT.nd rfl (Or.inl rfl) ⟨rfl,rfl,by decide +kernel,by decide +kernel,by decide +kernel,trivial⟩ rfl (by decide) (cP (az X35 (hr.mono (by decide)) rfl W35.g W35.F.kp W35.b aN (ab (aa 0) (ab (aa 1) (ab (aa 2) aj))))) (λ_ _ _ _ _=>(aA (i:=0) (show List.Nodup (["box"]:List Str) by decide +kernel) rfl (Or.inl rfl))) (λ_ _ _ _ _=>eA) (λ_ _ _ _ _=>(au ao ar (aa 0) ah (λ_ _=>rfl))))
   (ai (hZ (i:=4) (sc:=(ag fN)) (outs:=[]) (is:=[0]) ["place"] (λ_ _ _ q=>nY q) eT.nd rfl (Or.inl rfl) ⟨rfl,rfl,by decide +kernel,by decide +kernel,by decide +kernel,trivial⟩ rfl (by decide) (cP (az X34 (hr.mono (by decide)) rfl W34.g W34.F.kp W34.b aN (ab (aa 0) (ab (aa 1) aj)))) (λ_ _ _ _ _=>(aA (i:=0) (show List.Nodup (["place"]:List Str) by decide +kernel) rfl (Or.inl rfl))) (λ_ _ _ _ _=>eA) (λ_ _ _ _ _=>(ay aU bp (aa 0) (ay gO (λ_=>iQ) (dX rfl T.c_SHREDS) ah))))
   (ai (aC (i:=5) eT.nd rfl (Or.inl rfl) (cS (az X32 (hr.mono (by decide)) rfl W32.g W32.F.kp W32.b aN (ab (aa 0) (ab (aa 2) aj)))))
   (ai (aC (i:=6) eT.nd rfl (Or.inl rfl) (cS (az X2 (hr.mono (by decide)) rfl W2.g W2.F.kp W2.b aN (ab (aa 0) aj))))
   (ai (aC (i:=7) eT.nd rfl (Or.inl rfl) (cT aj))
   (ai (b6 rfl PassesOwn.never (ou rfl T.z_range ah (a_ aK bJ rfl T.z_len PySem.boot_len (ab (aa 0) aj))) (aA (i:=8) eT.nd rfl (Or.inl rfl)) (ai (aC (i:=9) eT.nd rfl (Or.inl rfl) (au ao ar (au ao ar (aa 0) (aa 8) (λ_ _=>rfl)) ah (λ_ _=>rfl)))
   (ai (aC (i:=10) eT.nd rfl (Or.inl rfl) (au ao ar (aa 5) (au ao ar (aa 6) (aa 8) (λ_ _=>rfl)) (λ_ _=>rfl)))
   (ai (aC (i:=11) eT.nd rfl (Or.inl rfl) (ay d7 (λ_=>d8) (aa 10) (ay bQ cN (dX rfl T.c_SHREDS) (aa 2))))
   (aq (gh 7 (dw (ab (dw (ab (au ao ar (aa 4) (aa 9) (λ_ _=>rfl)) (ab (au ao ar (aa 3) (aa 9) (λ_ _=>rfl)) aj))) (ab (dw (ab (au ao ar (aa 4) (aa 9) (λ_ _=>rfl)) (ab (aa 11) aj))) (ab (dw (ab (au ao ar (aa 4) (aa 8) (λ_ _=>rfl)) (ab (aa 10) aj))) aj))))))))))
   (aq (ft 7))))))))
theorem nX {f:Addr} {fd:FuncData} (F:Fun K "_law_draws" "_law_draws" c_ f fd) (T:Txt K mg) (O:Obs K mg c_Standing c_Lying c_Turned f_Standing_spot f_Lying_spot f_Turned___init__ f_Turned_spot f_Standing_box) (S:yn P base):FnOk P w K mg base CX0 34 f fd ["_law_script", "_law_many"] (sp3 K mg d5):=by
 refine dR (N:=["_law_script", "_law_many", "_law_cells", "_law_found", "_law_left", "_law_k", "_law_at", "_law_cell", "_law_one", "_law_other"]) (k:=33) (body:=fS) rfl rfl rfl F bF λcdv A outer s H E hr=>?_
 unfold fS;exact (ai (aC (i:=2) bF.nd rfl (Or.inl rfl) (cS (ay aU bp (oM mz o6 (aa 0) jC (jE ah)) (ay bQ cN (cT (ab ah aj)) (EE u7 (λ_=>zG) rfl T.z_int vk (ab (eR (fi hr.units) gY (aa 0) (cT aj) (aT _)) aj))))))
   (ai (aC (i:=3) bF.nd rfl (Or.inl rfl) (cT aj))
   (ai (c8 (b5 (fi hr.units) gY (ay dS (λ_=>dQ) (au ao ar (aa 2) ah (λ_ _=>rfl)) ah) ah (aT _)) (ai (aC (i:=4) bF.nd rfl (Or.inl rfl) (ay aU bp (cT (ab (ay (wu S (hr.mono (by decide)) rfl rfl rfl rfl rfl) (λ_=>vh) (au ao ar (aa 2) ah (λ_ _=>rfl)) ah) aj)) (oM mz o6 (aa 2) (jE ah) jC)))
   (ai (b6 rfl PassesOwn.never (iZ rfl T.z_range (aa 1)) (aA (i:=5) bF.nd rfl (Or.inl rfl)) (ai (aC (i:=6) bF.nd rfl (Or.inl rfl) (k9 (ay dS (λ_=>dQ) (aa 5) (a_ aK bJ rfl T.z_len PySem.boot_len (ab (aa 4) aj)))))
   (ai (gh 3 (k9 (ay dS (λ_=>dQ) (au ao ar (aa 4) (aa 6) (λ_ _=>rfl)) (ay wg (λ_=>xJ) ah ah))))
   (aq (rH 4 (aa 6) (k9 (ay (wu S (hr.mono (by decide)) rfl rfl rfl rfl rfl) (λ_=>vh) (au ao ar (aa 4) (aa 6) (λ_ _=>rfl)) (ay wg (λ_=>xJ) ah ah))))))))
   (aq (ft 3)))) a9)
   (ai (b6 rfl PassesOwn.never (iZ rfl T.z_range (aa 1)) (aA (i:=5) bF.nd rfl (Or.inl rfl)) (ai (aC (i:=7) bF.nd rfl (Or.inl rfl) (au ao ar (aa 2) (ay dS (λ_=>dQ) (aa 5) (a_ aK bJ rfl T.z_len PySem.boot_len (ab (aa 2) aj))) (λ_ _=>rfl)))
   (ai (aC (i:=8) bF.nd rfl (Or.inl rfl) (ay dS (λ_=>dQ) (ay aU bp (ay aU bp (ay aU bp (ay bQ cN (aa 7) ah) (ay bQ cN (ay bQ cN (aa 5) (aa 5)) ah)) (ay bQ cN ah (aa 5))) ah) ah))
   (ai (aC (i:=9) bF.nd rfl (Or.inl rfl) (ay dS (λ_=>dQ) (ay aU bp (ay bQ cN (aa 8) (aa 8)) (ay bQ cN (aa 5) ah)) ah))
   (aq (gh 3 (ay aU bp (ay bQ cN (ay dS (λ_=>dQ) (ay bQ cN (aa 8) (aa 9)) ah) ah) (aa 9))))))))
   (aq (ft 3))))))
theorem DN {f:Addr} {fd:FuncData} (F:Fun K "law" "law" i8 f fd) (T:Txt K mg) (O:Obs K mg c_Standing c_Lying c_Turned f_Standing_spot f_Lying_spot f_Turned___init__ f_Turned_spot f_Standing_box) {A35:Addr} {B35:FuncData} (W35:DefD K mg "boxes" gF ["tree", "gap", "between"] ["between"] 2 [.int 1] A35 B35) (X35:FnOk P w K mg base CX0 7 A35 B35 ["tree", "gap", "between"] (sp3 K mg fV)) {A36:Addr} {B36:FuncData} (W36:DefD K mg "lines" fN ["tree", "gap", "between"] ["between"] 2 [.int 1] A36 B36) (X36:FnOk P w K mg base CX0 8 A36 B36 ["tree", "gap", "between"] (sp3 K mg iz)) {fd_Standing_spot:FuncData} (D_Standing_spot:DefM K "spot" "Standing.spot" bw ["self", "point"] f_Standing_spot fd_Standing_spot) (G_Standing_spot:FnOk P w K mg base CX0 1 f_Standing_spot fd_Standing_spot ["self", "point"] (sp3 K mg ax)) {fd_Standing_box:FuncData} (D_Standing_box:DefM K "box" "Standing.box" cq ["self", "box"] f_Standing_box fd_Standing_box) (G_Standing_box:FnOk P w K mg base CX0 4 f_Standing_box fd_Standing_box ["self", "box"] (sp3 K mg aw)) {fd_Lying_spot:FuncData} (D_Lying_spot:DefM K "spot" "Lying.spot" cE ["self", "point"] f_Lying_spot fd_Lying_spot) (G_Lying_spot:FnOk P w K mg base CX0 1 f_Lying_spot fd_Lying_spot ["self", "point"] (sp3 K mg aG)) {fd_Turned_spot:FuncData} (D_Turned_spot:DefM K "spot" "Turned.spot" b8 ["self", "point"] f_Turned_spot fd_Turned_spot) (G_Turned_spot:FnOk P w K mg base CX0 3 f_Turned_spot fd_Turned_spot ["self", "point"] (sp3 K mg aD)) {A37:Addr} {B37:FuncData} (W37:Def K mg "_law_draws" c_ ["_law_script", "_law_many"] A37 B37) (X37:FnOk P w K mg base CX0 34 A37 B37 ["_law_script", "_law_many"] (sp3 K mg d5)) {A26:Addr} {B26:FuncData} (W26:Def K mg "_law_tree" dH ["_law_draws_here", "_law_start", "_law_many", "_law_most", "_law_deep"] A26 B26) (X26:FnOk P w K mg base CX0 3 A26 B26 ["_law_draws_here", "_law_start", "_law_many", "_law_most", "_law_deep"] (sp3 K mg dC)) {A27:Addr} {B27:FuncData} (W27:Def K mg "_law_lay" eg ["_law_cell"] A27 B27) (X27:FnOk P w K mg base CX0 3 A27 B27 ["_law_cell"] (sp3 K mg f_)) {A28:Addr} {B28:FuncData} (W28:Def K mg "_law_told" dc ["_law_tree_here", "_law_sheet", "_law_ways"] A28 B28) (X28:FnOk P w K mg base CX0 3 A28 B28 ["_law_tree_here", "_law_sheet", "_law_ways"] (sp3 K mg eH)) {A29:Addr} {B29:FuncData} (W29:Def K mg "_law_line_clear" bu ["_law_tree_here", "_law_sheet", "_law_way", "_law_node"] A29 B29) (X29:FnOk P w K mg base CX0 3 A29 B29 ["_law_tree_here", "_law_sheet", "_law_way", "_law_node"] (sp3 K mg cL)) {A30:Addr} {B30:FuncData} (W30:Def K mg "_law_two_clear" bA ["_law_tree_here", "_law_ways", "_law_one", "_law_other"] A30 B30) (X30:FnOk P w K mg base CX0 3 A30 B30 ["_law_tree_here", "_law_ways", "_law_one", "_law_other"] (sp3 K mg cX)) {A23:Addr} {B23:FuncData} (W23:Def K mg "_law_boxes_clear" ba ["_law_sheet"] A23 B23) (X23:FnOk P w K mg base CX0 2 A23 B23 ["_law_sheet"] (sp3 K mg cC)):FnOk P w K mg base CX0 35 f fd ["_law_script"] (sp3 K mg mD):=by
 refine dR (N:=["_law_script", "_law_draws_here", "_law_tree_here", "_law_gap", "_law_between", "_law_lay_here", "_law_sheet", "_law_ways", "_law_node", "_law_other"]) (k:=34) (body:=pW) rfl rfl rfl F gn λcdv A outer s H E hr=>?_
 unfold pW;exact (ai (aC (i:=1) gn.nd rfl (Or.inl rfl) (cS (az X37 (hr.mono (by decide)) rfl W37.g W37.F.kp W37.b aN (ab (aa 0) (ab ah aj)))))
   (ai (aC (i:=2) gn.nd rfl (Or.inl rfl) (cS (az X26 (hr.mono (by decide)) rfl W26.g W26.F.kp W26.b aN (ab (aa 1) (ab ah (ab (ay aU bp ah (ay dS (λ_=>dQ) (au ao ar (aa 1) ah (λ_ _=>rfl)) ah)) (ab ah (ab ah aj))))))))
   (ai (aC (i:=3) gn.nd rfl (Or.inl rfl) (ay aU bp ah (ay dS (λ_=>dQ) (au ao ar (aa 1) ah (λ_ _=>rfl)) ah)))
   (ai (aC (i:=4) gn.nd rfl (Or.inl rfl) (ay aU bp ah (ay dS (λ_=>dQ) (au ao ar (aa 1) ah (λ_ _=>rfl)) ah)))
   (ai (aC (i:=5) gn.nd rfl (Or.inr rfl) (cS (az X27 (hr.mono (by decide)) rfl W27.g W27.F.kp W27.b aN (ab (au ao ar (aa 1) ah (λ_ _=>rfl)) aj))))
   (ai (aC (i:=6) gn.nd rfl (Or.inl rfl) (cS (az X35 (hr.mono (by decide)) rfl W35.g W35.F.kp W35.b aN (ab (aa 2) (ab (aa 3) (ab (aa 4) aj))))))
   (ai (aC (i:=7) gn.nd rfl (Or.inl rfl) (cS (az X36 (hr.mono (by decide)) rfl W36.g W36.F.kp W36.b aN (ab (aa 2) (ab (aa 3) (ab (aa 4) aj))))))
   (ai (c8 (fK (dh (az X28 (hr.mono (by decide)) rfl W28.g W28.F.kp W28.b aN (ab (aa 2) (ab (aa 6) (ab (aa 7) aj)))))) (aq (aJ ee)) a9)
   (ai (hZ (i:=6) (sc:=(ag i8)) (outs:=[(5, "_law_lay_here")]) (is:=[0]) ["_law_box"] (λ_ _ _ q=>nY q) gn.nd rfl (Or.inl rfl) ⟨rfl,rfl,by decide +kernel,by decide +kernel,by decide +kernel,⟨⟨rfl,rfl⟩,trivial⟩⟩ rfl (by decide) (cP (aa 6)) (λ_ _ _ _ _=>(aA (i:=0) (show List.Nodup (["_law_box", "_law_lay_here"]:List Str) by decide +kernel) rfl (Or.inl rfl))) (λ_ _ _ _ _=>eA) (λ_ _ _ _ _=>(cS (jw (tb:=(λnm=>List.lookup nm [("Standing",aw),("Lying",aw),("Turned",aw)])) (k:=4) (bY O.a_Standing ⟨_,⟨O.i_Standing.c,O.me_Standing_box,⟨_,_,FnOk.mono (k:=4) G_Standing_box (by decide),D_Standing_box.b⟩⟩⟩ (bY O.a_Lying ⟨_,⟨O.i_Lying.c,O.me_Lying_box,⟨_,_,FnOk.mono (k:=4) G_Standing_box (by decide),D_Standing_box.b⟩⟩⟩ (bY O.a_Turned ⟨_,⟨O.i_Turned.c,O.me_Turned_box,⟨_,_,FnOk.mono (k:=4) G_Standing_box (by decide),D_Standing_box.b⟩⟩⟩ jF))) (hr.mono (by decide)) aN (aa 1) (ab (aa 0) aj)))))
   (ai (hZ (i:=7) (sc:=(ag i8)) (outs:=[(5, "_law_lay_here")]) (is:=[0]) ["_law_way"] (λ_ _ _ q=>nY q) gn.nd rfl (Or.inl rfl) ⟨rfl,rfl,by decide +kernel,by decide +kernel,by decide +kernel,⟨⟨rfl,rfl⟩,trivial⟩⟩ rfl (by decide) (cP (aa 7)) (λ_ _ _ _ _=>(aA (i:=0) (show List.Nodup (["_law_way", "_law_lay_here"]:List Str) by decide +kernel) rfl (Or.inl rfl))) (λ_ _ _ _ _=>eA) (λ_ _ _ _ _=>(cS (dw (ab (cS (jw (tb:=(λnm=>List.lookup nm [("Standing",ax),("Lying",aG),("Turned",aD)])) (k:=3) (bY O.a_Standing ⟨_,⟨O.i_Standing.c,O.me_Standing_spot,⟨_,_,FnOk.mono (k:=3) G_Standing_spot (by decide),D_Standing_spot.b⟩⟩⟩ (bY O.a_Lying ⟨_,⟨O.i_Lying.c,O.me_Lying_spot,⟨_,_,FnOk.mono (k:=3) G_Lying_spot (by decide),D_Lying_spot.b⟩⟩⟩ (bY O.a_Turned ⟨_,⟨O.i_Turned.c,O.me_Turned_spot,⟨_,_,FnOk.mono (k:=3) G_Turned_spot (by decide),D_Turned_spot.b⟩⟩⟩ jF))) (hr.mono (by decide)) aN (aa 1) (ab (au ao ar (aa 0) ah (λ_ _=>rfl)) aj))) (ab (cS (jw (tb:=(λnm=>List.lookup nm [("Standing",ax),("Lying",aG),("Turned",aD)])) (k:=3) (bY O.a_Standing ⟨_,⟨O.i_Standing.c,O.me_Standing_spot,⟨_,_,FnOk.mono (k:=3) G_Standing_spot (by decide),D_Standing_spot.b⟩⟩⟩ (bY O.a_Lying ⟨_,⟨O.i_Lying.c,O.me_Lying_spot,⟨_,_,FnOk.mono (k:=3) G_Lying_spot (by decide),D_Lying_spot.b⟩⟩⟩ (bY O.a_Turned ⟨_,⟨O.i_Turned.c,O.me_Turned_spot,⟨_,_,FnOk.mono (k:=3) G_Turned_spot (by decide),D_Turned_spot.b⟩⟩⟩ jF))) (hr.mono (by decide)) aN (aa 1) (ab (au ao ar (aa 0) ah (λ_ _=>rfl)) aj))) (ab (cS (jw (tb:=(λnm=>List.lookup nm [("Standing",ax),("Lying",aG),("Turned",aD)])) (k:=3) (bY O.a_Standing ⟨_,⟨O.i_Standing.c,O.me_Standing_spot,⟨_,_,FnOk.mono (k:=3) G_Standing_spot (by decide),D_Standing_spot.b⟩⟩⟩ (bY O.a_Lying ⟨_,⟨O.i_Lying.c,O.me_Lying_spot,⟨_,_,FnOk.mono (k:=3) G_Lying_spot (by decide),D_Lying_spot.b⟩⟩⟩ (bY O.a_Turned ⟨_,⟨O.i_Turned.c,O.me_Turned_spot,⟨_,_,FnOk.mono (k:=3) G_Turned_spot (by decide),D_Turned_spot.b⟩⟩⟩ jF))) (hr.mono (by decide)) aN (aa 1) (ab (au ao ar (aa 0) ah (λ_ _=>rfl)) aj))) aj)))))))
   (ai (c8 (lU (jO (fK (dh (az X28 (hr.mono (by decide)) rfl W28.g W28.F.kp W28.b aN (ab (aa 2) (ab (aa 6) (ab (aa 7) aj)))))) (ip (fK (dh (az X23 (hr.mono (by decide)) rfl W23.g W23.F.kp W23.b aN (ab (aa 6) aj))))))) (aq (aJ ee)) a9)
   (ai (b6 rfl PassesOwn.never (ou rfl T.z_range ah (a_ aK bJ rfl T.z_len PySem.boot_len (ab (aa 2) aj))) (aA (i:=8) gn.nd rfl (Or.inl rfl)) (ai (c8 (fK (dh (az X29 (hr.mono (by decide)) rfl W29.g W29.F.kp W29.b aN (ab (aa 2) (ab (aa 6) (ab (au ao ar (aa 7) (ay d7 (λ_=>d8) (aa 8) ah) (λ_ _=>rfl)) (ab (aa 8) aj))))))) (aq (aJ ee)) a9)
   (aq (b6 rfl PassesOwn.never (ou rfl T.z_range ah (aa 8)) (aA (i:=9) gn.nd rfl (Or.inl rfl)) (aq (c8 (fK (dh (az X30 (hr.mono (by decide)) rfl W30.g W30.F.kp W30.b aN (ab (aa 2) (ab (aa 7) (ab (aa 9) (ab (aa 8) aj))))))) (aq (aJ ee)) a9))))))
   (aq (aJ ee))))))))))))))
end
noncomputable def pt (p:Int×Int):PyData:=.tuple [.int p.1,.int p.2]
noncomputable def ke:Nat->Int×Int->Int×Int
 |0,p=>p
 |n+1,p=>(-(ke n p).2,(ke n p).1)
noncomputable def flp (t:Int) (p:Int×Int):Int×Int:=if 4<=t then (-p.1,p.2) else p
noncomputable def tp (t:Int) (p:Int×Int):Int×Int:=ke (t % 4).toNat (flp t p)
theorem ones {t:Int} (h0:0<=t) (h1:t<8):t=0\/t=1\/t=2\/t=3\/t=4\/t=5\/t=6\/t=7:=by lia
theorem qA (t:Int):jd [.int t]=.ok (.sh (.bool (decide (4<=t)))):=by
 unfold jd kK;push_cast only [and_self]
theorem Ex (t:Int) (p:Int×Int) (h0:0<=t) (h1:t<8):dZ [.int t,pt p]=.ok (.sh (pt (tp t p))):=by
 unfold dZ eZ pt;have hm:=eD t (show (0:Int)<4 by decide)
 have s1:aI (t % 4)=true:=g9 (by lia) (by lia)
 by_cases h:4<=t
 ·push_cast only [qA,decide_eq_true h,s1]
  generalize hL:br _ _ _ _=r
  refine cD hL (λi ρ=>∃v,ρ=[some (.sh (.int t)),some (.sh (.tuple [.int p.1,.int p.2])),some (.sh (.tuple [.int (ke i (-p.1,p.2)).1,.int (ke i (-p.1,p.2)).2])),v]) ⟨_,rfl⟩ ?_ ?_
  ·rintro i d ρ hd ⟨v,rfl⟩
   push_cast only [and_self];exact ⟨_,rfl⟩
  ·rintro ρ' rfl ⟨v,rfl⟩
   rw [eU];push_cast only [and_self];unfold tp flp;rw [if_pos h]
 ·push_cast only [qA,decide_eq_false h,s1]
  generalize hL:br _ _ _ _=r
  refine cD hL (λi ρ=>∃v,ρ=[some (.sh (.int t)),some (.sh (.tuple [.int p.1,.int p.2])),some (.sh (.tuple [.int (ke i p).1,.int (ke i p).2])),v]) ⟨_,rfl⟩ ?_ ?_
  ·rintro i d ρ hd ⟨v,rfl⟩
   push_cast only [and_self];exact ⟨_,rfl⟩
  ·rintro ρ' rfl ⟨v,rfl⟩
   rw [eU];push_cast only [and_self];unfold tp flp;rw [if_neg h]
theorem at3 (a b c d:PyData) (xs:List PyData):atI (a :: b :: c :: d :: xs) 3=some d:=by
 have:atI (a :: b :: c :: d :: xs) ((3:Nat):Int)=some d:=dn rfl;exact this
noncomputable def bx (a b c d:Int):PyData:=.tuple [.int a,.int b,.int c,.int d]
noncomputable def oS:PyData:=i6 "Standing" []
noncomputable def oL:PyData:=i6 "Lying" []
noncomputable def oT (t:Int):PyData:=i6 "Turned" [("turn",.int t)]
theorem HU:i6 "Standing" []=oS:=rfl
theorem HQ:i6 "Lying" []=oL:=rfl
theorem II (t:Int):i6 "Turned" [("turn",.int t)]=oT t:=rfl
theorem fT (t:Int):G3 (λnm=>decide (nm = "Turned")) "turn" (oT t)=.ok (.sh (.int t)):=rfl
theorem mS (r:R (List OD)):mtK (λnm=>List.lookup nm [("Standing",ax),("Lying",aG),("Turned",aD)]) "spot" r oS=unK (λxs=>ax (oS :: xs.map OD.er)) r:=rfl
theorem mL (r:R (List OD)):mtK (λnm=>List.lookup nm [("Standing",ax),("Lying",aG),("Turned",aD)]) "spot" r oL=unK (λxs=>aG (oL :: xs.map OD.er)) r:=rfl
theorem mT (t:Int) (r:R (List OD)):mtK (λnm=>List.lookup nm [("Standing",ax),("Lying",aG),("Turned",aD)]) "spot" r (oT t)=unK (λxs=>aD (oT t :: xs.map OD.er)) r:=rfl
theorem bS (r:R (List OD)):mtK (λnm=>List.lookup nm [("Standing",aw),("Lying",aw),("Turned",aw)]) "box" r oS=unK (λxs=>aw (oS :: xs.map OD.er)) r:=rfl
theorem bL (r:R (List OD)):mtK (λnm=>List.lookup nm [("Standing",aw),("Lying",aw),("Turned",aw)]) "box" r oL=unK (λxs=>aw (oL :: xs.map OD.er)) r:=rfl
theorem bT (t:Int) (r:R (List OD)):mtK (λnm=>List.lookup nm [("Standing",aw),("Lying",aw),("Turned",aw)]) "box" r (oT t)=unK (λxs=>aw (oT t :: xs.map OD.er)) r:=rfl
theorem Dq (p:Int×Int):ax [oS,pt p]=.ok (.sh (pt p)):=by
 unfold ax eE;push_cast only [and_self]
theorem AB (p:Int×Int):aG [oL,pt p]=.ok (.sh (pt (p.2,p.1))):=by
 unfold aG fU pt;push_cast only [and_self]
theorem Bf (t:Int) (p:Int×Int) (h0:0<=t) (h1:t<8):aD [oT t,pt p]=.ok (.sh (pt (tp t p))):=by
 unfold aD fv;push_cast only [EB,fT,Ex t p h0 h1]
noncomputable def mn (i j:Int):Int:=if j<i then j else i
noncomputable def mx (i j:Int):Int:=if i<j then j else i
theorem Bb {o:PyData} {f:Fn} {g:Int×Int->Int×Int} (hm:∀r,mtK (λnm=>List.lookup nm [("Standing",ax),("Lying",aG),("Turned",aD)]) "spot" r o=unK (λxs=>f (o :: xs.map OD.er)) r) (hg:∀p,f [o,pt p]=.ok (.sh (pt (g p)))) (a b c d:Int) :
  aw [o,bx a b c d]=.ok (.sh (bx (mn (g (a,b)).1 (g (c,d)).1) (mn (g (a,b)).2 (g (c,d)).2) (mx (g (a,b)).1 (g (c,d)).1) (mx (g (a,b)).2 (g (c,d)).2))):=by
 have h1:f [o,.tuple [.int a,.int b]]=.ok (.sh (.tuple [.int (g (a,b)).1,.int (g (a,b)).2])):=hg (a,b);have h2:f [o,.tuple [.int c,.int d]]=.ok (.sh (.tuple [.int (g (c,d)).1,.int (g (c,d)).2])):=hg (c,d);unfold aw e8 bx mn mx;push_cast only [su,hm,h1,h2,at3]
noncomputable def gT (k:Nat) (p:Int×Int):Int×Int:=match k with
 |0=>(p.1,p.2)
 |1=>(-p.1,p.2)
 |2=>(p.1,-p.2)
 |3=>(-p.1,-p.2)
 |4=>(p.2,p.1)
 |5=>(-p.2,p.1)
 |6=>(p.2,-p.1)
 |_=>(-p.2,-p.1)
structure Bx where
 a:Int
 b:Int
 c:Int
 d:Int
noncomputable def bxD (x:Bx):PyData:=bx x.a x.b x.c x.d
noncomputable def bG (k:Nat) (x:Bx):Bx:=match k with
 |0=>⟨x.a,x.b,x.c,x.d⟩
 |1=>⟨-x.c,x.b,-x.a,x.d⟩
 |2=>⟨x.a,-x.d,x.c,-x.b⟩
 |3=>⟨-x.c,-x.d,-x.a,-x.b⟩
 |4=>⟨x.b,x.a,x.d,x.c⟩
 |5=>⟨-x.d,x.a,-x.b,x.c⟩
 |6=>⟨x.b,-x.c,x.d,-x.a⟩
 |_=>⟨-x.d,-x.c,-x.b,-x.a⟩
noncomputable def fr (p q:Int×Int):Bx:=⟨mn p.1 q.1,mn p.2 q.2,mx p.1 q.1,mx p.2 q.2⟩
theorem CC (x y:Int):mn (-x) (-y)=-mx x y:=by unfold mn mx;split <;> split <;> lia
theorem DZ (x y:Int):mx (-x) (-y)=-mn x y:=by unfold mn mx;split <;> split <;> lia
theorem ju {P:Nat->Prop} (k:Nat) (h0:P 0) (h1:P 1) (h2:P 2) (h3:P 3) (h4:P 4) (h5:P 5) (h6:P 6) (h7:∀n,P (n+7)):P k:=by
 match k with
 |0=>exact h0
 |1=>exact h1
 |2=>exact h2
 |3=>exact h3
 |4=>exact h4
 |5=>exact h5
 |6=>exact h6
 |n+7=>exact h7 n
theorem zu (k:Nat) (p q:Int×Int):fr (gT k p) (gT k q)=bG k (fr p q):=by
 refine ju (P:=λk=>fr (gT k p) (gT k q)=bG k (fr p q)) k ?_ ?_ ?_ ?_ ?_ ?_ ?_ (λn=>?_) <;> simp only [fr,gT,bG,CC,DZ]
theorem CF {x:Bx} (h1:x.a<=x.c) (h2:x.b<=x.d):fr (x.a,x.b) (x.c,x.d)=x:=by
 have e1:mn x.a x.c=x.a:=by unfold mn;split <;> lia
 have e2:mn x.b x.d=x.b:=by unfold mn;split <;> lia
 have e3:mx x.a x.c=x.c:=by unfold mx;split <;> lia
 have e4:mx x.b x.d=x.d:=by unfold mx;split <;> lia
 simp only [fr,e1,e2,e3,e4]
noncomputable def Ap (x y:Bx):Prop:=x.c<y.a\/y.c<x.a\/x.d<y.b\/y.d<x.b
instance (x y:Bx):Decidable (Ap x y):=inferInstanceAs (Decidable (_\/_))
theorem BN (k:Nat) {x y:Bx} (h:Ap x y):Ap (bG k x) (bG k y):=by
 refine ju (P:=λk=>Ap (bG k x) (bG k y)) k ?_ ?_ ?_ ?_ ?_ ?_ ?_ (λn=>?_) <;> (unfold Ap at h ⊢;simp only [bG];lia)
noncomputable def cr (p q s:Int×Int):Int:=(q.1-p.1) * (s.2-p.2)-(q.2-p.2) * (s.1-p.1)
theorem ng (x y:Int):-x - -y=-(x-y):=by lia
theorem DK (k:Nat):∃e:Int,(e=1\/e=-1)/\∀p q s,cr (gT k p) (gT k q) (gT k s)=e * cr p q s:=by
 refine ju (P:=λk=>∃e:Int,(e=1\/e=-1)/\∀p q s,cr (gT k p) (gT k q) (gT k s)=e * cr p q s) k ⟨1,.inl rfl,λp q s=>?_⟩ ⟨-1,.inr rfl,λp q s=>?_⟩ ⟨-1,.inr rfl,λp q s=>?_⟩ ⟨1,.inl rfl,λp q s=>?_⟩ ⟨-1,.inr rfl,λp q s=>?_⟩ ⟨1,.inl rfl,λp q s=>?_⟩ ⟨1,.inl rfl,λp q s=>?_⟩ (λn=>⟨-1,.inr rfl,λp q s=>?_⟩) <;>
  simp only [cr,gT,ng,Int.neg_mul,Int.mul_neg] <;> lia
noncomputable def Sep (p q:Int×Int) (x:Bx):Prop:=(0<cr p q (x.a,x.b)/\0<cr p q (x.a,x.d)/\0<cr p q (x.c,x.b)/\0<cr p q (x.c,x.d))\/(cr p q (x.a,x.b)<0/\cr p q (x.a,x.d)<0/\cr p q (x.c,x.b)<0/\cr p q (x.c,x.d)<0)
theorem EF (k:Nat) {p q:Int×Int} {x:Bx} (h:Sep p q x):Sep (gT k p) (gT k q) (bG k x):=by
 obtain ⟨e,he,hc⟩:=DK k;have c1:=hc p q (x.a,x.b);have c2:=hc p q (x.a,x.d);have c3:=hc p q (x.c,x.b);have c4:=hc p q (x.c,x.d);clear hc;unfold Sep at h ⊢
 revert c1 c2 c3 c4
 refine ju (P:=λk=>cr (gT k p) (gT k q) (gT k (x.a,x.b))=e * cr p q (x.a,x.b)->cr (gT k p) (gT k q) (gT k (x.a,x.d))=e * cr p q (x.a,x.d)->cr (gT k p) (gT k q) (gT k (x.c,x.b))=e * cr p q (x.c,x.b)->cr (gT k p) (gT k q) (gT k (x.c,x.d))=e * cr p q (x.c,x.d) ->
  (0<cr (gT k p) (gT k q) ((bG k x).a,(bG k x).b)/\0<cr (gT k p) (gT k q) ((bG k x).a,(bG k x).d)/\0<cr (gT k p) (gT k q) ((bG k x).c,(bG k x).b)/\0<cr (gT k p) (gT k q) ((bG k x).c,(bG k x).d))\/(cr (gT k p) (gT k q) ((bG k x).a,(bG k x).b)<0/\cr (gT k p) (gT k q) ((bG k x).a,(bG k x).d)<0/\cr (gT k p) (gT k q) ((bG k x).c,(bG k x).b)<0/\cr (gT k p) (gT k q) ((bG k x).c,(bG k x).d)<0)) k ?_ ?_ ?_ ?_ ?_ ?_ ?_ (λn=>?_) <;>
  (intro c1 c2 c3 c4;simp only [gT,bG]at c1 c2 c3 c4 ⊢;rw [c1,c2,c3,c4];rcases he with rfl | rfl <;> lia)
noncomputable def Bd (p:Int×Int):Prop:=(-4611686018427387904<p.1/\p.1<4611686018427387904)/\-4611686018427387904<p.2/\p.2<4611686018427387904
theorem xA (k:Nat) {p:Int×Int} (h:Bd p):Bd (gT k p):=by
 obtain ⟨⟨h1,h2⟩,h3,h4⟩:=h;refine ju (P:=λk=>Bd (gT k p)) k ?_ ?_ ?_ ?_ ?_ ?_ ?_ (λn=>?_) <;> (simp only [gT,Bd];lia)
noncomputable def BdB (x:Bx):Prop:=Bd (x.a,x.b)/\Bd (x.c,x.d)
theorem mC (x y:Bx):bE [bxD x,bxD y]=.ok (.sh (.bool (decide (Ap x y)))):=by
 unfold bE fP bxD bx;by_cases h1:x.c<y.a
 ·have:Ap x y:=.inl h1
  push_cast only [at3,decide_eq_true h1,decide_eq_true this]
 ·by_cases h2:y.c<x.a
  ·have:Ap x y:=.inr (.inl h2)
   push_cast only [at3,decide_eq_false h1,decide_eq_true h2,decide_eq_true this]
  ·by_cases h3:x.d<y.b
   ·have:Ap x y:=.inr (.inr (.inl h3))
    push_cast only [at3,decide_eq_false h1,decide_eq_false h2,decide_eq_true h3,decide_eq_true this]
   ·have:Ap x y ↔ y.d<x.b:=⟨λz=>by unfold Ap at z;lia,λz=>.inr (.inr (.inr z))⟩
    push_cast only [at3,decide_eq_false h1,decide_eq_false h2,decide_eq_false h3,decide_eq_decide.mpr this]
theorem nj (p q:Int×Int):cG [pt p,pt q]=.ok (.sh (bxD (fr p q))):=by
 unfold cG fL bxD bx pt fr mn mx;push_cast only [and_self]
theorem fE {p q s:Int×Int} (h1:Bd p) (h2:Bd q):aQ [pt p,pt q,pt s]=.ok (.sh (.int (cr p q s))):=by
 obtain ⟨⟨a1,a2⟩,a3,a4⟩:=h1;obtain ⟨⟨b1,b2⟩,b3,b4⟩:=h2;have c1:iq (q.1-p.1) (s.2-p.2)=true:=vg (by lia) (by lia)
 have c2:iq (q.2-p.2) (s.1-p.1)=true:=vg (by lia) (by lia)
 unfold aQ fR pt cr;push_cast only [c1,c2]
theorem Hv (a b c d:Int):jq [.list [.int a,.int b,.int c,.int d]]=.ok (.sh (.int (kE a [b,c,d]))):=rA a [b,c,d]
theorem Gs (a b c d:Int):i4 [.list [.int a,.int b,.int c,.int d]]=.ok (.sh (.int (fX a [b,c,d]))):=pA a [b,c,d]
theorem vn {p q:Int×Int} {x:Bx} (hp:Bd p) (hq:Bd q) (h:Ap (fr p q) x\/Sep p q x):bt [pt p,pt q,bxD x]=.ok (.sh (.bool false)):=by
 have f1:=nj p q;have f2:=mC (fr p q) x;by_cases ha:Ap (fr p q) x
 ·rw [decide_eq_true ha]at f2
  unfold bt cB;push_cast only [f1,f2]
 ·rw [decide_eq_false ha]at f2
  have hs:Sep p q x:=h.resolve_left ha;unfold Sep at hs;have f2:bE [bxD (fr p q),.tuple [.int x.a,.int x.b,.int x.c,.int x.d]]=.ok (.sh (.bool false)):=f2;have c1:aQ [pt p,pt q,.tuple [.int x.a,.int x.b]]=.ok (.sh (.int (cr p q (x.a,x.b)))):=fE (s:=(x.a,x.b)) hp hq;have c2:aQ [pt p,pt q,.tuple [.int x.a,.int x.d]]=.ok (.sh (.int (cr p q (x.a,x.d)))):=fE (s:=(x.a,x.d)) hp hq;have c3:aQ [pt p,pt q,.tuple [.int x.c,.int x.b]]=.ok (.sh (.int (cr p q (x.c,x.b)))):=fE (s:=(x.c,x.b)) hp hq;have c4:aQ [pt p,pt q,.tuple [.int x.c,.int x.d]]=.ok (.sh (.int (cr p q (x.c,x.d)))):=fE (s:=(x.c,x.d)) hp hq;have l1:((1:Nat)<BIG)=True:=by simp [BIG]
  have l2:((2:Nat)<BIG)=True:=by simp [BIG]
  have l3:((3:Nat)<BIG)=True:=by simp [BIG]
  generalize cr p q (x.a,x.b)=v1 at c1 hs
  generalize cr p q (x.a,x.d)=v2 at c2 hs
  generalize cr p q (x.c,x.b)=v3 at c3 hs
  generalize cr p q (x.c,x.d)=v4 at c4 hs
  rcases hs with ⟨s1,s2,s3,s4⟩ | ⟨s1,s2,s3,s4⟩
  ·have m1:¬kE v1 [v2,v3,v4]<=0:=by
    simp only [kE,List.foldl]
    (repeat' split) <;> lia
   rw [show bxD x=.tuple [.int x.a,.int x.b,.int x.c,.int x.d] from rfl]
   unfold bt cB;push_cast only [f1,f2,c1,c2,c3,c4,l1,l2,l3,rL,xb,BF,at3,Hv,Gs,decide_eq_false m1]
  ·have m1:kE v1 [v2,v3,v4]<=0:=by
    simp only [kE,List.foldl]
    (repeat' split) <;> lia
   have m2:¬0<=fX v1 [v2,v3,v4]:=by
    simp only [fX,List.foldl]
    (repeat' split) <;> lia
   rw [show bxD x=.tuple [.int x.a,.int x.b,.int x.c,.int x.d] from rfl]
   unfold bt cB;push_cast only [f1,f2,c1,c2,c3,c4,l1,l2,l3,rL,xb,BF,at3,Hv,Gs,decide_eq_true m1,decide_eq_false m2]
theorem rV {i:Int} (h:i.natAbs<2 ^ 200):gq i=true:=by
 refine decide_eq_true ?_;unfold Builtin.Int.intBits;split
 ·exact Nat.zero_le _
 ·have:i.natAbs.log2<200:=by
   rcases Nat.eq_zero_or_pos i.natAbs with h0 | hp
   ·rw [h0]
    decide
   ·exact (Nat.log2_lt (by lia)).mpr h
  lia
theorem l_ {p q s:Int×Int} (h1:Bd p) (h2:Bd q) (h3:Bd s):gq (cr p q s)=true:=by
 obtain ⟨⟨a1,a2⟩,a3,a4⟩:=h1;obtain ⟨⟨b1,b2⟩,b3,b4⟩:=h2;obtain ⟨⟨c1,c2⟩,c3,c4⟩:=h3;refine rV ?_;unfold cr;have e1:((q.1-p.1) * (s.2-p.2)).natAbs<=2 ^ 64 * 2 ^ 64:=by
  rw [Int.natAbs_mul];exact Nat.mul_le_mul (by lia) (by lia)
 have e2:((q.2-p.2) * (s.1-p.1)).natAbs<=2 ^ 64 * 2 ^ 64:=by
  rw [Int.natAbs_mul];exact Nat.mul_le_mul (by lia) (by lia)
 have e3:((q.1-p.1) * (s.2-p.2)-(q.2-p.2) * (s.1-p.1)).natAbs<=2 ^ 64 * 2 ^ 64+2 ^ 64 * 2 ^ 64:=by lia
 exact Nat.lt_of_le_of_lt e3 (by decide)
theorem yA {p q s u:Int×Int} (hp:Bd p) (hq:Bd q) (hs:Bd s) (hu:Bd u) (h:Ap (fr p q) (fr s u)\/0<cr p q s * cr p q u\/0<cr s u p * cr s u q):c6 [pt p,pt q,pt s,pt u]=.ok (.sh (.bool false)):=by
 have f1:=nj p q;have f2:=nj s u;have f3:=mC (fr p q) (fr s u);have c1:=fE (s:=s) hp hq;have c2:=fE (s:=u) hp hq;have c3:=fE (s:=p) hs hu;have c4:=fE (s:=q) hs hu;have m1:=wc (l_ hp hq hs) (l_ hp hq hu);have m2:=wc (l_ hs hu hp) (l_ hs hu hq);by_cases ha:Ap (fr p q) (fr s u)
 ·rw [decide_eq_true ha]at f3
  unfold c6 eJ;push_cast only [f1,f2,f3]
 ·rw [decide_eq_false ha]at f3
  by_cases h1:0<cr p q s * cr p q u
  ·unfold c6 eJ
   push_cast only [f1,f2,f3,c1,c2,m1,decide_eq_true h1]
  ·have h2:¬cr s u p * cr s u q<=0:=by
    rcases h with h | h | h
    ·exact absurd h ha
    ·exact absurd h h1
    ·lia
   unfold c6 eJ;push_cast only [f1,f2,f3,c1,c2,c3,c4,m1,m2,decide_eq_false h1,decide_eq_false h2]
theorem FY {e x y:Int} (he:e=1\/e=-1):e * x * (e * y)=x * y:=by
 rcases he with rfl | rfl
 ·rw [Int.one_mul,Int.one_mul]
 ·rw [show (-1:Int) * x=-x by lia,show (-1:Int) * y=-y by lia,Int.neg_mul_neg]
noncomputable def Off (p q s u:Int×Int):Prop:=Ap (fr p q) (fr s u)\/0<cr p q s * cr p q u\/0<cr s u p * cr s u q
theorem GC (k:Nat) {p q s u:Int×Int} (h:Off p q s u):Off (gT k p) (gT k q) (gT k s) (gT k u):=by
 obtain ⟨e,he,hc⟩:=DK k;unfold Off at h ⊢;rw [hc,hc,hc,hc,FY he,FY he,zu,zu];rcases h with h | h
 ·exact .inl (BN k h)
 ·exact .inr h
noncomputable def Clr (p q:Int×Int) (x:Bx):Prop:=Ap (fr p q) x\/Sep p q x
theorem w6 (k:Nat) {p q:Int×Int} {x:Bx} (h:Clr p q x):Clr (gT k p) (gT k q) (bG k x):=by
 unfold Clr at h ⊢;rw [zu];rcases h with h | h
 ·exact .inl (BN k h)
 ·exact .inr (EF k h)
noncomputable def OnS (p:Int×Int) (x:Bx):Prop:=x.a<p.1/\p.1<x.c/\x.b<x.d/\(p.2=x.b\/p.2=x.d)
theorem yz {p:Int×Int} {x:Bx} (h:x.a<p.1/\p.1<x.c/\(p.2=x.b\/p.2=x.d)):bc [pt p,bxD x]=.ok (.sh (.bool true)):=by
 obtain ⟨h1,h2,h3⟩:=h;have n1:¬p.1=x.a:=by lia
 have n2:¬p.1=x.c:=by lia
 unfold bc d3 pt bxD bx;by_cases h4:p.2=x.b
 ·push_cast only [at3,decide_eq_false n1,decide_eq_false n2,decide_eq_true h4,decide_eq_true h1,decide_eq_true h2]
 ·have h5:p.2=x.d:=h3.resolve_left h4
  push_cast only [at3,decide_eq_false n1,decide_eq_false n2,decide_eq_false h4,decide_eq_true h5,decide_eq_true h1,decide_eq_true h2]
theorem yk {p:Int×Int} {x:Bx} (h:x.b<p.2/\p.2<x.d/\(p.1=x.a\/p.1=x.c)):bc [pt p,bxD x]=.ok (.sh (.bool true)):=by
 obtain ⟨h1,h2,h3⟩:=h;unfold bc d3 pt bxD bx;by_cases h4:p.1=x.a
 ·push_cast only [at3,decide_eq_true h4,decide_eq_true h1,decide_eq_true h2]
 ·have h5:p.1=x.c:=h3.resolve_left h4
  push_cast only [at3,decide_eq_false h4,decide_eq_true h5,decide_eq_true h1,decide_eq_true h2]
theorem Hi (k:Nat) {p:Int×Int} {x:Bx} (h:OnS p x):bc [pt (gT k p),bxD (bG k x)]=.ok (.sh (.bool true)):=by
 obtain ⟨h1,h2,h3,h4⟩:=h;refine ju (P:=λk=>bc [pt (gT k p),bxD (bG k x)]=.ok (.sh (.bool true))) k (yz ?_) (yz ?_) (yz ?_) (yz ?_) (yk ?_) (yk ?_) (yk ?_) (λn=>yk ?_) <;> (simp only [gT,bG];lia)
theorem FX {t:Int} (h0:0<=t) (h1:t<8):∃k,∀p,tp t p=gT k p:=by
 rcases ones h0 h1 with rfl | rfl | rfl | rfl | rfl | rfl | rfl | rfl
 ·exact ⟨0,λp=>by simp [tp,flp,ke,gT]⟩
 ·exact ⟨5,λp=>by simp [tp,flp,ke,gT]⟩
 ·exact ⟨3,λp=>by simp [tp,flp,ke,gT]⟩
 ·exact ⟨6,λp=>by simp [tp,flp,ke,gT]⟩
 ·exact ⟨1,λp=>by simp [tp,flp,ke,gT]⟩
 ·exact ⟨7,λp=>by simp [tp,flp,ke,gT]⟩
 ·exact ⟨2,λp=>by simp [tp,flp,ke,gT]⟩
 ·exact ⟨4,λp=>by simp [tp,flp,ke,gT]⟩
theorem Dg {z:Int} (h0:0<=z):∃(o:PyData) (f:Fn) (k:Nat),f_ [.int z]=.ok (.sh o)/\(∀r,mtK (λnm=>List.lookup nm [("Standing",ax),("Lying",aG),("Turned",aD)]) "spot" r o=unK (λxs=>f (o :: xs.map OD.er)) r)/\(∀r,mtK (λnm=>List.lookup nm [("Standing",aw),("Lying",aw),("Turned",aw)]) "box" r o=unK (λxs=>aw (o :: xs.map OD.er)) r) /\
  ∀p,f [o,pt p]=.ok (.sh (pt (gT k p))):=by
 have hm:=eD z (show (0:Int)<10 by decide)
 unfold f_ ib;by_cases h8:z % 10=8
 ·refine ⟨oS,ax,0,?_,mS,bS,Dq⟩
  push_cast only [h8,xF,HU]
 ·by_cases h9:z % 10=9
  ·refine ⟨oL,aG,4,?_,mL,bL,AB⟩
   push_cast only [h9,xF,HQ]
  ·have t8:z % 10<8:=by lia
   obtain ⟨k,hk⟩:=FX hm.1 t8;refine ⟨oT (z % 10),aD,k,?_,mT _,bT _,λp=>by rw [<-hk];exact Bf _ p hm.1 t8⟩
   push_cast only [decide_eq_false h8,decide_eq_false h9,Bo,CN,II]
theorem Be {o:PyData} {f:Fn} {k:Nat} (hm:∀r,mtK (λnm=>List.lookup nm [("Standing",ax),("Lying",aG),("Turned",aD)]) "spot" r o=unK (λxs=>f (o :: xs.map OD.er)) r) (hg:∀p,f [o,pt p]=.ok (.sh (pt (gT k p)))) {x:Bx} (h1:x.a<=x.c) (h2:x.b<=x.d):aw [o,bxD x]=.ok (.sh (bxD (bG k x))):=by
 have h:=Bb hm hg x.a x.b x.c x.d;have e:=zu k (x.a,x.b) (x.c,x.d);rw [CF h1 h2]at e;rw [<-e];exact h
noncomputable def gW (ts:List Nd) (r:List Nat):List Int:=r.map λk=>(cR ts k).t
noncomputable def mxL:List Int->Int
 |[]=>0
 |a :: as=>fX a as
noncomputable def tpN (ts:List Nd) (b:Int):Nat->Int
 |0=>0
 |m+1=>tpN ts b m+mxL (gW ts (((nums ts)[m]?).getD []))+b
noncomputable def tpL (ts:List Nd) (b:Int) (m:Nat):List Int:=(List.range (m+1)).map (tpN ts b)
theorem vB (ts:List Nd) (b:Int) (m:Nat):tpL ts b (m+1)=tpL ts b m++[tpN ts b (m+1)]:=by
 unfold tpL;rw [List.range_succ,List.map_append];rfl
theorem x9 (ts:List Nd) (b:Int) (m:Nat):atI ((tpL ts b m).map PyData.int) (-1)=some (.int (tpN ts b m)):=by
 unfold tpL;rw [List.range_succ,List.map_append,List.map_append];exact mU _ _
theorem sL (ts:List Nd) (b:Int) (m:Nat):(tpL ts b m).length=m+1:=by unfold tpL;rw [List.length_map,List.length_range]
theorem Ep {a:List Int} (h:a≠[]):i4 [.list (a.map PyData.int)]=.ok (.sh (.int (mxL a))):=by
 cases a with
 |nil=>exact absurd rfl h
 |cons a as=>exact pA _ _
theorem o9 {ts:List Nd} {k:Nat} (h:k<ts.length):atI (aO ts) (k:Int)=some (ndD (cR ts k)):=by
 obtain ⟨n,hn⟩:∃n,ts[k]?=some n:=⟨ts[k],by simp [h]⟩
 have e:cR ts k=n:=by unfold cR;rw [hn];rfl
 rw [e];exact dn (by unfold aO;rw [List.getElem?_map,hn];rfl)
theorem sd (xs:List PyData) (h:1<=xs.length):cutD xs none (some (-1))=xs.dropLast:=by
 have e:HT.sIx xs.length xs.length (some (-1))=xs.length-1:=by
  unfold HT.sIx;simp
  lia
 unfold cutD;rw [HT.mG,e,List.drop_zero,Nat.sub_zero,List.dropLast_eq_take]
theorem ze (ts:List Nd) (b:Int) (he:EL ts) (h0:0<ts.length) (hl:ts.length<=100):km [.list (aO ts),.int b]=.ok (.ol (bU (tpL ts b ((nums ts).length-1)))):=by
 unfold km l9;have nl:0<(nums ts).length/\(nums ts).length<=ts.length:=qZ he h0;have cl:cutD (nH (nums ts)) none (some (-1))=nH ((nums ts).take ((nums ts).length-1)):=by
  rw [sd _ (by rw [nu];lia),List.dropLast_eq_take,nu]
  unfold nH;rw [List.map_take]
 push_cast only [uP ts he hl,pO,cl,dk];generalize hL:br _ _ _ _=r'
 refine cD hL (λi ρ=>∃v3 v4:Option OD,ρ=[some (.sh (.list (aO ts))),some (.sh (.int b)),some (.ol (bU (tpL ts b i))),v3,v4]) ⟨_,_,rfl⟩ ?_ ?_
 ·rintro i d ρ hd ⟨v3,v4,rfl⟩
  unfold nH at hd;rw [List.getElem?_map]at hd;obtain ⟨r,hr,rfl⟩:=Option.map_eq_some_iff.mp hd;have hi:i<(nums ts).length-1:=by
   have:=(List.getElem?_eq_some_iff.mp hr).1;rw [List.length_take]at this
   lia
  rw [List.getElem?_take_of_lt hi]at hr;obtain ⟨f1,f2⟩:=Ea he hr;have ok:=iI he ts.length (Nat.le_refl _);have rl:r.length<=ts.length:=by
   have:=rB (nums ts) i r hr;have:((nums ts).map List.length).sum=ts.length:=ok.sum
   lia
  push_cast only [and_self];generalize hC:bV _ _ _ _ _ _=rc
  have e:=et hC (λk:Nat=>PyData.int (k:Int)) (λk=>.sh (.int (cR ts k).t)) r rfl (of_eq_true (bM (by lia))) (by
   intro k hk;have a1:=o9 (f2 k hk);push_cast only [a1,ndD])
  subst e;have em:(r.map λk=>OD.sh (.int (cR ts k).t)).map OD.er=(gW ts r).map PyData.int:=by
   unfold gW;rw [List.map_map,List.map_map];exact List.map_congr_left λk _=>eM _
  have mx:=Ep (a:=gW ts r) (by unfold gW;intro z;exact f1 (List.map_eq_nil_iff.mp z))
  have lb:((bU (tpL ts b i)).length<BIG)=True:=by rw [f6,sL];exact gz (by lia)
  have e1:tpN ts b (i+1)=tpN ts b i+mxL (gW ts r)+b:=by
   rw [tpN,hr];rfl
  push_cast only [em,mx,bP,x9,lb,iu];rw [vB,e1];exact ⟨_,_,rfl⟩
 ·rintro ρ' rfl ⟨v3,v4,rfl⟩
  rw [nu,List.length_take];push_cast only [and_self];rw [show min ((nums ts).length-1) (nums ts).length=(nums ts).length-1 by lia]
noncomputable def lvA (ts:List Nd) (k:Nat):Nat:=((lvs ts)[k]?).getD 0
theorem q8 {ts:List Nd} {k:Nat} (h:k<ts.length):(lvs ts)[k]?=some (lvA ts k):=by
 unfold lvA;rw [List.getElem?_eq_getElem (by rw [dq];exact h)]
 rfl
theorem wm {ts:List Nd} (he:EL ts) {j:Nat} (h:j<(nums ts).length):(nums ts)[j]?=some ((List.range ts.length).filter λk=>decide (lvA ts k=j)):=by
 have e:=congrArg (λl:List (List Nat)=>l[j]?) (vZ he)
 have e2:(nums ts)[j]?=((List.range (nums ts).length).map λj=>(List.range ts.length).filter λk=>decide ((((lvs ts)[k]?).getD 0)=j))[j]?:=e
 rw [e2,List.getElem?_map,List.getElem?_range h];rfl
theorem yc {ts:List Nd} (he:EL ts) {k:Nat} (h:k<ts.length):lvA ts k<(nums ts).length:=(iI he ts.length (Nat.le_refl _)).lt k _ h (q8 h)
theorem jP (ts:List Nd) (b:Int) (he:EL ts) (h0:0<ts.length) (hl:ts.length<=100):de [.list (aO ts),.int b]=.ok (.ol (bU ((tpL ts b ((nums ts).length-1)).map λz=>256 * z))):=by
 unfold de fM;have nl:0<(nums ts).length/\(nums ts).length<=ts.length:=qZ he h0;push_cast only [ze ts b he h0 hl,bP];generalize hC:bV _ _ _ _ _ _=rc
 have e:=et hC PyData.int (λz=>.sh (.int (256 * z))) (tpL ts b ((nums ts).length-1)) rfl (by rw [sL];exact of_eq_true (bM (by lia))) (by
  intro z _;push_cast only [and_self])
 subst e;push_cast only [and_self];unfold bU;rw [List.map_map,List.map_map];rfl
noncomputable def Es (ts:List Nd) (pl:List Int) (b:Int) (k:Nat):List Int:=[plA pl k-256 * plA (aV ts) k,256 * tpN ts b (lvA ts k),plA pl k+256 * (plA (aV ts) k+1),256 * tpN ts b (lvA ts k)+256 * (cR ts k).t]
noncomputable def uC (ts:List Nd) (pl:List Int) (b:Int) (k:Nat):PyData:=.tuple ((Es ts pl b k).map PyData.int)
noncomputable def jc (ts:List Nd) (pl:List Int) (b:Int) (m:Nat):List PyData:=(List.range m).map (uC ts pl b)
theorem qh (ts:List Nd) (pl:List Int) (b:Int) (m:Nat):(jc ts pl b m).map OD.sh++[OD.sh (uC ts pl b m)]=(jc ts pl b (m+1)).map OD.sh:=by
 unfold jc;rw [List.range_succ,List.map_append,List.map_append];rfl
theorem rT (ts:List Nd) (pl:List Int) (b:Int) (m:Nat):(jc ts pl b m).length=m:=by unfold jc;rw [List.length_map,List.length_range]
theorem Dk {ts:List Nd} {k:Nat} (h:k<ts.length):plA (aV ts) k=((cR ts k).l.length:Int) / 2:=by
 obtain ⟨n,hn⟩:∃n,ts[k]?=some n:=⟨ts[k],by simp [h]⟩
 have e:cR ts k=n:=by unfold cR;rw [hn];rfl
 unfold plA aV;rw [e,List.getElem?_map,hn];rfl
theorem xn {ts:List Nd} {k:Nat} (h:k<ts.length):cR ts k∈ts:=by
 obtain ⟨n,hn⟩:∃n,ts[k]?=some n:=⟨ts[k],by simp [h]⟩
 have e:cR ts k=n:=by unfold cR;rw [hn];rfl
 rw [e];exact List.mem_of_getElem? hn
theorem qV {l:List Int} {i:Nat} (h:i<l.length):(l.map PyData.int).getD i .none=.int (plA l i):=by
 rw [List.getD_eq_getElem?_getD,List.getElem?_map];unfold plA;rw [List.getElem?_eq_getElem h];rfl
theorem yQ {ts:List Nd} {i:Nat} (h:i<ts.length):(aO ts).getD i .none=ndD (cR ts i):=by
 obtain ⟨n,hn⟩:∃n,ts[i]?=some n:=⟨ts[i],by simp [h]⟩
 have e:cR ts i=n:=by unfold cR;rw [hn];rfl
 rw [e,List.getD_eq_getElem?_getD];unfold aO;rw [List.getElem?_map,hn];rfl
theorem zt {ts:List Nd} {i:Nat} (h:i<ts.length):(g5 (lvs ts)).getD i .none=.int (lvA ts i:Nat):=by
 rw [List.getD_eq_getElem?_getD];unfold g5;rw [List.getElem?_map,q8 h];rfl
theorem qP (ts:List Nd) (gap b:Int) (he:EL ts) (h0:0<ts.length) (hlab:∀n∈ts,n.l.length<=1000) (hl:ts.length<=100):fV [.list (aO ts),.int gap,.int b]=.ok (.ol ((jc ts (drw ts gap) b ts.length).map OD.sh)):=by
 unfold fV kH;have dl:=sN (gap:=gap) h0;have kz:zN4 [.list (aO ts),.list ((drw ts gap).map PyData.int),.list ((aV ts).map PyData.int),.list (g5 (lvs ts))]=.ok (nz (aO ts) ((drw ts gap).map PyData.int) ((aV ts).map PyData.int) (g5 (lvs ts))) :=
  HF ⟨by rw [b7,List.length_map,dl],by rw [b7,List.length_map,qt],by rw [b7,kN,dq]⟩
 push_cast only [jP ts b he h0 hl,bP,Il,qi ts gap he h0 hl hlab,kf ts hlab hl,rsh,gX ts he hl,dk,kz];generalize hL:br _ _ _ _=r'
 refine cD hL (λi ρ=>∃v5 v6 v7 v8 v9:Option OD,ρ=[some (.sh (.list (aO ts))),some (.sh (.int gap)),some (.sh (.int b)),some (.sh (.list (((tpL ts b ((nums ts).length-1)).map λz=>256 * z).map PyData.int))),some (.ol ((jc ts (drw ts gap) b i).map OD.sh)),v5,v6,v7,v8,v9]) ⟨_,_,_,_,_,rfl⟩ ?_ ?_
 ·rintro i d ρ hd ⟨v5,v6,v7,v8,v9,rfl⟩
  obtain ⟨hi,rfl⟩:=oG hd;rw [b7]at hi;rw [yQ hi,qV (by lia),qV (by rw [qt];exact hi),zt hi]
  have lv:=yc he hi;have a3:atI (((tpL ts b ((nums ts).length-1)).map λz=>256 * z).map PyData.int) (lvA ts i:Int)=some (.int (256 * tpN ts b (lvA ts i))):=dn (by
   unfold tpL;rw [List.getElem?_map,List.getElem?_map,List.getElem?_map,List.getElem?_range (by lia)]
   rfl)
  have lb:((jc ts (drw ts gap) b i).length<BIG)=True:=by rw [rT];exact gz (by lia)
  have e:(PyData.tuple [.int (plA (drw ts gap) i-256 * plA (aV ts) i),.int (256 * tpN ts b (lvA ts i)),.int (plA (drw ts gap) i+256 * (plA (aV ts) i+1)),.int (256 * tpN ts b (lvA ts i)+256 * (cR ts i).t)])=uC ts (drw ts gap) b i:=rfl;have sn:=qh ts (drw ts gap) b i;push_cast only [ndD,a3,lb,e,sn];exact ⟨_,_,_,_,_,rfl⟩
 ·rintro ρ' rfl ⟨v5,v6,v7,v8,v9,rfl⟩
  rw [oq,b7];push_cast only [and_self]
noncomputable def elN (ts:List Nd) (k:Nat):Nat:=(eOf ts k).toNat
noncomputable def mI (ts:List Nd) (b:Int) (k:Nat):Int:=256 * tpN ts b (lvA ts k)+256 * (cR ts k).t
noncomputable def wF (ts:List Nd) (pl:List Int) (b:Int) (k:Nat):PyData:=.tuple [.tuple [.int (plA pl (elN ts k)+128),.int (mI ts b (elN ts k))],.tuple [.int (plA pl (elN ts k)+128),.int (256 * tpN ts b (lvA ts k)-256 * b)],.tuple [.int (plA pl k+128),.int (256 * tpN ts b (lvA ts k))]]
noncomputable def jh (ts:List Nd) (pl:List Int) (b:Int) (m:Nat):List PyData:=(List.range m).map λi=>wF ts pl b (i+1)
theorem qd (ts:List Nd) (pl:List Int) (b:Int) (m:Nat):(jh ts pl b m).map OD.sh++[OD.sh (wF ts pl b (m+1))]=(jh ts pl b (m+1)).map OD.sh:=by
 unfold jh;rw [List.range_succ,List.map_append,List.map_append];rfl
theorem rm (ts:List Nd) (pl:List Int) (b:Int) (m:Nat):(jh ts pl b m).length=m:=by unfold jh;rw [List.length_map,List.length_range]
theorem Gw (ts:List Nd) (pl:List Int) (b:Int) (k:Nat):gIx (uC ts pl b k) (.int 3)=.ok (.sh (.int (mI ts b k))):=by
 unfold uC Es mI;push_cast only [at3]
theorem xU {ts:List Nd} (he:EL ts) {k:Nat} (hk:k<ts.length) (h0:0<k):(cR ts k).e=((elN ts k:Nat):Int)/\elN ts k<k:=by
 obtain ⟨n,hn⟩:∃n,ts[k]?=some n:=⟨ts[k],by simp [hk]⟩
 have e:cR ts k=n:=by unfold cR;rw [hn];rfl
 have el:=he k n hn;have h1:=el.2.1 h0;have h2:=el.2.2;unfold elN;rw [fg hn,e]
 lia
theorem xC (ts:List Nd) (gap b:Int) (he:EL ts) (h0:0<ts.length) (hlab:∀n∈ts,n.l.length<=1000) (hl:ts.length<=100):iz [.list (aO ts),.int gap,.int b]=.ok (.ol ((jh ts (drw ts gap) b (ts.length-1)).map OD.sh)):=by
 unfold iz kL;have dl:=sN (gap:=gap) h0;have s1:aI 1=true:=by decide
 have s2:aI (ts.length:Int)=true:=g9 (by lia) (by lia)
 push_cast only [qP ts gap b he h0 hlab hl,dk];generalize hC:bV _ _ _ _ _ _=rc
 have e:=et hC (uC ts (drw ts gap) b) (λk=>.sh (.int (mI ts b k))) (List.range ts.length) rfl (by rw [List.length_range];exact of_eq_true (bM (by lia))) (by
  intro k _;push_cast only [Gw])
 subst e;clear hC;have em:((List.range ts.length).map λk=>OD.sh (.int (mI ts b k))).map OD.er=((List.range ts.length).map (mI ts b)).map PyData.int:=by
  rw [List.map_map,List.map_map];exact List.map_congr_left λk _=>eM _
 push_cast only [em,qi ts gap he h0 hl hlab,bP];generalize hC:bV _ _ _ _ _ _=rc
 have e:=et hC PyData.int (λz=>.sh (.int (z+128))) (drw ts gap) rfl (by rw [dl];exact of_eq_true (bM (by lia))) (by
  intro z _;push_cast only [Int.reduceDiv])
 subst e;clear hC;have em2:((drw ts gap).map λz=>OD.sh (.int (z+128))).map OD.er=((drw ts gap).map λz=>z+128).map PyData.int:=by
  rw [List.map_map,List.map_map];exact List.map_congr_left λk _=>eM _
 push_cast only [em2,jP ts b he h0 hl,bP,gX ts he hl,dk,b7,s1,s2,Bool.and_self];generalize hL:br _ _ _ _=r'
 refine cD hL (λi ρ=>∃v8 v9 v10 v11:Option OD,ρ=[some (.sh (.list (aO ts))),some (.sh (.int gap)),some (.sh (.int b)),some (.sh (.list (((List.range ts.length).map (mI ts b)).map PyData.int))),some (.sh (.list (((drw ts gap).map λz=>z+128).map PyData.int))),some (.sh (.list (((tpL ts b ((nums ts).length-1)).map λz=>256 * z).map PyData.int))),some (.sh (.list (g5 (lvs ts)))),some (.ol ((jh ts (drw ts gap) b i).map OD.sh)),v8,v9,v10,v11]) ⟨_,_,_,_,rfl⟩ ?_ ?_
 ·rintro i d ρ hd ⟨v8,v9,v10,v11,rfl⟩
  obtain ⟨hi,rfl⟩:=dv hd;rw [show (1:Int)+(i:Int)=((i+1:Nat):Int) by lia]
  have hi2:i+1<ts.length:=by lia
  obtain ⟨e1,e2⟩:=xU he hi2 (Nat.succ_pos i);have a1:=o9 hi2;have a2:=sZ (q8 hi2);have lv:=yc he hi2;have a3:atI (((tpL ts b ((nums ts).length-1)).map λz=>256 * z).map PyData.int) (lvA ts (i+1):Int)=some (.int (256 * tpN ts b (lvA ts (i+1)))):=dn (by
   unfold tpL;rw [List.getElem?_map,List.getElem?_map,List.getElem?_map,List.getElem?_range (by lia)]
   rfl)
  have mid:∀k:Nat,k<ts.length->atI (((drw ts gap).map λz=>z+128).map PyData.int) (k:Int)=some (.int (plA (drw ts gap) k+128)):=λk hk=>dn (by
   rw [List.getElem?_map,List.getElem?_map];unfold plA;rw [List.getElem?_eq_getElem (by lia)]
   rfl)
  have a4:=mid (elN ts (i+1)) (by lia)
  have a5:=mid (i+1) hi2;have a6:atI (((List.range ts.length).map (mI ts b)).map PyData.int) (elN ts (i+1):Int)=some (.int (mI ts b (elN ts (i+1)))):=dn (by
   rw [List.getElem?_map,List.getElem?_map,List.getElem?_range (by lia)]
   rfl)
  have lb:((jh ts (drw ts gap) b i).length<BIG)=True:=by rw [rm];exact gz (by lia)
  have e:(PyData.tuple [.tuple [.int (plA (drw ts gap) (elN ts (i+1))+128),.int (mI ts b (elN ts (i+1)))],.tuple [.int (plA (drw ts gap) (elN ts (i+1))+128),.int (256 * tpN ts b (lvA ts (i+1))-256 * b)],.tuple [.int (plA (drw ts gap) (i+1)+128),.int (256 * tpN ts b (lvA ts (i+1)))]])=wF ts (drw ts gap) b (i+1):=rfl;have sn:=qd ts (drw ts gap) b i;push_cast only [a1,ndD,e1,a2,a3,a4,a5,a6,lb,e,sn];exact ⟨_,_,_,_,rfl⟩
 ·rintro ρ' rfl ⟨v8,v9,v10,v11,rfl⟩
  rw [eU,show ((ts.length:Int)-1).toNat=ts.length-1 by lia]
  push_cast only [and_self]
theorem yw {gap:Int} {O:List Ol} {es ls st:List Int} (h:IsSt gap O es ls st) {p q:Nat} (hpq:p<q) (hq:q<O.length):gv st p+dO gap O p q<=gv st q:=by
 have e:=(h.isE.2 q (by lia) hq).1 p hpq
 have l:=(h.isL.2 p (by lia)).1 q hpq hq
 rw [h.eq p (by lia),h.eq q hq]
 lia
theorem yE {gap:Int} {a b:Ol} {l:Nat} {p q:Int×Int} (h1:a[l]?=some p) (h2:b[l]?=some q):p.2+256 * (gap+1)-q.1<=dist gap a b:=by
 rw [sR];have hg:=zo (gap:=gap) h1 h2;have hm:=List.mem_of_getElem? hg;exact (fI (λz=>by rw [z]at hm;cases hm)).2 _ hm
theorem sub_lt {ts:List Nd} {c:F} (p:PT ts c) {j a b x y l m:Nat} (ha:a∈chN ts j) (hb:b∈chN ts j) (hab:a<b) (hx:Dn ts a l x) (hy:Dn ts b m y):x<y:=by
 have he:=cW p;obtain ⟨a1,a2⟩:=bZ.mp ha;obtain ⟨b1,b2⟩:=bZ.mp hb;have ja:=(f9 he ha).1;obtain ⟨s,q0,q1,q2,q4⟩:=sU p a1;have hx':=sk he q4 (Nat.le_refl a) (by lia) hx
 have hy':=(oz he b1 hy).2.1;have:¬b<=a+s:=λz=>by
  have:=q2 b hab z;rw [b2]at this
  lia
 lia
theorem xa {ts:List Nd} {c:F} (p:PT ts c) (gap:Int) (hl:ts.length<=100):∀(L j x y:Nat),j<ts.length->Dn ts j L x->Dn ts j L y->x<y->pos ts gap x+256 * (gv (aV ts) x+gv (aV ts) y+gap+1)<=pos ts gap y
 |0,j,x,y,_,hx,hy,hxy=>by
  have hx:x=j:=hx;have hy:y=j:=hy
  lia
 |L+1,j,x,y,hj,⟨a,ha,hx⟩,⟨b,hb,hy⟩,hxy=>by
  have he:=cW p;have h0:=F.Pf.pos p;by_cases hab:a=b
  ·subst hab
   exact xa p gap hl L a x y (bZ.mp ha).1 hx hy hxy
  ·have lt:a<b:=by
    rcases Nat.lt_or_ge a b with z | z
    ·exact z
    ·have:=sub_lt p hb ha (by lia) hy hx
     lia
   obtain ⟨u,hu,eu⟩:=List.getElem_of_mem ha;obtain ⟨v,hv,ev⟩:=List.getElem_of_mem hb;have gu:(chN ts j)[u]?=some a:=by rw [List.getElem?_eq_getElem hu,eu]
   have gw:(chN ts j)[v]?=some b:=by rw [List.getElem?_eq_getElem hv,ev]
   have uv:u<v:=by
    rcases Nat.lt_trichotomy u v with z | z | z
    ·exact z
    ·subst z
     rw [eu]at ev;exact absurd ev hab
    ·have:=List.pairwise_iff_getElem.mp (zM ts j) v u hv hu z
     rw [eu,ev]at this
     lia
   have hc:chN ts j≠[]:=λz=>by rw [z]at ha;cases ha
   have hO:=my gap he h0 hl hc;obtain ⟨⟨es,ls,hst⟩,_⟩:=pf (gap:=gap) hO;have ol:((chN ts j).map (outF ts gap)).length=(chN ts j).length:=List.length_map _;have k1:=yw hst uv (by lia)
   have a1:=(bZ.mp ha).1;have b1:=(bZ.mp hb).1;have oa:=mw gap he h0 hl (ts.length-a) a (by lia) a1
   have ob:=mw gap he h0 hl (ts.length-b) b (by lia) b1
   have la:L<(outF ts gap a).length:=(oa.len L).mpr ⟨x,hx⟩;have lb:L<(outF ts gap b).length:=(ob.len L).mpr ⟨y,hy⟩;have ga:(outF ts gap a)[L]?=some (outF ts gap a)[L]:=List.getElem?_eq_getElem la;have gb:(outF ts gap b)[L]?=some (outF ts gap b)[L]:=List.getElem?_eq_getElem lb;have ha2:=(oa.hi L _ ga).2 x hx;have hb2:=(ob.lo L _ gb).2 y hy;have dd:dO gap ((chN ts j).map (outF ts gap)) u v=dist gap (outF ts gap a) (outF ts gap b):=by
    unfold dO;rw [List.getElem?_map,List.getElem?_map,gu,gw];rfl
   have dg:=yE (gap:=gap) ga gb;rw [dd]at k1;have pa:=fj gap he h0 hl hj gu;have pb:=fj gap he h0 hl hj gw
   lia
theorem pT {ts:List Nd} (he:EL ts) (h0:0<ts.length) {k:Nat} (hk:k<ts.length):Dn ts 0 (lvN ts k) k:=by
 obtain ⟨l,hd⟩:=wJ he (j:=0) (s:=ts.length-1) (by lia) (λq h1 h2=>by
  obtain ⟨n,hn⟩:∃n,ts[q]?=some n:=⟨ts[q]'(by lia),by simp⟩
  rw [fg hn];exact (he q n hn).2.1 h1) k (by lia) (by lia)
 have:=(oz he h0 hd).1;rw [p_ he h0,Nat.zero_add]at this;rw [this];exact hd
theorem om {ts:List Nd} {c:F} (p:PT ts c) (gap:Int) (hl:ts.length<=100) {x y:Nat} (hx:x<ts.length) (hy:y<ts.length) (hxy:x<y) (e:lvN ts x=lvN ts y):pos ts gap x+256 * (gv (aV ts) x+gv (aV ts) y+gap+1)<=pos ts gap y:=by
 have he:=cW p;have h0:=F.Pf.pos p;have dx:=pT he h0 hx;have dy:=pT he h0 hy;rw [<-e]at dy;exact xa p gap hl _ 0 x y h0 dx dy hxy
theorem Co {ts:List Nd} {j a:Nat} (h:a∈chN ts j):∃i,i<(chN ts j).length/\(chN ts j)[i]?=some a:=by
 obtain ⟨u,hu,eu⟩:=List.getElem_of_mem h;exact ⟨u,hu,by rw [List.getElem?_eq_getElem hu,eu]⟩
theorem t4 {ts:List Nd} {c:F} (p:PT ts c) (gap:Int) (hg:0<=gap) (hl:ts.length<=100) {j:Nat} (hj:j<ts.length) (hc:chN ts j≠[]) :
  ∃es ls,IsSt gap ((chN ts j).map (outF ts gap)) es ls (stF gap ((chN ts j).map (outF ts gap)))/\0<=gv es ((chN ts j).length-1) /\
   ∀i,i<(chN ts j).length->-gv es ((chN ts j).length-1)<=gv (stF gap ((chN ts j).map (outF ts gap))) i/\gv (stF gap ((chN ts j).map (outF ts gap))) i<=gv es ((chN ts j).length-1):=by
 have he:=cW p;have h0:=F.Pf.pos p;have hO:=my gap he h0 hl hc;obtain ⟨⟨es,ls,hst⟩,_⟩:=pf (gap:=gap) hO;have ol:((chN ts j).map (outF ts gap)).length=(chN ts j).length:=List.length_map _;have n0:0<(chN ts j).length:=List.length_pos_iff.mpr hc;have z1:gv es 0=0:=hst.isE.1;have z2:gv ls 0=0:=qT (by lia) hst.isE hst.isL rfl
 have z3:gv ls ((chN ts j).length-1)=gv es ((chN ts j).length-1):=by
  have:=hst.isL.1;rw [ol]at this;exact this
 have e0:=hst.eq 0 (by lia)
 have e1:=hst.eq ((chN ts j).length-1) (by lia)
 rw [ol]at e0 e1;rw [z1,z2]at e0;rw [z3]at e1;have rise:∀u v,u<v->v<(chN ts j).length->gv (stF gap ((chN ts j).map (outF ts gap))) u<=gv (stF gap ((chN ts j).map (outF ts gap))) v:=by
  intro u v huv hv;have gu:(chN ts j)[u]?=some (chN ts j)[u]:=List.getElem?_eq_getElem (by lia)
  have gw:(chN ts j)[v]?=some (chN ts j)[v]:=List.getElem?_eq_getElem hv;have mu:(chN ts j)[u]∈chN ts j:=List.getElem_mem _;have mv:(chN ts j)[v]∈chN ts j:=List.getElem_mem _;have lt:=List.pairwise_iff_getElem.mp (zM ts j) u v (by lia) hv huv
  have g:=om p gap hl (bZ.mp mu).1 (bZ.mp mv).1 lt (by rw [d4 he mu,d4 he mv])
  have pa:=fj gap he h0 hl hj gu;have pb:=fj gap he h0 hl hj gw;have r1:0<=gv (aV ts) (chN ts j)[u]:=by
   rw [tm (Ae (bZ.mp mu).1)]
   lia
  have r2:0<=gv (aV ts) (chN ts j)[v]:=by
   rw [tm (Ae (bZ.mp mv).1)]
   lia
  lia
 have E0:0<=gv es ((chN ts j).length-1):=by
  rcases Nat.lt_or_ge 1 (chN ts j).length with z | z
  ·have:=rise 0 ((chN ts j).length-1) (by lia) (by lia)
   lia
  ·have e:(chN ts j).length-1=0:=by lia
   rw [e,z1]
   lia
 refine ⟨es,ls,hst,E0,λi hi=>?_⟩
 have a1:gv (stF gap ((chN ts j).map (outF ts gap))) 0<=gv (stF gap ((chN ts j).map (outF ts gap))) i:=by
  rcases Nat.eq_zero_or_pos i with z | z
  ·rw [z]
   lia
  ·exact rise 0 i z hi
 have a2:gv (stF gap ((chN ts j).map (outF ts gap))) i<=gv (stF gap ((chN ts j).map (outF ts gap))) ((chN ts j).length-1):=by
  rcases Nat.lt_or_ge i ((chN ts j).length-1) with z | z
  ·exact rise i _ z (by lia)
  ·have e:i=(chN ts j).length-1:=by lia
   rw [e]
   lia
 lia
theorem wa {ts:List Nd} {c:F} (p:PT ts c) (gap:Int) (hg:0<=gap) (hl:ts.length<=100) {j:Nat} (hj:j<ts.length) (hc:chN ts j≠[]):∃a b,a∈chN ts j/\b∈chN ts j/\pos ts gap a<=pos ts gap j/\pos ts gap j<=pos ts gap b:=by
 have he:=cW p;have h0:=F.Pf.pos p;have hO:=my gap he h0 hl hc;obtain ⟨es,ls,hst,E0,hs⟩:=t4 p gap hg hl hj hc;have ol:((chN ts j).map (outF ts gap)).length=(chN ts j).length:=List.length_map _;have n0:0<(chN ts j).length:=List.length_pos_iff.mpr hc;have z1:gv es 0=0:=hst.isE.1;have z2:gv ls 0=0:=qT (by lia) hst.isE hst.isL rfl
 have z3:gv ls ((chN ts j).length-1)=gv es ((chN ts j).length-1):=by
  have:=hst.isL.1;rw [ol]at this;exact this
 have e0:=hst.eq 0 (by lia)
 have e1:=hst.eq ((chN ts j).length-1) (by lia)
 rw [ol]at e0 e1;rw [z1,z2]at e0;rw [z3]at e1;have g0:(chN ts j)[0]?=some (chN ts j)[0]:=List.getElem?_eq_getElem n0;have g1:(chN ts j)[(chN ts j).length-1]?=some (chN ts j)[(chN ts j).length-1]:=List.getElem?_eq_getElem (by lia)
 have pa:=fj gap he h0 hl hj g0;have pb:=fj gap he h0 hl hj g1;exact ⟨(chN ts j)[0],(chN ts j)[(chN ts j).length-1],List.getElem_mem _,List.getElem_mem _,by lia,by lia⟩
noncomputable def Mf:Nat->Int
 |0=>0
 |n+1=>17 * Mf n+59392
theorem vw:∀n,0<=Mf n
 |0=>by decide
 |n+1=>by
  have:=vw n;show 0<=17 * Mf n+59392
  lia
theorem yS {n:Nat} {d:Nat->Nat->Int} {e:Nat->Int} {D:Int} (h:IsE n d e) (hD:0<=D) (hd:∀j k,j<k->k<n->d j k<=D):∀k,k<n->e k<=k * D:=by
 intro k
 induction k using Nat.strongRecOn with
 |ind k ih =>
  intro hk;rcases Nat.eq_zero_or_pos k with z | z
  ·subst z
   rw [h.1]
   lia
  ·obtain ⟨j,hj,ej⟩:=(h.2 k z hk).2
   have i1:=ih j hj (by lia)
   have i2:=hd j k hj hk;have i3:((j:Int)+1) * D<=(k:Int) * D:=Int.mul_le_mul_of_nonneg_right (by lia) hD
   rw [Int.add_mul,Int.one_mul]at i3
   lia
theorem BA {ts:List Nd} {c:F} (p:PT ts c) (gap:Int) (hg:0<=gap) (hg2:gap<=20) (hl:ts.length<=9) (hr:∀k,k<ts.length->gv (aV ts) k<=4):∀n L j x,lvN ts j+n=8->j<ts.length->Dp ts 8->Dn ts j L x->-Mf n<=pos ts gap x-pos ts gap j/\pos ts gap x-pos ts gap j<=Mf n:=by
 have he:=cW p;have h0:=F.Pf.pos p;have hl':ts.length<=100:=by lia
 intro n
 induction n with
 |zero =>
  intro L j x hn hj hd hx;cases L with
  |zero =>
   have hx:x=j:=hx;rw [hx];show -0<=_/\_<=(0:Int)
   lia
  |succ L =>
   obtain ⟨a,ha,_⟩:=hx;have:=d4 he ha;have:=hd a (bZ.mp ha).1
   lia
 |succ n ih =>
  intro L j x hn hj hd hx;have mp:=vw n;cases L with
  |zero =>
   have hx:x=j:=hx;rw [hx];show -(17 * Mf n+59392)<=_/\_<=17 * Mf n+59392
   lia
  |succ L =>
   obtain ⟨a,ha,hx⟩:=hx;have hc:chN ts j≠[]:=λz=>by rw [z]at ha;cases ha
   obtain ⟨es,ls,hst,E0,hs⟩:=t4 p gap hg hl' hj hc;have ol:((chN ts j).map (outF ts gap)).length=(chN ts j).length:=List.length_map _;obtain ⟨i,hi,gi⟩:=Co ha;have la:=d4 he ha;have i1:=ih L a x (by lia) (bZ.mp ha).1 hd hx
   have pa:=fj gap he h0 hl' hj gi;have n9:(chN ts j).length<=9:=by
    have:=sE ts j
    lia
   have dl:∀u v,u<v->v<((chN ts j).map (outF ts gap)).length->dO gap ((chN ts j).map (outF ts gap)) u v<=2 * Mf n+7424:=by
    intro u v huv hv;rw [ol]at hv;have gu:(chN ts j)[u]?=some (chN ts j)[u]:=List.getElem?_eq_getElem (by lia)
    have gw:(chN ts j)[v]?=some (chN ts j)[v]:=List.getElem?_eq_getElem hv;have mu:(chN ts j)[u]∈chN ts j:=List.getElem_mem _;have mv:(chN ts j)[v]∈chN ts j:=List.getElem_mem _;have a1:=(bZ.mp mu).1;have b1:=(bZ.mp mv).1;have oa:=mw gap he h0 hl' (ts.length-(chN ts j)[u]) (chN ts j)[u] (by lia) a1
    have ob:=mw gap he h0 hl' (ts.length-(chN ts j)[v]) (chN ts j)[v] (by lia) b1
    have dd:dO gap ((chN ts j).map (outF ts gap)) u v=dist gap (outF ts gap (chN ts j)[u]) (outF ts gap (chN ts j)[v]):=by
     unfold dO;rw [List.getElem?_map,List.getElem?_map,gu,gw];rfl
    rw [dd,sR];have l1:=(ql gap he h0 hl' a1).1;have l2:=(ql gap he h0 hl' b1).1;obtain ⟨y,ys,ey⟩:=wb (gap:=gap) l1 l2;have hm:=(fI (xs:=ask gap (outF ts gap (chN ts j)[u]) (outF ts gap (chN ts j)[v])) (by rw [ey];exact List.cons_ne_nil _ _)).1
    generalize jK (ask gap (outF ts gap (chN ts j)[u]) (outF ts gap (chN ts j)[v]))=M at hm
    unfold ask at hm;obtain ⟨z,hz,rfl⟩:=List.mem_map.mp hm;obtain ⟨q,hq,eq⟩:=List.getElem_of_mem hz;rw [List.length_zip]at hq;rw [List.getElem_zip]at eq;have g1:(outF ts gap (chN ts j)[u])[q]?=some z.1:=by
     rw [List.getElem?_eq_getElem (by lia),<-eq]
    have g2:(outF ts gap (chN ts j)[v])[q]?=some z.2:=by
     rw [List.getElem?_eq_getElem (by lia),<-eq]
    obtain ⟨x1,dx1,ex1⟩:=(oa.hi q _ g1).1;obtain ⟨x2,dx2,ex2⟩:=(ob.lo q _ g2).1;have k1:=ih q _ x1 (by rw [d4 he mu];lia) a1 hd dx1
    have k2:=ih q _ x2 (by rw [d4 he mv];lia) b1 hd dx2
    have r1:=hr x1 (oz he a1 dx1).2.2;have r2:=hr x2 (oz he b1 dx2).2.2
    lia
   have hE:=yS hst.isE (D:=2 * Mf n+7424) (by lia) dl ((chN ts j).length-1) (by lia)
   have h8:(((chN ts j).length-1:Nat):Int) * (2 * Mf n+7424)<=8 * (2 * Mf n+7424):=Int.mul_le_mul_of_nonneg_right (by lia) (by lia)
   have s1:=hs i hi;show -(17 * Mf n+59392)<=_/\_<=17 * Mf n+59392
   lia
noncomputable def PX (ts:List Nd) (gap:Int) (k:Nat):Int:=plA (drw ts gap) k
noncomputable def bxs (ts:List Nd) (gap b:Int) (k:Nat):Bx:=⟨PX ts gap k-256 * plA (aV ts) k,256 * tpN ts b (lvA ts k),PX ts gap k+256 * (plA (aV ts) k+1),256 * tpN ts b (lvA ts k)+256 * (cR ts k).t⟩
noncomputable def wy0 (ts:List Nd) (gap b:Int) (k:Nat):Int×Int:=(PX ts gap (elN ts k)+128,mI ts b (elN ts k))
noncomputable def wy1 (ts:List Nd) (gap b:Int) (k:Nat):Int×Int:=(PX ts gap (elN ts k)+128,256 * tpN ts b (lvA ts k)-256 * b)
noncomputable def wy2 (ts:List Nd) (gap b:Int) (k:Nat):Int×Int:=(PX ts gap k+128,256 * tpN ts b (lvA ts k))
structure Sh (ts:List Nd) (c:F) (gap b:Int):Prop where
 p:PT ts c
 n9:ts.length<=9
 ok:∀n∈ts,yO n
 dp:Dp ts 8
 g1:1<=gap
 g2:gap<=20
 b1:1<=b
 b2:b<=20
section
variable {ts:List Nd} {c:F} {gap b:Int}
theorem Sh.tall (s:Sh ts c gap b) {k:Nat} (hk:k<ts.length):1<=(cR ts k).t/\(cR ts k).t<=9:=(s.ok _ (xn hk)).2
theorem Sh.rch (s:Sh ts c gap b) {k:Nat} (hk:k<ts.length):0<=plA (aV ts) k/\plA (aV ts) k<=4:=by
 rw [Dk hk];have:=(s.ok _ (xn hk)).1;have h1:=this.1;have h2:=this.2.1
 lia
theorem Sh.px (s:Sh ts c gap b) {k:Nat} (hk:k<ts.length):PX ts gap k=pos ts gap k-kT ts gap:=DR (F.Pf.pos s.p) hk
theorem Sh.gp (s:Sh ts c gap b) {x y:Nat} (hx:x<ts.length) (hy:y<ts.length) (hxy:x<y) (e:lvA ts x=lvA ts y):PX ts gap x+256 * (plA (aV ts) x+plA (aV ts) y+gap+1)<=PX ts gap y:=by
 have h:pos ts gap x+256 * (plA (aV ts) x+plA (aV ts) y+gap+1)<=pos ts gap y:=om s.p gap (by have:=s.n9;lia) hx hy hxy e
 rw [s.px hx,s.px hy]
 lia
theorem tF:∀(a:Int) (as:List Int),a<=fX a as/\∀z∈as,z<=fX a as
 |a,[]=>⟨Int.le_refl _,λz h=>by cases h⟩
 |a,d :: as=>by
  have h:=fI (xs:=a :: d :: as) (by simp)
  have e:jK (a :: d :: as)=fX a (d :: as):=rfl;rw [e]at h;exact ⟨h.2 a (by simp),λz hz=>h.2 z (List.mem_cons_of_mem _ hz)⟩
theorem CH {l:List Int} {z:Int} (h:z∈l):z<=mxL l:=by
 cases l with
 |nil=>cases h
 |cons a as =>
  rcases List.mem_cons.mp h with rfl | h
  ·exact (tF _ as).1
  ·exact (tF a as).2 z h
theorem wZ (a:Int) (as:List Int):fX a as∈a :: as:=by
 have h:=fI (xs:=a :: as) (by simp)
 exact h.1
theorem Sh.mxb (s:Sh ts c gap b) (m:Nat):0<=mxL (gW ts (((nums ts)[m]?).getD []))/\mxL (gW ts (((nums ts)[m]?).getD []))<=9:=by
 have he:=cW s.p;cases e:gW ts (((nums ts)[m]?).getD []) with
 |nil=>exact ⟨by decide,by decide⟩
 |cons a as =>
  have hm:=wZ a as;rw [<-e]at hm;have hm2:fX a as∈gW ts (((nums ts)[m]?).getD []):=hm;unfold gW at hm2;obtain ⟨k,hk,ek⟩:=List.mem_map.mp hm2;have hl:m<(nums ts).length:=by
   rcases Nat.lt_or_ge m (nums ts).length with z | z
   ·exact z
   ·rw [List.getElem?_eq_none_iff.mpr z]at hk
    cases hk
  rw [wm he hl]at hk;have hk2:k<ts.length:=List.mem_range.mp (List.mem_filter.mp hk).1;have:=s.tall hk2;show 0<=fX a as/\fX a as<=9
  rw [<-ek]
  lia
theorem Sh.tp1 (s:Sh ts c gap b) {k:Nat} (hk:k<ts.length):tpN ts b (lvA ts k)+(cR ts k).t+b<=tpN ts b (lvA ts k+1):=by
 have he:=cW s.p;show _<=tpN ts b (lvA ts k)+mxL (gW ts (((nums ts)[lvA ts k]?).getD []))+b
 have:(cR ts k).t∈gW ts (((nums ts)[lvA ts k]?).getD []):=by
  rw [wm he (yc he hk)];unfold gW;exact List.mem_map.mpr ⟨k,List.mem_filter.mpr ⟨List.mem_range.mpr hk,decide_eq_true rfl⟩,rfl⟩
 have:=CH this
 lia
theorem Sh.tpm (s:Sh ts c gap b) (l:Nat):∀d,tpN ts b l+d<=tpN ts b (l+d)/\tpN ts b (l+d)<=tpN ts b l+29 * d
 |0=>by show _/\_;constructor <;> simp
 |d+1=>by
  have ih:=s.tpm l d;have h:=s.mxb (l+d);have e:tpN ts b (l+(d+1))=tpN ts b (l+d)+mxL (gW ts (((nums ts)[l+d]?).getD []))+b:=rfl;have:=s.b1;have:=s.b2;rw [e]
  lia
theorem Sh.tpl (s:Sh ts c gap b) {l m:Nat} (h:l<=m):tpN ts b l<=tpN ts b m:=by
 have:=(s.tpm l (m-l)).1;rw [show l+(m-l)=m by lia]at this
 lia
theorem Sh.tp0 (s:Sh ts c gap b) (l:Nat):0<=tpN ts b l/\tpN ts b l<=29 * l:=by
 have:=s.tpm 0 l;rw [Nat.zero_add]at this;have e:tpN ts b 0=0:=rfl;rw [e]at this
 lia
theorem Sh.lev (s:Sh ts c gap b) {x y:Nat} (hx:x<ts.length) (hl:lvA ts x<lvA ts y):(bxs ts gap b x).d+256 * b<=256 * tpN ts b (lvA ts y):=by
 have h1:=s.tp1 hx;have h2:=s.tpl (l:=lvA ts x+1) (m:=lvA ts y) hl;show 256 * tpN ts b (lvA ts x)+256 * (cR ts x).t+256 * b<=_
 lia
theorem Sh.el (s:Sh ts c gap b) {k:Nat} (hk:k<ts.length) (h0:0<k):elN ts k<k/\k∈chN ts (elN ts k)/\lvA ts k=lvA ts (elN ts k)+1:=by
 have he:=cW s.p;obtain ⟨h1,h2⟩:=xU he hk h0;have hm:k∈chN ts (elN ts k):=bZ.mpr ⟨hk,by
  rw [<-h1];obtain ⟨n,hn⟩:∃n,ts[k]?=some n:=⟨ts[k],by simp [hk]⟩
  rw [fg hn];unfold cR;rw [hn];rfl⟩
 exact ⟨h2,hm,d4 he hm⟩
theorem Sh.ord (s:Sh ts c gap b) {e f x y:Nat} (hef:e<f) (hf:f<ts.length) (hl:lvA ts e=lvA ts f) (hx:x∈chN ts e) (hy:y∈chN ts f):x<y:=by
 have he:=cW s.p;obtain ⟨q,q0,q1,q2,q4⟩:=sU s.p (show e<ts.length by lia)
 have hx':x<=e+q:=sk he q4 (Nat.le_refl e) (by lia) (l:=1) ⟨x,hx,rfl⟩
 have hf':¬f<=e+q:=λz=>by
  obtain ⟨l,hd⟩:=wJ he (j:=e) (s:=q) (by lia) q2 f (by lia) z
  have h:=(oz he (by lia) hd).1
  have h2:lvN ts e=lvN ts f:=hl;have l0:l=0:=by lia
  subst l0;have:f=e:=hd
  lia
 have:=(f9 he hy).1
 lia
theorem Sh.mid (s:Sh ts c gap b) {e f x y:Nat} (hef:e<f) (hf:f<ts.length) (hl:lvA ts e=lvA ts f) (hx:x∈chN ts e) (hy:y∈chN ts f):PX ts gap x+256<=PX ts gap y/\PX ts gap x+256<=PX ts gap f/\PX ts gap e+256<=PX ts gap y:=by
 have he:=cW s.p;have h9:=s.n9;have g1:=s.g1;have lx:=(bZ.mp hx).1;have ly:=(bZ.mp hy).1;have key:∀{x y:Nat},x∈chN ts e->y∈chN ts f->PX ts gap x+256<=PX ts gap y:=by
  intro x y hx hy;have lx:=(bZ.mp hx).1;have ly:=(bZ.mp hy).1;have h:=s.gp lx ly (s.ord hef hf hl hx hy) (by
   have a:lvA ts x=lvA ts e+1:=d4 he hx;have b:lvA ts y=lvA ts f+1:=d4 he hy
   lia)
  have r1:=s.rch lx;have r2:=s.rch ly
  lia
 have e0:e<ts.length:=by lia
 obtain ⟨a1,b1,ma,mb,pa,pb⟩:=wa s.p gap (by lia) (by lia) e0 (λz=>by rw [z]at hx;cases hx)
 obtain ⟨a2,b2,ma2,mb2,pa2,pb2⟩:=wa s.p gap (by lia) (by lia) hf (λz=>by rw [z]at hy;cases hy)
 have k1:=key hx hy;have k2:=key hx ma2;have k3:=key mb hy;have q1:=s.px e0;have q2:=s.px (bZ.mp mb).1;have q3:=s.px hf;have q4:=s.px (bZ.mp ma2).1
 lia
theorem Ds {x y:Int} (h1:0<=x) (h2:y<=0):x * y<=0:=Int.mul_nonpos_of_nonneg_of_nonpos h1 h2
theorem Ap.symm {x y:Bx} (h:Ap x y):Ap y x:=by unfold Ap at h ⊢;lia
theorem Off.symm {p q s u:Int×Int} (h:Off p q s u):Off s u p q:=by
 unfold Off at h ⊢;rcases h with h | h | h
 ·exact .inl h.symm
 ·exact .inr (.inr h)
 ·exact .inr (.inl h)
theorem Sh.boxes (s:Sh ts c gap b) {x y:Nat} (hx:x<ts.length) (hy:y<ts.length) (hxy:x<y):Ap (bxs ts gap b x) (bxs ts gap b y):=by
 have g1:=s.g1;have b1:=s.b1;rcases Nat.lt_trichotomy (lvA ts x) (lvA ts y) with h | h | h
 ·have:=s.lev hx h (gap:=gap)
  exact .inr (.inr (.inl (by show (bxs ts gap b x).d<256 * tpN ts b (lvA ts y);lia)))
 ·have:=s.gp hx hy hxy h
  refine .inl ?_;show PX ts gap x+256 * (plA (aV ts) x+1)<PX ts gap y-256 * plA (aV ts) y
  lia
 ·have:=s.lev hy h (gap:=gap)
  exact .inr (.inr (.inr (by show (bxs ts gap b y).d<256 * tpN ts b (lvA ts x);lia)))
theorem ku {x y z:Int} (h1:z<=x) (h2:z<=y):z<=mn x y:=by unfold mn;split <;> lia
theorem kG {x y z:Int} (h1:x<=z) (h2:y<=z):mx x y<=z:=by unfold mx;split <;> lia
theorem xV {x y:Int}:mn x y<=x/\mn x y<=y:=by unfold mn;split <;> lia
theorem Av {x y:Int}:x<=mx x y/\y<=mx x y:=by unfold mx;split <;> lia
structure Ln (ts:List Nd) (gap b:Int) (k e:Nat):Prop where
 lt:e<k
 kn:k<ts.length
 mem:k∈chN ts e
 lv:lvA ts k=lvA ts e+1
 w0:wy0 ts gap b k=(PX ts gap e+128,(bxs ts gap b e).d)
 w1:wy1 ts gap b k=(PX ts gap e+128,256 * tpN ts b (lvA ts k)-256 * b)
 bend:(bxs ts gap b e).d<=256 * tpN ts b (lvA ts k)-256 * b
theorem Sh.ln (s:Sh ts c gap b) {k:Nat} (hk:k<ts.length) (h0:0<k):Ln ts gap b k (elN ts k):=by
 obtain ⟨h1,h2,h3⟩:=s.el hk h0;have h:=s.lev (gap:=gap) (x:=elN ts k) (y:=k) (by lia) (by lia)
 exact ⟨h1,hk,h2,h3,rfl,rfl,by lia⟩
theorem Sh.on0 (s:Sh ts c gap b) {k:Nat} (hk:k<ts.length) (h0:0<k):OnS (wy0 ts gap b k) (bxs ts gap b (elN ts k)):=by
 obtain ⟨h1,h2,h3⟩:=s.el hk h0;have r:=s.rch (k:=elN ts k) (by lia)
 have t:=s.tall (k:=elN ts k) (by lia)
 refine ⟨?_,?_,?_,.inr rfl⟩
 ·show PX ts gap (elN ts k)-256 * plA (aV ts) (elN ts k)<PX ts gap (elN ts k)+128
  lia
 ·show PX ts gap (elN ts k)+128<PX ts gap (elN ts k)+256 * (plA (aV ts) (elN ts k)+1)
  lia
 ·show 256 * tpN ts b (lvA ts (elN ts k))<256 * tpN ts b (lvA ts (elN ts k))+256 * (cR ts (elN ts k)).t
  lia
theorem Sh.on2 (s:Sh ts c gap b) {k:Nat} (hk:k<ts.length):OnS (wy2 ts gap b k) (bxs ts gap b k):=by
 have r:=s.rch hk;have t:=s.tall hk;refine ⟨?_,?_,?_,.inl rfl⟩
 ·show PX ts gap k-256 * plA (aV ts) k<PX ts gap k+128
  lia
 ·show PX ts gap k+128<PX ts gap k+256 * (plA (aV ts) k+1)
  lia
 ·show 256 * tpN ts b (lvA ts k)<256 * tpN ts b (lvA ts k)+256 * (cR ts k).t
  lia
theorem Sh.side (s:Sh ts c gap b) {x e:Nat} (hx:x<ts.length) (hn:e<ts.length) (hl:lvA ts x=lvA ts e) (ne:x≠e):(x<e/\(bxs ts gap b x).c<PX ts gap e+128)\/(e<x/\PX ts gap e+128<(bxs ts gap b x).a):=by
 have g1:=s.g1;have r1:=s.rch hx;have r2:=s.rch hn;rcases Nat.lt_or_ge x e with z | z
 ·have:=s.gp hx hn z hl
  refine .inl ⟨z,?_⟩;show PX ts gap x+256 * (plA (aV ts) x+1)<PX ts gap e+128
  lia
 ·have:=s.gp hn hx (by lia) hl.symm
  refine .inr ⟨by lia,?_⟩
  show PX ts gap e+128<PX ts gap x-256 * plA (aV ts) x
  lia
theorem Sh.first (s:Sh ts c gap b) {k x:Nat} (hk:k<ts.length) (h0:0<k) (hx:x<ts.length) (ne:x≠elN ts k):Clr (wy0 ts gap b k) (wy1 ts gap b k) (bxs ts gap b x):=by
 have L:=s.ln hk h0;have b1:=s.b1;have e0:elN ts k<ts.length:=by have:=L.lt;lia
 have te:=s.tall e0;refine .inl ?_;rw [L.w0,L.w1];have m1:=xV (x:=PX ts gap (elN ts k)+128) (y:=PX ts gap (elN ts k)+128);have fa:PX ts gap (elN ts k)+128<=mn (PX ts gap (elN ts k)+128) (PX ts gap (elN ts k)+128):=ku (Int.le_refl _) (Int.le_refl _);have fc:mx (PX ts gap (elN ts k)+128) (PX ts gap (elN ts k)+128)<=PX ts gap (elN ts k)+128:=kG (Int.le_refl _) (Int.le_refl _);have fb:(bxs ts gap b (elN ts k)).d<=mn (bxs ts gap b (elN ts k)).d (256 * tpN ts b (lvA ts k)-256 * b):=ku (Int.le_refl _) L.bend;have fd:mx (bxs ts gap b (elN ts k)).d (256 * tpN ts b (lvA ts k)-256 * b)<=256 * tpN ts b (lvA ts k)-256 * b:=kG L.bend (Int.le_refl _);have ed:(bxs ts gap b (elN ts k)).d=256 * tpN ts b (lvA ts (elN ts k))+256 * (cR ts (elN ts k)).t:=rfl;unfold Ap fr
 dsimp only
 rcases Nat.lt_trichotomy (lvA ts x) (lvA ts (elN ts k)) with h | h | h
 ·have:=s.lev (gap:=gap) hx h
  exact .inr (.inr (.inr (by lia)))
 ·rcases s.side hx e0 h ne with ⟨_,z⟩ | ⟨_,z⟩
  ·exact .inr (.inl (by lia))
  ·exact .inl (by lia)
 ·have hl:=s.tpl (l:=lvA ts k) (m:=lvA ts x) (by rw [L.lv];lia)
  refine .inr (.inr (.inl ?_));show _<256 * tpN ts b (lvA ts x)
  lia
theorem nS (X Y bd T sx sy:Int):cr (X,bd) (Y,T) (sx,sy)=(Y-X) * (sy-bd)-(T-bd) * (sx-X):=rfl
theorem nG (X Y bd T sx sy:Int):cr (X,bd) (Y,T) (sx,sy)=(Y-X) * (sy-T)-(T-bd) * (sx-Y):=by
 rw [nS];have e1:sy-bd=(sy-T)+(T-bd):=by lia
 have e2:sx-X=(sx-Y)+(Y-X):=by lia
 rw [e1,e2,Int.mul_add,Int.mul_add,Int.mul_comm (T-bd) (Y-X)]
 lia
theorem ia {A B C D:Int} (h1:A * B<=0) (h2:0<C) (h3:0<D):A * B-C * D<0:=by
 have:=Int.mul_pos h2 h3
 lia
theorem ic {A B C D:Int} (h1:0<=A * B) (h2:0<C) (h3:D<0):0<A * B-C * D:=by
 have:=Int.mul_neg_of_pos_of_neg h2 h3
 lia
theorem DB {X Y bd T:Int} {x:Bx} (ht:bd<T) (hd:x.d<=bd) (hb:x.b<=x.d) (hac:x.a<=x.c) (h:x.c<X\/X<x.a):Clr (X,bd) (Y,T) x:=by
 have m1:=xV (x:=X) (y:=Y);have m2:=Av (x:=X) (y:=Y);rcases h with h | h
 ·rcases Int.lt_or_le X Y with z | z
  ·refine .inl (.inr (.inl ?_))
   have:X<=mn X Y:=ku (Int.le_refl _) (by lia)
   show x.c<mn X Y
   lia
  ·refine .inr (.inl ?_)
   rw [nS,nS,nS,nS];refine ⟨ic ?_ (by lia) (by lia),ic ?_ (by lia) (by lia),ic ?_ (by lia) (by lia),ic ?_ (by lia) (by lia)⟩ <;> exact Int.mul_nonneg_of_nonpos_of_nonpos (by lia) (by lia)
 ·rcases Int.lt_or_le Y X with z | z
  ·refine .inl (.inl ?_)
   have:mx X Y<=X:=kG (Int.le_refl _) (by lia)
   show mx X Y<x.a
   lia
  ·refine .inr (.inr ?_)
   rw [nS,nS,nS,nS];refine ⟨ia ?_ (by lia) (by lia),ia ?_ (by lia) (by lia),ia ?_ (by lia) (by lia),ia ?_ (by lia) (by lia)⟩ <;> exact Ds (by lia) (by lia)
theorem vx {X Y bd T:Int} {x:Bx} (ht:bd<T) (hd:T<=x.b) (hb:x.b<=x.d) (hac:x.a<=x.c) (h:x.c<Y\/Y<x.a):Clr (X,bd) (Y,T) x:=by
 have m1:=xV (x:=X) (y:=Y);have m2:=Av (x:=X) (y:=Y);rcases h with h | h
 ·rcases Int.lt_or_le Y X with z | z
  ·refine .inl (.inr (.inl ?_))
   have:Y<=mn X Y:=ku (by lia) (Int.le_refl _)
   show x.c<mn X Y
   lia
  ·refine .inr (.inl ?_)
   rw [nG,nG,nG,nG];refine ⟨ic ?_ (by lia) (by lia),ic ?_ (by lia) (by lia),ic ?_ (by lia) (by lia),ic ?_ (by lia) (by lia)⟩ <;> exact Int.mul_nonneg (by lia) (by lia)
 ·rcases Int.lt_or_le X Y with z | z
  ·refine .inl (.inl ?_)
   have:mx X Y<=Y:=kG (by lia) (Int.le_refl _)
   show mx X Y<x.a
   lia
  ·refine .inr (.inr ?_)
   rw [nG,nG,nG,nG];refine ⟨ia ?_ (by lia) (by lia),ia ?_ (by lia) (by lia),ia ?_ (by lia) (by lia),ia ?_ (by lia) (by lia)⟩ <;> exact Int.mul_nonpos_of_nonpos_of_nonneg (by lia) (by lia)
theorem Sh.bx_le (s:Sh ts c gap b) {x:Nat} (hx:x<ts.length):(bxs ts gap b x).a<(bxs ts gap b x).c/\(bxs ts gap b x).b<(bxs ts gap b x).d:=by
 have r:=s.rch hx;have t:=s.tall hx;constructor
 ·show PX ts gap x-256 * plA (aV ts) x<PX ts gap x+256 * (plA (aV ts) x+1)
  lia
 ·show 256 * tpN ts b (lvA ts x)<256 * tpN ts b (lvA ts x)+256 * (cR ts x).t
  lia
theorem Sh.second (s:Sh ts c gap b) {k x:Nat} (hk:k<ts.length) (h0:0<k) (hx:x<ts.length) (ne:x≠k) (ne2:x≠elN ts k\/wy0 ts gap b k≠wy1 ts gap b k):Clr (wy1 ts gap b k) (wy2 ts gap b k) (bxs ts gap b x):=by
 have L:=s.ln hk h0;have b1:=s.b1;have e0:elN ts k<ts.length:=by have:=L.lt;lia
 have te:=s.tall e0;have ed:(bxs ts gap b (elN ts k)).d=256 * tpN ts b (lvA ts (elN ts k))+256 * (cR ts (elN ts k)).t:=rfl;have bl:=s.bx_le (gap:=gap) hx;have ht:256 * tpN ts b (lvA ts k)-256 * b<256 * tpN ts b (lvA ts k):=by lia
 have w2:wy2 ts gap b k=(PX ts gap k+128,256 * tpN ts b (lvA ts k)):=rfl;rw [L.w1,w2];have fb:256 * tpN ts b (lvA ts k)-256 * b<=mn (256 * tpN ts b (lvA ts k)-256 * b) (256 * tpN ts b (lvA ts k)):=ku (Int.le_refl _) (by lia)
 have fd:mx (256 * tpN ts b (lvA ts k)-256 * b) (256 * tpN ts b (lvA ts k))<=256 * tpN ts b (lvA ts k):=kG (by lia) (Int.le_refl _)
 rcases Nat.lt_trichotomy (lvA ts x) (lvA ts (elN ts k)) with h | h | h
 ·have:=s.lev (gap:=gap) hx h
  refine .inl (.inr (.inr (.inr ?_)));show (bxs ts gap b x).d<mn (256 * tpN ts b (lvA ts k)-256 * b) (256 * tpN ts b (lvA ts k))
  have:=L.bend
  lia
 ·have hd:=s.lev (gap:=gap) (x:=x) (y:=k) hx (by rw [L.lv];lia)
  by_cases xe:x=elN ts k
  ·have ne3:=ne2.resolve_left (λz=>z xe)
   have:(bxs ts gap b (elN ts k)).d≠256 * tpN ts b (lvA ts k)-256 * b:=λz=>ne3 (by rw [L.w0,L.w1,z])
   have bd:=L.bend;refine .inl (.inr (.inr (.inr ?_)));show (bxs ts gap b x).d<mn (256 * tpN ts b (lvA ts k)-256 * b) (256 * tpN ts b (lvA ts k))
   rw [xe]
   lia
  ·refine DB ht (by lia) (by lia) (by lia) ?_
   rcases s.side hx e0 h xe with ⟨_,z⟩ | ⟨_,z⟩
   ·exact .inl z
   ·exact .inr z
 ·rcases Nat.lt_or_ge (lvA ts k) (lvA ts x) with z | z
  ·have:=s.lev (gap:=gap) hk z
   have t:=s.tall hk;have kd:(bxs ts gap b k).d=256 * tpN ts b (lvA ts k)+256 * (cR ts k).t:=rfl;refine .inl (.inr (.inr (.inl ?_)));show mx (256 * tpN ts b (lvA ts k)-256 * b) (256 * tpN ts b (lvA ts k))<256 * tpN ts b (lvA ts x)
   lia
  ·have hl:lvA ts x=lvA ts k:=by rw [L.lv]at z ⊢;lia
   have hb:(bxs ts gap b x).b=256 * tpN ts b (lvA ts k):=by
    show 256 * tpN ts b (lvA ts x)=_
    rw [hl]
   refine vx ht (by lia) (by lia) (by lia) ?_
   rcases s.side hx hk hl ne with ⟨_,z⟩ | ⟨_,z⟩
   ·exact .inl z
   ·exact .inr z
end
noncomputable def wy (ts:List Nd) (gap b:Int) (k i:Nat):Int×Int:=if i=0 then wy0 ts gap b k else if i=1 then wy1 ts gap b k else wy2 ts gap b k
section
variable {ts:List Nd} {c:F} {gap b:Int}
theorem uN (k:Nat):wy ts gap b k 0=wy0 ts gap b k:=rfl
theorem nQ (k:Nat):wy ts gap b k 1=wy1 ts gap b k:=rfl
theorem vc (k:Nat):wy ts gap b k 2=wy2 ts gap b k:=rfl
theorem Sh.same (s:Sh ts c gap b) {k m:Nat} (hk:k<ts.length) (hm:m<ts.length) (k0:0<k) (m0:0<m) (ne:k≠m) (e:elN ts k=elN ts m) :
  wy0 ts gap b k=wy0 ts gap b m/\wy1 ts gap b k=wy1 ts gap b m/\cr (wy1 ts gap b k) (wy2 ts gap b k) (wy2 ts gap b m)≠0:=by
 have L:=s.ln hk k0;have M:=s.ln hm m0;have b1:=s.b1;have hl:lvA ts k=lvA ts m:=by rw [L.lv,M.lv,e]
 have w2:wy2 ts gap b k=(PX ts gap k+128,256 * tpN ts b (lvA ts k)):=rfl;have v2:wy2 ts gap b m=(PX ts gap m+128,256 * tpN ts b (lvA ts m)):=rfl;refine ⟨by rw [L.w0,M.w0,e],by rw [L.w1,M.w1,e,hl],?_⟩
 rw [L.w1,w2,v2,<-hl,nG];have z:256 * tpN ts b (lvA ts k)-256 * tpN ts b (lvA ts k)=0:=by lia
 rw [z,Int.mul_zero];have d1:256 * tpN ts b (lvA ts k)-(256 * tpN ts b (lvA ts k)-256 * b)≠0:=by lia
 have r1:=s.rch hk;have r2:=s.rch hm;have d2:PX ts gap m+128-(PX ts gap k+128)≠0:=by
  have g1:=s.g1;rcases Nat.lt_or_ge k m with q | q
  ·have:=s.gp hk hm q hl
   lia
  ·have:=s.gp hm hk (by lia) hl.symm
   lia
 have:=Int.mul_ne_zero d1 d2;rw [Int.zero_sub];exact λh=>this (Int.neg_eq_zero.mp h)
theorem Sh.rows (s:Sh ts c gap b) {k:Nat} (hk:k<ts.length) (k0:0<k) (i:Nat):(bxs ts gap b (elN ts k)).d<=(wy ts gap b k i).2/\(wy ts gap b k i).2<=256 * tpN ts b (lvA ts k):=by
 have L:=s.ln hk k0;have bd:=L.bend;have b1:=s.b1;unfold wy;split
 ·rw [L.w0]
  dsimp only
  lia
 ·split
  ·rw [L.w1]
   dsimp only
   lia
  ·show _<=256 * tpN ts b (lvA ts k)/\256 * tpN ts b (lvA ts k)<=_
   lia
theorem Sh.off_lt (s:Sh ts c gap b) {k m:Nat} (hk:k<ts.length) (hm:m<ts.length) (k0:0<k) (m0:0<m) (hl:lvA ts k<lvA ts m) (i j:Nat):Off (wy ts gap b k i) (wy ts gap b k (i+1)) (wy ts gap b m j) (wy ts gap b m (j+1)):=by
 have M:=s.ln hm m0;have r1:=s.rows hk k0 i;have r2:=s.rows hk k0 (i+1);have r3:=s.rows hm m0 j;have r4:=s.rows hm m0 (j+1);have e0:elN ts m<ts.length:=by have:=M.lt;lia
 have te:=s.tall e0;have hq:=s.tpl (l:=lvA ts k) (m:=lvA ts (elN ts m)) (by have:=M.lv;lia)
 have ed:(bxs ts gap b (elN ts m)).d=256 * tpN ts b (lvA ts (elN ts m))+256 * (cR ts (elN ts m)).t:=rfl;refine .inl (.inr (.inr (.inl ?_)));have a:=kG r1.2 r2.2;have d:=ku r3.1 r4.1;show mx (wy ts gap b k i).2 (wy ts gap b k (i+1)).2<mn (wy ts gap b m j).2 (wy ts gap b m (j+1)).2
 lia
theorem Sh.off_eq (s:Sh ts c gap b) {k m:Nat} (hk:k<ts.length) (hm:m<ts.length) (k0:0<k) (m0:0<m) (hl:lvA ts k=lvA ts m) (he:elN ts k<elN ts m) (i j:Nat) (hi:i<2) (hj:j<2):Off (wy ts gap b k i) (wy ts gap b k (i+1)) (wy ts gap b m j) (wy ts gap b m (j+1)):=by
 have L:=s.ln hk k0;have M:=s.ln hm m0;have b1:=s.b1;have e0:elN ts m<ts.length:=by have:=M.lt;lia
 have le:lvA ts (elN ts k)=lvA ts (elN ts m):=by have:=L.lv;have:=M.lv;lia
 obtain ⟨q1,q2,q3⟩:=s.mid he e0 le L.mem M.mem;have q4:=s.gp (by lia) e0 he le
 have ra:=s.rch (k:=elN ts k) (by lia)
 have rb:=s.rch e0;have g1:=s.g1;have w2:wy2 ts gap b k=(PX ts gap k+128,256 * tpN ts b (lvA ts k)):=rfl;have v2:wy2 ts gap b m=(PX ts gap m+128,256 * tpN ts b (lvA ts m)):=rfl;have hx:PX ts gap (elN ts k)+128<PX ts gap (elN ts m)+128:=by lia
 match i,hi,j,hj with
 |0,_,0,_ =>
  rw [uN,nQ,uN,nQ,L.w0,L.w1,M.w0,M.w1];refine .inl (.inl ?_);have a:=kG (x:=PX ts gap (elN ts k)+128) (y:=PX ts gap (elN ts k)+128) (Int.le_refl _) (Int.le_refl _);have d:=ku (x:=PX ts gap (elN ts m)+128) (y:=PX ts gap (elN ts m)+128) (Int.le_refl _) (Int.le_refl _);show mx (PX ts gap (elN ts k)+128) (PX ts gap (elN ts k)+128)<mn (PX ts gap (elN ts m)+128) (PX ts gap (elN ts m)+128)
  lia
 |0,_,1,_ =>
  rw [uN,nQ,nQ,vc,L.w0,L.w1,M.w1,v2];refine .inl (.inl ?_);have a:=kG (x:=PX ts gap (elN ts k)+128) (y:=PX ts gap (elN ts k)+128) (Int.le_refl _) (Int.le_refl _);have d:=ku (z:=PX ts gap (elN ts k)+129) (x:=PX ts gap (elN ts m)+128) (y:=PX ts gap m+128) (by lia) (by lia)
  show mx (PX ts gap (elN ts k)+128) (PX ts gap (elN ts k)+128)<mn (PX ts gap (elN ts m)+128) (PX ts gap m+128)
  lia
 |1,_,0,_ =>
  rw [nQ,vc,uN,nQ,L.w1,w2,M.w0,M.w1];refine .inl (.inl ?_);have a:=kG (z:=PX ts gap (elN ts m)+127) (x:=PX ts gap (elN ts k)+128) (y:=PX ts gap k+128) (by lia) (by lia)
  have d:=ku (x:=PX ts gap (elN ts m)+128) (y:=PX ts gap (elN ts m)+128) (Int.le_refl _) (Int.le_refl _);show mx (PX ts gap (elN ts k)+128) (PX ts gap k+128)<mn (PX ts gap (elN ts m)+128) (PX ts gap (elN ts m)+128)
  lia
 |1,_,1,_ =>
  rw [nQ,vc,nQ,vc,L.w1,w2,M.w1,v2,<-hl];refine .inr (.inl ?_);rw [nS,nG];have z1:256 * tpN ts b (lvA ts k)-256 * b-(256 * tpN ts b (lvA ts k)-256 * b)=0:=by lia
  have z2:256 * tpN ts b (lvA ts k)-256 * tpN ts b (lvA ts k)=0:=by lia
  rw [z1,z2,Int.mul_zero];have d1:0<256 * tpN ts b (lvA ts k)-(256 * tpN ts b (lvA ts k)-256 * b):=by lia
  have p1:=Int.mul_pos d1 (show 0<PX ts gap (elN ts m)+128-(PX ts gap (elN ts k)+128) by lia)
  have p2:=Int.mul_pos d1 (show 0<PX ts gap m+128-(PX ts gap k+128) by lia)
  exact Int.mul_pos_of_neg_of_neg (by lia) (by lia)
theorem Sh.off (s:Sh ts c gap b) {k m:Nat} (hk:k<ts.length) (hm:m<ts.length) (k0:0<k) (m0:0<m) (ne:elN ts k≠elN ts m) {i j:Nat} (hi:i<2) (hj:j<2):Off (wy ts gap b k i) (wy ts gap b k (i+1)) (wy ts gap b m j) (wy ts gap b m (j+1)):=by
 rcases Nat.lt_trichotomy (lvA ts k) (lvA ts m) with h | h | h
 ·exact s.off_lt hk hm k0 m0 h i j
 ·rcases Nat.lt_or_ge (elN ts k) (elN ts m) with z | z
  ·exact s.off_eq hk hm k0 m0 h z i j hi hj
  ·exact (s.off_eq hm hk m0 k0 h.symm (by lia) j i hj hi).symm
 ·exact (s.off_lt hm hk m0 k0 h j i).symm
theorem Sh.far (s:Sh ts c gap b) {k:Nat} (hk:k<ts.length):-100000000000000<=PX ts gap k/\PX ts gap k<=100000000000000:=by
 have he:=cW s.p;have h0:=F.Pf.pos s.p;have g1:=s.g1;have f:∀{x:Nat},x<ts.length->-25894011617280<=pos ts gap x/\pos ts gap x<=25894011617280:=by
  intro x hx;have:=BA s.p gap (by lia) s.g2 s.n9 (λq hq=>(s.rch hq).2) 8 (lvN ts x) 0 x (by rw [p_ he h0]) h0 s.dp (pT he h0 hx)
  rw [v_,show Mf 8=25894011617280 from rfl]at this
  lia
 have hm:=(ow (xs:=(List.range ts.length).map λk=>pos ts gap k-256 * gv (aV ts) k) (λz=>by
  have:=congrArg List.length z;rw [List.length_map,List.length_range]at this;have:ts.length=0:=this
  lia)).1
 obtain ⟨q,hq,e⟩:=List.mem_map.mp hm;have hq:=List.mem_range.mp hq;have e2:pos ts gap q-256 * gv (aV ts) q=kT ts gap:=e;have r:=s.rch hq;have r2:0<=gv (aV ts) q/\gv (aV ts) q<=4:=r;have f1:=f hk;have f2:=f hq;rw [s.px hk]
 lia
theorem Sh.lv8 (s:Sh ts c gap b) {k:Nat} (hk:k<ts.length):lvA ts k<=8:=s.dp k hk
theorem Sh.bdb (s:Sh ts c gap b) {k:Nat} (hk:k<ts.length):BdB (bxs ts gap b k):=by
 have f:=s.far hk;have r:=s.rch hk;have t:=s.tall hk;have l:=s.lv8 hk;have tp:=s.tp0 (lvA ts k);unfold BdB Bd;show ((_<PX ts gap k-256 * plA (aV ts) k/\PX ts gap k-256 * plA (aV ts) k<_)/\_<256 * tpN ts b (lvA ts k)/\256 * tpN ts b (lvA ts k)<_)/\(_<PX ts gap k+256 * (plA (aV ts) k+1)/\PX ts gap k+256 * (plA (aV ts) k+1)<_)/\_<256 * tpN ts b (lvA ts k)+256 * (cR ts k).t/\256 * tpN ts b (lvA ts k)+256 * (cR ts k).t<_
 lia
theorem Sh.bdw (s:Sh ts c gap b) {k:Nat} (hk:k<ts.length) (k0:0<k) (i:Nat):Bd (wy ts gap b k i):=by
 have L:=s.ln hk k0;have e0:elN ts k<ts.length:=by have:=L.lt;lia
 have f:=s.far hk;have f2:=s.far e0;have l:=s.lv8 hk;have tp:=s.tp0 (lvA ts k);have b1:=s.b1;have b2:=s.b2;have bb:=(s.bdb e0).2.2;have bb1:-4611686018427387904<(bxs ts gap b (elN ts k)).d:=bb.1;have bb2:(bxs ts gap b (elN ts k)).d<4611686018427387904:=bb.2;unfold wy;split
 ·rw [L.w0]
  unfold Bd
  dsimp only
  lia
 ·split
  ·rw [L.w1]
   unfold Bd
   dsimp only
   lia
  ·unfold Bd
   show (_<PX ts gap k+128/\PX ts gap k+128<_)/\_<256 * tpN ts b (lvA ts k)/\256 * tpN ts b (lvA ts k)<_
   lia
end
noncomputable def iK (p q s:Int×Int):PyData:=.tuple [pt p,pt q,pt s]
theorem j_ {n k:Nat} {f:Nat->PyData} (h:k<n):atI ((List.range n).map f) (k:Int)=some (f k):=dn (by rw [List.getElem?_map,List.getElem?_range h];rfl)
theorem tj {α:Type} (xs:List α) (f:α->OD):(xs.filter λ_=>true).map f=xs.map f:=by rw [List.filter_eq_self.mpr λ_ _=>rfl]
theorem m8 (xs:List Int) (hl:xs.length<=100):bW [.tuple (xs.map PyData.int),.int (xs.length:Int)]=.ok (.sh (.bool true)):=by
 unfold bW e7;push_cast only [and_self];generalize hC:bV _ _ _ _ _ _=rc
 have e2:=mr hC PyData.int (λ_=>true) (λz=>.sh (.int z)) xs rfl (of_eq_true (bM (by lia))) (by
  intro z _;refine ⟨?_,λ_=>?_⟩
  ·push_cast only [uJ]
  ·push_cast only [and_self])
 subst e2;rw [tj];push_cast only [and_self]
theorem Dz (p:Int×Int):bW [pt p,.int 2]=.ok (.sh (.bool true)):=m8 [p.1,p.2] (by show (2:Nat)<=100;decide)
theorem Br (x:Bx):bW [bxD x,.int 4]=.ok (.sh (.bool true)):=m8 [x.a,x.b,x.c,x.d] (by show (4:Nat)<=100;decide)
theorem tQ (ts:List Nd) (n:Nat) (f:Nat->Bx) (w0 w1 w2:Nat->Int×Int) (hn:ts.length=n) (h0:0<n) (hl:n<=100) :
  eH [.list (aO ts),.list ((List.range n).map λk=>bxD (f k)),.list ((List.range (n-1)).map λi=>iK (w0 i) (w1 i) (w2 i))]=.ok (.sh (.bool true)):=by
 have tl:(aO ts).length=n:=by rw [b7,hn]
 have e1:((n-1:Nat):Int)=(n:Int)-1:=by lia
 unfold eH gI;push_cast only [tl,List.length_range,e1];generalize hL:br _ _ _ _=r
 refine cD hL (λi ρ=>∃v,ρ=[some (.sh (.list (aO ts))),some (.sh (.list ((List.range n).map λk=>bxD (f k)))),some (.sh (.list ((List.range (n-1)).map λi=>iK (w0 i) (w1 i) (w2 i)))),v,none]) ⟨_,rfl⟩ ?_ ?_
 ·rintro i d ρ hd ⟨v,rfl⟩
  rw [List.getElem?_map]at hd;obtain ⟨k,_,rfl⟩:=Option.map_eq_some_iff.mp hd;have h:=Br (f k);push_cast only [h];exact ⟨_,rfl⟩
 ·rintro ρ' rfl ⟨v,rfl⟩
  clear hL;push_cast only [and_self];generalize hL:br _ _ _ _=r
  refine cD hL (λi ρ=>∃u,ρ=[some (.sh (.list (aO ts))),some (.sh (.list ((List.range n).map λk=>bxD (f k)))),some (.sh (.list ((List.range (n-1)).map λi=>iK (w0 i) (w1 i) (w2 i)))),v,u]) ⟨_,rfl⟩ ?_ ?_
  ·rintro i d ρ hd ⟨u,rfl⟩
   rw [List.getElem?_map]at hd;obtain ⟨k,_,rfl⟩:=Option.map_eq_some_iff.mp hd;unfold iK;push_cast only [and_self];generalize hC:bV _ _ _ _ _ _=rc
   have e2:=mr hC pt (λ_=>true) (λz=>.sh (pt z)) [w0 k,w1 k,w2 k] rfl (of_eq_true (bM (by show 3<=1000;decide))) (by
    intro z _;have h:=Dz z;refine ⟨?_,λ_=>?_⟩
    ·push_cast only [h]
    ·push_cast only [and_self])
   subst e2;rw [tj];push_cast only [and_self];exact ⟨_,rfl⟩
  ·rintro ρ' rfl ⟨u,rfl⟩
   push_cast only [and_self]
theorem xK (n:Nat) (f:Nat->Bx) (hl:n<=100) (h:∀x y,x<y->y<n->Ap (f x) (f y)):cC [.list ((List.range n).map λk=>bxD (f k))]=.ok (.sh (.bool true)):=by
 have s1:aI (n:Int)=true:=g9 (by lia) (by lia)
 unfold cC dm;push_cast only [List.length_range,s1];generalize hL:br _ _ _ _=r
 refine cD hL (λi ρ=>∃u v,ρ=[some (.sh (.list ((List.range n).map λk=>bxD (f k)))),u,v]) ⟨_,_,rfl⟩ ?_ ?_
 ·rintro i d ρ hd ⟨u,v,rfl⟩
  obtain ⟨hi,rfl⟩:=dv hd;rw [Int.toNat_natCast]at hi;have s2:aI (i:Int)=true:=g9 (by lia) (by lia)
  push_cast only [Int.zero_add,s2];clear hL;generalize hL:br _ _ _ _=r
  refine cD hL (λj ρ=>∃v,ρ=[some (.sh (.list ((List.range n).map λk=>bxD (f k)))),some (.sh (.int (i:Int))),v]) ⟨_,rfl⟩ ?_ ?_
  ·rintro j d ρ hd ⟨v,rfl⟩
   obtain ⟨hj,rfl⟩:=dv hd;rw [Int.toNat_natCast]at hj;have a1:=j_ (f:=λk=>bxD (f k)) hi
   have a2:=j_ (f:=λk=>bxD (f k)) (show j<n by lia)
   have ap:=mC (f i) (f j);rw [decide_eq_true (h j i hj hi).symm]at ap;push_cast only [Int.zero_add,a1,a2,ap];exact ⟨_,rfl⟩
  ·rintro ρ' rfl ⟨v,rfl⟩
   push_cast only [and_self];exact ⟨_,_,rfl⟩
 ·rintro ρ' rfl ⟨u,v,rfl⟩
  push_cast only [and_self]
theorem pR (p:Int×Int):lay 1 (pt p):=oQ λx hx=>by
 rcases List.mem_cons.mp hx with rfl | hx
 ·exact o4 _
 ·rcases List.mem_cons.mp hx with rfl | hx
  ·exact o4 _
  ·exact absurd hx (by simp)
theorem Di (p q:Int×Int):PyData.eqv (pt p) (pt q)=decide (p=q):=by
 unfold pt;rw [PyData.eqv,PyData.eqvAll,PyData.eqvAll,PyData.eqvAll,PyData.eqv,PyData.eqv,Bool.and_true];have:p=q ↔ p.1=q.1/\p.2=q.2:=⟨λh=>by rw [h];exact ⟨rfl,rfl⟩,λh=>Prod.ext h.1 h.2⟩
 have e:decide (p=q)=(decide (p.1=q.1) && decide (p.2=q.2)):=by
  rw [<-Bool.decide_and];exact decide_eq_decide.mpr this
 rw [e];by_cases h1:p.1=q.1 <;> by_cases h2:p.2=q.2 <;> simp [h1,h2]
theorem FK (p q:Int×Int):gNe (pt p) (pt q)=.ok (.sh (.bool (!decide (p=q)))):=by
 have h1:=fH (pR p) (by decide)
 have h2:=fH (pR q) (by decide)
 have h3:=Di p q;unfold pt at h1 h2 h3 ⊢;unfold gNe;rw [oR];unfold jr;rw [h1,h2,Bool.and_self,if_pos rfl,h3];rfl
section
variable {ts:List Nd} {c:F} {gap b:Int}
theorem rY (s:Sh ts c gap b) {k:Nat} (hk:k<ts.length) (h0:0<k):atI (aO ts) (k:Int)=some (.tuple [.int ((elN ts k:Nat):Int),.str (cR ts k).l,.int (cR ts k).t]):=by
 rw [o9 hk];unfold ndD;rw [(xU (cW s.p) hk h0).1]
theorem Sh.line (s:Sh ts c gap b) (κ:Nat) {k:Nat} (hk:k<ts.length) (h0:0<k) :
  cL [.list (aO ts),.list ((List.range ts.length).map λx=>bxD (bG κ (bxs ts gap b x))),iK (gT κ (wy ts gap b k 0)) (gT κ (wy ts gap b k 1)) (gT κ (wy ts gap b k 2)),.int (k:Int)]=.ok (.sh (.bool true)):=by
 have L:=s.ln hk h0;have n9:=s.n9;have e0:elN ts k<ts.length:=by have:=L.lt;lia
 have a1:=rY s hk h0;have a2:=j_ (f:=λx=>bxD (bG κ (bxs ts gap b x))) e0
 have a3:=j_ (f:=λx=>bxD (bG κ (bxs ts gap b x))) hk
 have o1:=Hi κ (s.on0 hk h0);have o2:=Hi κ (s.on2 hk);have tl:=b7 ts;have s1:aI (ts.length:Int)=true:=g9 (by lia) (by lia)
 have d0:=xA κ (s.bdw hk h0 0);have d1:=xA κ (s.bdw hk h0 1);have d2:=xA κ (s.bdw hk h0 2);rw [uN]at d0;rw [nQ]at d1;rw [vc]at d2;have nn:=FK (gT κ (wy0 ts gap b k)) (gT κ (wy1 ts gap b k));unfold cL dI iK;rw [uN,nQ,vc];push_cast only [a1,a2,a3,o1,o2,tl,s1];generalize hL:br _ _ _ _=r
 refine cD hL (λi ρ=>∃v,ρ=[some (.sh (.list (aO ts))),some (.sh (.list ((List.range ts.length).map λx=>bxD (bG κ (bxs ts gap b x))))),some (.sh (.tuple [pt (gT κ (wy0 ts gap b k)),pt (gT κ (wy1 ts gap b k)),pt (gT κ (wy2 ts gap b k))])),some (.sh (.int (k:Int))),some (.sh (.int ((elN ts k:Nat):Int))),v]) ⟨_,rfl⟩ ?_ ?_
 ·rintro x d ρ hd ⟨v,rfl⟩
  obtain ⟨hx,rfl⟩:=dv hd;rw [Int.toNat_natCast]at hx;have a4:=j_ (f:=λx=>bxD (bG κ (bxs ts gap b x))) hx
  by_cases xe:x=elN ts k
  ·have e1:((x:Int)=((elN ts k:Nat):Int)):=by lia
   have e2:¬((x:Int)=(k:Int)):=by have:=L.lt;lia
   by_cases w:gT κ (wy0 ts gap b k)=gT κ (wy1 ts gap b k)
   ·rw [decide_eq_true w]at nn
    push_cast only [Int.zero_add,a4,decide_eq_true e1,decide_eq_false e2,nn];exact ⟨_,rfl⟩
   ·rw [decide_eq_false w]at nn
    have m2:=vn d1 d2 (w6 κ (s.second hk h0 hx (by have:=L.lt;lia) (.inr λz=>w (by rw [z]))))
    push_cast only [Int.zero_add,a4,decide_eq_true e1,decide_eq_false e2,nn,m2];exact ⟨_,rfl⟩
  ·have e1:¬((x:Int)=((elN ts k:Nat):Int)):=by lia
   have m1:=vn d0 d1 (w6 κ (s.first hk h0 hx xe))
   by_cases xk:x=k
   ·have e2:((x:Int)=(k:Int)):=by lia
    push_cast only [Int.zero_add,a4,decide_eq_false e1,decide_eq_true e2,m1];exact ⟨_,rfl⟩
   ·have e2:¬((x:Int)=(k:Int)):=by lia
    have m2:=vn d1 d2 (w6 κ (s.second hk h0 hx xk (.inl xe)));push_cast only [Int.zero_add,a4,decide_eq_false e1,decide_eq_false e2,m1,m2];exact ⟨_,rfl⟩
 ·rintro ρ' rfl ⟨v,rfl⟩
  push_cast only [and_self]
theorem sl2 (a b d:PyData):ya (.tuple [a,b,d]) none (some 2)=.ok (.sh (.tuple [a,b])):=rfl
theorem vA (p q:Int×Int):gEq (.tuple [pt p,pt q]) (.tuple [pt p,pt q])=.ok (.sh (.bool true)):=by
 have h:lay 2 (.tuple [pt p,pt q]):=oQ λx hx=>by
  rcases List.mem_cons.mp hx with rfl | hx
  ·exact pR _
  ·rcases List.mem_cons.mp hx with rfl | hx
   ·exact pR _
   ·exact absurd hx (by simp)
 unfold gEq;rw [oR,oE h (by decide)]
 rfl
theorem Sh.two (s:Sh ts c gap b) (κ:Nat) {k m:Nat} (hk:k<ts.length) (hm:m<ts.length) (k0:0<k) (m0:0<m) (ne:m≠k) :
  cX [.list (aO ts),.list ((List.range (ts.length-1)).map λi=>iK (gT κ (wy ts gap b (i+1) 0)) (gT κ (wy ts gap b (i+1) 1)) (gT κ (wy ts gap b (i+1) 2))),.int (m:Int),.int (k:Int)]=.ok (.sh (.bool true)):=by
 have n9:=s.n9;have a1:=rY s hk k0;have a2:=rY s hm m0;have ix:∀{q:Nat},q<ts.length->0<q->atI ((List.range (ts.length-1)).map λi=>iK (gT κ (wy ts gap b (i+1) 0)) (gT κ (wy ts gap b (i+1) 1)) (gT κ (wy ts gap b (i+1) 2))) ((q:Int)-1)=some (.tuple [pt (gT κ (wy ts gap b q 0)),pt (gT κ (wy ts gap b q 1)),pt (gT κ (wy ts gap b q 2))]):=by
  intro q hq q0;have h:=j_ (n:=ts.length-1) (k:=q-1) (f:=λi=>iK (gT κ (wy ts gap b (i+1) 0)) (gT κ (wy ts gap b (i+1) 1)) (gT κ (wy ts gap b (i+1) 2))) (by lia)
  rw [show ((q-1:Nat):Int)=(q:Int)-1 by lia]at h
  rw [h];show some (iK (gT κ (wy ts gap b (q-1+1) 0)) (gT κ (wy ts gap b (q-1+1) 1)) (gT κ (wy ts gap b (q-1+1) 2)))=_
  rw [show q-1+1=q by lia]
  rfl
 have a3:=ix hm m0;have a4:=ix hk k0;have bk:=λi=>xA κ (s.bdw hk k0 i)
 have bm:=λi=>xA κ (s.bdw hm m0 i)
 unfold cX d_;by_cases e:elN ts m=elN ts k
 ·obtain ⟨h1,h2,h3⟩:=s.same hm hk m0 k0 ne e
  have ei:(((elN ts m:Nat):Int)=((elN ts k:Nat):Int)):=by lia
  have cx:=fE (s:=gT κ (wy ts gap b k 2)) (bm 1) (bm 2);obtain ⟨u,hu,hc⟩:=DK κ;have cn:¬cr (gT κ (wy ts gap b m 1)) (gT κ (wy ts gap b m 2)) (gT κ (wy ts gap b k 2))=0:=by
   rw [hc];have h3:cr (wy ts gap b m 1) (wy ts gap b m 2) (wy ts gap b k 2)≠0:=h3;rcases hu with rfl | rfl <;> lia
  have w0:wy ts gap b k 0=wy ts gap b m 0:=h1.symm;have w1:wy ts gap b k 1=wy ts gap b m 1:=h2.symm;rw [w0,w1]at a4;have t:=vA (gT κ (wy ts gap b m 0)) (gT κ (wy ts gap b m 1));push_cast only [a1,a2,a3,a4,decide_eq_true ei,sl2,t,cx,decide_eq_false cn]
 ·have ei:¬(((elN ts m:Nat):Int)=((elN ts k:Nat):Int)):=by lia
  have mt:∀i j,i<2->j<2->c6 [pt (gT κ (wy ts gap b m i)),pt (gT κ (wy ts gap b m (i+1))),pt (gT κ (wy ts gap b k j)),pt (gT κ (wy ts gap b k (j+1)))]=.ok (.sh (.bool false)):=λi j hi hj =>
   yA (bm i) (bm (i+1)) (bk j) (bk (j+1)) (GC κ (s.off hm hk m0 k0 e hi hj))
  have m00:=mt 0 0 (by decide) (by decide)
  have m01:=mt 0 1 (by decide) (by decide)
  have m10:=mt 1 0 (by decide) (by decide)
  have m11:=mt 1 1 (by decide) (by decide)
  have s2:aI 2=true:=by decide
  have rg:jf 0 2=[.int 0,.int 1]:=rfl;push_cast only [a1,a2,a3,a4,decide_eq_false ei,s2,Int.reduceToNat,rg,rL,xb,BF,m00,m01,m10,m11]
end
theorem vE {n:Nat} {f:Nat->PyData}:((List.range n).map λk=>OD.sh (f k)).map OD.er=(List.range n).map f:=by
 rw [List.map_map];exact List.map_congr_left λ_ _=>eM _
theorem xw (ns:List Int) (hn:ns.length<=63):mD [.list (ns.map PyData.int)]=.ok (.sh (.bool true)):=by
 unfold mD pW;obtain ⟨ds,hds,hdb,hdr⟩:=wX ns hn 13 (by decide)
 have hdr:d5 [.list (ns.map PyData.int),.int 13]=.ok (.ol (bU ds)):=hdr;have g0:atI (ds.map PyData.int) (0:Int)=some (.int (gv ds 0)):=iU (st:=ds) (j:=0) (by lia)
 have g1:atI (ds.map PyData.int) (1:Int)=some (.int (gv ds 1)):=iU (st:=ds) (j:=1) (by lia)
 have g2:atI (ds.map PyData.int) (2:Int)=some (.int (gv ds 2)):=iU (st:=ds) (j:=2) (by lia)
 have g12:atI (ds.map PyData.int) (12:Int)=some (.int (gv ds 12)):=iU (st:=ds) (j:=12) (by lia)
 have m9:=eD (gv ds 0) (show (0:Int)<9 by decide)
 have m20:=eD (gv ds 1) (show (0:Int)<20 by decide)
 have n20:=eD (gv ds 2) (show (0:Int)<20 by decide)
 have z12:=(hdb (gv ds 12) (List.mem_of_getElem? (lH (ls:=ds) (k:=12) (by lia)))).1
 obtain ⟨many,hm⟩:∃many:Nat,1+gv ds 0 % 9=(many:Int):=⟨(1+gv ds 0 % 9).toNat,by lia⟩
 obtain ⟨gap,hgap⟩:∃gap,gap=1+gv ds 1 % 20:=⟨_,rfl⟩;obtain ⟨b,hb⟩:∃b,b=1+gv ds 2 % 20:=⟨_,rfl⟩;obtain ⟨ts,way,gr,tl,ht⟩:=u5 ds 3 many 9 8 (by lia) (by lia) (by lia) (by decide) (by decide) (by decide) (by decide)
 have ht:dC [.list (ds.map PyData.int),.int 3,.int (many:Int),.int 9,.int 8]=.ok (.ol ((aO ts).map OD.sh)):=ht;obtain ⟨c,p,_⟩:=wR gr;have s:Sh ts c gap b:=⟨p,by lia,gr.ok,(wD gr).2,by lia,by lia,by lia,by lia⟩
 have he:=cW p;have h0:=F.Pf.pos p;have hlab:∀n∈ts,n.l.length<=1000:=λn hn=>by
  have:=(gr.ok n hn).1.2.1
  lia
 have n9:=s.n9;obtain ⟨o,f,κ,l1,l2,l3,l4⟩:=Dg z12;have bo:fV [.list (aO ts),.int gap,.int b]=.ok (.ol (((List.range ts.length).map λk=>bxD (bxs ts gap b k)).map OD.sh)):=qP ts gap b he h0 hlab (by lia)
 have li:iz [.list (aO ts),.int gap,.int b]=.ok (.ol (((List.range (ts.length-1)).map λi=>iK (wy ts gap b (i+1) 0) (wy ts gap b (i+1) 1) (wy ts gap b (i+1) 2)).map OD.sh)):=xC ts gap b he h0 hlab (by lia)
 have t1:=tQ ts ts.length (λk=>bxs ts gap b k) (λi=>wy ts gap b (i+1) 0) (λi=>wy ts gap b (i+1) 1) (λi=>wy ts gap b (i+1) 2) rfl h0 (by lia)
 have t2:=tQ ts ts.length (λk=>bG κ (bxs ts gap b k)) (λi=>gT κ (wy ts gap b (i+1) 0)) (λi=>gT κ (wy ts gap b (i+1) 1)) (λi=>gT κ (wy ts gap b (i+1) 2)) rfl h0 (by lia)
 have cl:=xK ts.length (λk=>bG κ (bxs ts gap b k)) (by lia) λx y hxy hy=>BN κ (s.boxes (by lia) hy hxy)
 push_cast only [hdr,G4,bP,g0,g1,g2,g12,hm,ht,dk,<-hgap,<-hb,l1,bo,li,t1];generalize hC:bV _ _ _ _ _ _=rc
 have e:=et hC (λk:Nat=>bxD (bxs ts gap b k)) (λk=>.sh (bxD (bG κ (bxs ts gap b k)))) (List.range ts.length) rfl (by rw [List.length_range];exact of_eq_true (bM (by lia))) (by
  intro k hk;have hk:=List.mem_range.mp hk;have bl:=s.bx_le (gap:=gap) hk;have h:=Be l2 l4 (x:=bxs ts gap b k) (by lia) (by lia)
  push_cast only [su,l3,h])
 subst e;clear hC;push_cast only [vE];generalize hC:bV _ _ _ _ _ _=rc
 have e:=et hC (λi:Nat=>iK (wy ts gap b (i+1) 0) (wy ts gap b (i+1) 1) (wy ts gap b (i+1) 2)) (λi=>.sh (iK (gT κ (wy ts gap b (i+1) 0)) (gT κ (wy ts gap b (i+1) 1)) (gT κ (wy ts gap b (i+1) 2)))) (List.range (ts.length-1)) rfl (by rw [List.length_range];exact of_eq_true (bM (by lia))) (by
  intro k hk;have h1:=l4 (wy ts gap b (k+1) 0);have h2:=l4 (wy ts gap b (k+1) 1);have h3:=l4 (wy ts gap b (k+1) 2);unfold iK;push_cast only [su,l2,h1,h2,h3])
 subst e;clear hC;have s1:aI (1:Int)=true:=by decide
 have s2:aI (ts.length:Int)=true:=g9 (by lia) (by lia)
 push_cast only [vE,t2,cl,b7,s1,s2,Bool.and_self];generalize hL:br _ _ _ _=r
 refine cD hL (λi ρ=>∃u v,ρ=[some (.sh (.list (ns.map PyData.int))),some (.sh (.list (ds.map PyData.int))),some (.sh (.list (aO ts))),some (.sh (.int gap)),some (.sh (.int b)),some (.sh o),some (.sh (.list ((List.range ts.length).map λk=>bxD (bG κ (bxs ts gap b k))))),some (.sh (.list ((List.range (ts.length-1)).map λi=>iK (gT κ (wy ts gap b (i+1) 0)) (gT κ (wy ts gap b (i+1) 1)) (gT κ (wy ts gap b (i+1) 2))))),u,v]) ⟨_,_,rfl⟩ ?_ ?_
 ·rintro i d ρ hd ⟨u,v,rfl⟩
  obtain ⟨hi,rfl⟩:=dv hd;have hk:i+1<ts.length:=by lia
  have ei:(1:Int)+(i:Int)=((i+1:Nat):Int):=by lia
  have ix:atI ((List.range (ts.length-1)).map λi=>iK (gT κ (wy ts gap b (i+1) 0)) (gT κ (wy ts gap b (i+1) 1)) (gT κ (wy ts gap b (i+1) 2))) (((i+1:Nat):Int)-1)=some (iK (gT κ (wy ts gap b (i+1) 0)) (gT κ (wy ts gap b (i+1) 1)) (gT κ (wy ts gap b (i+1) 2))):=by
   rw [show ((i+1:Nat):Int)-1=(i:Int) by lia]
   exact j_ (f:=λi=>iK (gT κ (wy ts gap b (i+1) 0)) (gT κ (wy ts gap b (i+1) 1)) (gT κ (wy ts gap b (i+1) 2))) (by lia)
  have ln:=s.line κ hk (by lia)
  have s3:aI ((i+1:Nat):Int)=true:=g9 (by lia) (by lia)
  rw [ei];generalize hq:((i+1:Nat):Int)=q at ix ln s3
  push_cast only [ix,ln,s1,s3,Bool.and_self];clear hL;generalize hL:br _ _ _ _=r
  refine cD hL (λj ρ=>∃v,ρ=[some (.sh (.list (ns.map PyData.int))),some (.sh (.list (ds.map PyData.int))),some (.sh (.list (aO ts))),some (.sh (.int gap)),some (.sh (.int b)),some (.sh o),some (.sh (.list ((List.range ts.length).map λk=>bxD (bG κ (bxs ts gap b k))))),some (.sh (.list ((List.range (ts.length-1)).map λi=>iK (gT κ (wy ts gap b (i+1) 0)) (gT κ (wy ts gap b (i+1) 1)) (gT κ (wy ts gap b (i+1) 2))))),some (.sh (.int q)),v]) ⟨_,rfl⟩ ?_ ?_
  ·rintro j d ρ hd ⟨v,rfl⟩
   obtain ⟨hj,rfl⟩:=dv hd;have ej:(1:Int)+(j:Int)=((j+1:Nat):Int):=by lia
   have tw:=s.two κ hk (show j+1<ts.length by lia) (by lia) (by lia) (show j+1≠i+1 by lia)
   rw [hq]at tw;rw [ej];generalize ((j+1:Nat):Int)=q2 at tw
   push_cast only [tw];exact ⟨_,rfl⟩
  ·rintro ρ' rfl ⟨v,rfl⟩
   push_cast only [and_self];exact ⟨_,_,rfl⟩
 ·rintro ρ' rfl ⟨u,v,rfl⟩
  push_cast only [and_self]
theorem all_mk {l:PySem.W.OpenLaw} {w:World} {K:PySem.W.Frag} {h:Heap} {mg:Str->Option Value} {fa:Addr} (X:K.In h) (G:h.Ns mainGlobals mg) (hfa:mg "law" = some (.ref fa))
  {c_Standing c_Lying c_Turned A1 A2 A3 A4 A5 A6 f_Standing_spot f_Lying_spot f_Turned___init__ A7 A8 A9 A10 A11 A12 A13 A14 A15 A16 A17 A18 A19 A20 A21 A22 A23 A24 A25 f_Turned_spot A26 A27 A28 A29 A30 A31 A32 f_Standing_box A33 A34 A35 A36 A37 A38:Addr}
  {C1 D1 C2 D2 C3 D3 C4 D4 C5 D5 C6 D6 od_Standing_spot an_Standing_spot od_Lying_spot an_Lying_spot od_Turned___init__ an_Turned___init__ C7 D7 C8 D8 C9 D9 C10 D10 C11 D11 C12 D12 C13 D13 C14 D14 C15 D15 C16 D16 C17 D17 C18 D18 C19 D19 C20 D20 C21 D21 C22 D22 C23 D23 C24 D24 C25 D25 od_Turned_spot an_Turned_spot C26 D26 C27 D27 C28 D28 C29 D29 C30 D30 C31 D31 C32 D32 od_Standing_box an_Standing_box C33 D33 C34 D34 C35 D35 C36 D36 C37 D37 C38 D38:Option Addr}
  {E1 E2 E3 E4 E5 E6 sl_Standing_spot sl_Lying_spot sl_Turned___init__ E7 E8 E9 E10 E11 E12 E13 E14 E15 E16 E17 E18 E19 E20 E21 E22 E23 E24 E25 sl_Turned_spot E26 E27 E28 E29 E30 E31 E32 sl_Standing_box E33 E34 E35 E36 E37 E38:Array (Option Value)}
  {J1 K1 M1 N1 O1 P1 J2 K2 M2 N2 O2 P2 J3 K3 M3 N3 O3 P3 J4 K4 M4 N4 O4 P4 J5 K5 M5 N5 O5 P5 J6 K6 M6 N6 O6 P6 oc_Standing_spot kV_Standing_spot dc_Standing_spot pm_Standing_spot cd_Standing_spot ct_Standing_spot oc_Lying_spot kV_Lying_spot dc_Lying_spot pm_Lying_spot cd_Lying_spot ct_Lying_spot oc_Turned___init__ kV_Turned___init__ dc_Turned___init__ pm_Turned___init__ cd_Turned___init__ ct_Turned___init__ J7 K7 M7 N7 O7 P7 J8 K8 M8 N8 O8 P8 J9 K9 M9 N9 O9 P9 J10 K10 M10 N10 O10 P10 J11 K11 M11 N11 O11 P11 J12 K12 M12 N12 O12 P12 J13 K13 M13 N13 O13 P13 J14 K14 M14 N14 O14 P14 J15 K15 M15 N15 O15 P15 J16 K16 M16 N16 O16 P16 J17 K17 M17 N17 O17 P17 J18 K18 M18 N18 O18 P18 J19 K19 M19 N19 O19 P19 J20 K20 M20 N20 O20 P20 J21 K21 M21 N21 O21 P21 J22 K22 M22 N22 O22 P22 J23 K23 M23 N23 O23 P23 J24 K24 M24 N24 O24 P24 J25 K25 M25 N25 O25 P25 oc_Turned_spot kV_Turned_spot dc_Turned_spot pm_Turned_spot cd_Turned_spot ct_Turned_spot J26 K26 M26 N26 O26 P26 J27 K27 M27 N27 O27 P27 J28 K28 M28 N28 O28 P28 J29 K29 M29 N29 O29 P29 J30 K30 M30 N30 O30 P30 J31 K31 M31 N31 O31 P31 J32 K32 M32 N32 O32 P32 oc_Standing_box kV_Standing_box dc_Standing_box pm_Standing_box cd_Standing_box ct_Standing_box J33 K33 M33 N33 O33 P33 J34 K34 M34 N34 O34 P34 J35 K35 M35 N35 O35 P35 J36 K36 M36 N36 O36 P36 J37 K37 M37 N37 O37 P37 J38 K38 M38 N38 O38 P38:Value}
  {tk_QUARTERS:Tok}
  {tk_SHREDS:Tok}
  {b_25:Addr} {c_25:Value} {d_25:Option Addr} {e_25:Nat} {f_25:Array (Option Value)} {tk_tops:Tok}
  {b_35:Addr} {c_35:Value} {d_35:Option Addr} {e_35:Nat} {f_35:Array (Option Value)} {tk_boxes:Tok}
  {b_36:Addr} {c_36:Value} {d_36:Option Addr} {e_36:Nat} {f_36:Array (Option Value)} {tk_lines:Tok}
  (ca_Standing:PySem.W.nsIn K mainGlobals "Standing" = some (some (.ref c_Standing)))
  (ca_Lying:PySem.W.nsIn K mainGlobals "Lying" = some (some (.ref c_Lying)))
  (ca_Turned:PySem.W.nsIn K mainGlobals "Turned" = some (some (.ref c_Turned)))
  (Q1:PySem.W.nsIn K mainGlobals "check_node" = some (some (.ref A1)))
  (T1:K.lookup A1=some ⟨J1,C1,.func (PySem.W.fnOf "check_node" "check_node" (aH cY) (aB cY) (ag cY) .none K1 M1 N1 D1 O1 P1),E1⟩)
  (U1:PySem.W.codeIn K O1 "check_node" = true)
  (V1:PySem.W.keepIn K (.ref A1)=true)
  (Q2:PySem.W.nsIn K mainGlobals "node_levels" = some (some (.ref A2)))
  (T2:K.lookup A2=some ⟨J2,C2,.func (PySem.W.fnOf "node_levels" "node_levels" (aH bH) (aB bH) (ag bH) .none K2 M2 N2 D2 O2 P2),E2⟩)
  (U2:PySem.W.codeIn K O2 "node_levels" = true)
  (V2:PySem.W.keepIn K (.ref A2)=true)
  (Q3:PySem.W.nsIn K mainGlobals "reaches" = some (some (.ref A3)))
  (T3:K.lookup A3=some ⟨J3,C3,.func (PySem.W.fnOf "reaches" "reaches" (aH dA) (aB dA) (ag dA) .none K3 M3 N3 D3 O3 P3),E3⟩)
  (U3:PySem.W.codeIn K O3 "reaches" = true)
  (V3:PySem.W.keepIn K (.ref A3)=true)
  (Q4:PySem.W.nsIn K mainGlobals "nearest" = some (some (.ref A4)))
  (T4:K.lookup A4=some ⟨J4,C4,.func (PySem.W.fnOf "nearest" "nearest" (aH d6) (aB d6) (ag d6) .none K4 M4 N4 D4 O4 P4),E4⟩)
  (U4:PySem.W.codeIn K O4 "nearest" = true)
  (V4:PySem.W.keepIn K (.ref A4)=true)
  (Q5:PySem.W.nsIn K mainGlobals "joined_outline" = some (some (.ref A5)))
  (T5:K.lookup A5=some ⟨J5,C5,.func (PySem.W.fnOf "joined_outline" "joined_outline" (aH aS) (aB aS) (ag aS) .none K5 M5 N5 D5 O5 P5),E5⟩)
  (U5:PySem.W.codeIn K O5 "joined_outline" = true)
  (V5:PySem.W.keepIn K (.ref A5)=true)
  (Q6:PySem.W.nsIn K mainGlobals "flips" = some (some (.ref A6)))
  (T6:K.lookup A6=some ⟨J6,C6,.func (PySem.W.fnOf "flips" "flips" (aH h_) (aB h_) (ag h_) .none K6 M6 N6 D6 O6 P6),E6⟩)
  (U6:PySem.W.codeIn K O6 "flips" = true)
  (V6:PySem.W.keepIn K (.ref A6)=true)
  (a_Standing_spot:PySem.W.findIn K (.ref c_Standing) "spot" = some (some (.ref f_Standing_spot)))
  (i_Standing_spot:PySem.W.isFn K (.ref f_Standing_spot)=true)
  (l_Standing_spot:K.lookup f_Standing_spot=some ⟨oc_Standing_spot,od_Standing_spot,.func (PySem.W.fnOf "spot" "Standing.spot" (aH bw) (aB bw) (ag bw) .none kV_Standing_spot dc_Standing_spot pm_Standing_spot an_Standing_spot cd_Standing_spot ct_Standing_spot),sl_Standing_spot⟩)
  (c_Standing_spot:PySem.W.codeIn K cd_Standing_spot "Standing.spot" = true)
  (k_Standing_spot:PySem.W.keepIn K (.ref f_Standing_spot)=true)
  (a_Lying_spot:PySem.W.findIn K (.ref c_Lying) "spot" = some (some (.ref f_Lying_spot)))
  (i_Lying_spot:PySem.W.isFn K (.ref f_Lying_spot)=true)
  (l_Lying_spot:K.lookup f_Lying_spot=some ⟨oc_Lying_spot,od_Lying_spot,.func (PySem.W.fnOf "spot" "Lying.spot" (aH cE) (aB cE) (ag cE) .none kV_Lying_spot dc_Lying_spot pm_Lying_spot an_Lying_spot cd_Lying_spot ct_Lying_spot),sl_Lying_spot⟩)
  (c_Lying_spot:PySem.W.codeIn K cd_Lying_spot "Lying.spot" = true)
  (k_Lying_spot:PySem.W.keepIn K (.ref f_Lying_spot)=true)
  (a_Turned___init__:PySem.W.findIn K (.ref c_Turned) "__init__" = some (some (.ref f_Turned___init__)))
  (i_Turned___init__:PySem.W.isFn K (.ref f_Turned___init__)=true)
  (l_Turned___init__:K.lookup f_Turned___init__=some ⟨oc_Turned___init__,od_Turned___init__,.func (PySem.W.fnOf "__init__" "Turned.__init__" (aH bq) (aB bq) (ag bq) .none kV_Turned___init__ dc_Turned___init__ pm_Turned___init__ an_Turned___init__ cd_Turned___init__ ct_Turned___init__),sl_Turned___init__⟩)
  (c_Turned___init__:PySem.W.codeIn K cd_Turned___init__ "Turned.__init__" = true)
  (k_Turned___init__:PySem.W.keepIn K (.ref f_Turned___init__)=true)
  (Q7:PySem.W.nsIn K mainGlobals "_law_letters" = some (some (.ref A7)))
  (T7:K.lookup A7=some ⟨J7,C7,.func (PySem.W.fnOf "_law_letters" "_law_letters" (aH cz) (aB cz) (ag cz) .none K7 M7 N7 D7 O7 P7),E7⟩)
  (U7:PySem.W.codeIn K O7 "_law_letters" = true)
  (V7:PySem.W.keepIn K (.ref A7)=true)
  (Q8:PySem.W.nsIn K mainGlobals "_law_whole" = some (some (.ref A8)))
  (T8:K.lookup A8=some ⟨J8,C8,.func (PySem.W.fnOf "_law_whole" "_law_whole" (aH cZ) (aB cZ) (ag cZ) .none K8 M8 N8 D8 O8 P8),E8⟩)
  (U8:PySem.W.codeIn K O8 "_law_whole" = true)
  (V8:PySem.W.keepIn K (.ref A8)=true)
  (Q9:PySem.W.nsIn K mainGlobals "_law_cross" = some (some (.ref A9)))
  (T9:K.lookup A9=some ⟨J9,C9,.func (PySem.W.fnOf "_law_cross" "_law_cross" (aH b9) (aB b9) (ag b9) .none K9 M9 N9 D9 O9 P9),E9⟩)
  (U9:PySem.W.codeIn K O9 "_law_cross" = true)
  (V9:PySem.W.keepIn K (.ref A9)=true)
  (Q10:PySem.W.nsIn K mainGlobals "_law_apart" = some (some (.ref A10)))
  (T10:K.lookup A10=some ⟨J10,C10,.func (PySem.W.fnOf "_law_apart" "_law_apart" (aH cg) (aB cg) (ag cg) .none K10 M10 N10 D10 O10 P10),E10⟩)
  (U10:PySem.W.codeIn K O10 "_law_apart" = true)
  (V10:PySem.W.keepIn K (.ref A10)=true)
  (Q11:PySem.W.nsIn K mainGlobals "_law_frame" = some (some (.ref A11)))
  (T11:K.lookup A11=some ⟨J11,C11,.func (PySem.W.fnOf "_law_frame" "_law_frame" (aH cF) (aB cF) (ag cF) .none K11 M11 N11 D11 O11 P11),E11⟩)
  (U11:PySem.W.codeIn K O11 "_law_frame" = true)
  (V11:PySem.W.keepIn K (.ref A11)=true)
  (Q12:PySem.W.nsIn K mainGlobals "_law_on_side" = some (some (.ref A12)))
  (T12:K.lookup A12=some ⟨J12,C12,.func (PySem.W.fnOf "_law_on_side" "_law_on_side" (aH cu) (aB cu) (ag cu) .none K12 M12 N12 D12 O12 P12),E12⟩)
  (U12:PySem.W.codeIn K O12 "_law_on_side" = true)
  (V12:PySem.W.keepIn K (.ref A12)=true)
  (Q13:PySem.W.nsIn K mainGlobals "children_of" = some (some (.ref A13)))
  (T13:K.lookup A13=some ⟨J13,C13,.func (PySem.W.fnOf "children_of" "children_of" (aH b_) (aB b_) (ag b_) .none K13 M13 N13 D13 O13 P13),E13⟩)
  (U13:PySem.W.codeIn K O13 "children_of" = true)
  (V13:PySem.W.keepIn K (.ref A13)=true)
  (Q14:PySem.W.nsIn K mainGlobals "levels_of" = some (some (.ref A14)))
  (T14:K.lookup A14=some ⟨J14,C14,.func (PySem.W.fnOf "levels_of" "levels_of" (aH dE) (aB dE) (ag dE) .none K14 M14 N14 D14 O14 P14),E14⟩)
  (U14:PySem.W.codeIn K O14 "levels_of" = true)
  (V14:PySem.W.keepIn K (.ref A14)=true)
  (Q15:PySem.W.nsIn K mainGlobals "earliest_places" = some (some (.ref A15)))
  (T15:K.lookup A15=some ⟨J15,C15,.func (PySem.W.fnOf "earliest_places" "earliest_places" (aH a8) (aB a8) (ag a8) .none K15 M15 N15 D15 O15 P15),E15⟩)
  (U15:PySem.W.codeIn K O15 "earliest_places" = true)
  (V15:PySem.W.keepIn K (.ref A15)=true)
  (Q16:PySem.W.nsIn K mainGlobals "latest_places" = some (some (.ref A16)))
  (T16:K.lookup A16=some ⟨J16,C16,.func (PySem.W.fnOf "latest_places" "latest_places" (aH bz) (aB bz) (ag bz) .none K16 M16 N16 D16 O16 P16),E16⟩)
  (U16:PySem.W.codeIn K O16 "latest_places" = true)
  (V16:PySem.W.keepIn K (.ref A16)=true)
  (Q17:PySem.W.nsIn K mainGlobals "moved_to_side" = some (some (.ref A17)))
  (T17:K.lookup A17=some ⟨J17,C17,.func (PySem.W.fnOf "moved_to_side" "moved_to_side" (aH bg) (aB bg) (ag bg) .none K17 M17 N17 D17 O17 P17),E17⟩)
  (U17:PySem.W.codeIn K O17 "moved_to_side" = true)
  (V17:PySem.W.keepIn K (.ref A17)=true)
  (Q18:PySem.W.nsIn K mainGlobals "turned_point" = some (some (.ref A18)))
  (T18:K.lookup A18=some ⟨J18,C18,.func (PySem.W.fnOf "turned_point" "turned_point" (aH cy) (aB cy) (ag cy) .none K18 M18 N18 D18 O18 P18),E18⟩)
  (U18:PySem.W.codeIn K O18 "turned_point" = true)
  (V18:PySem.W.keepIn K (.ref A18)=true)
  (Q19:PySem.W.nsIn K mainGlobals "_law_label" = some (some (.ref A19)))
  (T19:K.lookup A19=some ⟨J19,C19,.func (PySem.W.fnOf "_law_label" "_law_label" (aH c7) (aB c7) (ag c7) .none K19 M19 N19 D19 O19 P19),E19⟩)
  (U19:PySem.W.codeIn K O19 "_law_label" = true)
  (V19:PySem.W.keepIn K (.ref A19)=true)
  (Q20:PySem.W.nsIn K mainGlobals "_law_numbers" = some (some (.ref A20)))
  (T20:K.lookup A20=some ⟨J20,C20,.func (PySem.W.fnOf "_law_numbers" "_law_numbers" (aH bI) (aB bI) (ag bI) .none K20 M20 N20 D20 O20 P20),E20⟩)
  (U20:PySem.W.codeIn K O20 "_law_numbers" = true)
  (V20:PySem.W.keepIn K (.ref A20)=true)
  (Q21:PySem.W.nsIn K mainGlobals "_law_meets_box" = some (some (.ref A21)))
  (T21:K.lookup A21=some ⟨J21,C21,.func (PySem.W.fnOf "_law_meets_box" "_law_meets_box" (aH bC) (aB bC) (ag bC) .none K21 M21 N21 D21 O21 P21),E21⟩)
  (U21:PySem.W.codeIn K O21 "_law_meets_box" = true)
  (V21:PySem.W.keepIn K (.ref A21)=true)
  (Q22:PySem.W.nsIn K mainGlobals "_law_meet" = some (some (.ref A22)))
  (T22:K.lookup A22=some ⟨J22,C22,.func (PySem.W.fnOf "_law_meet" "_law_meet" (aH dG) (aB dG) (ag dG) .none K22 M22 N22 D22 O22 P22),E22⟩)
  (U22:PySem.W.codeIn K O22 "_law_meet" = true)
  (V22:PySem.W.keepIn K (.ref A22)=true)
  (Q23:PySem.W.nsIn K mainGlobals "_law_boxes_clear" = some (some (.ref A23)))
  (T23:K.lookup A23=some ⟨J23,C23,.func (PySem.W.fnOf "_law_boxes_clear" "_law_boxes_clear" (aH ba) (aB ba) (ag ba) .none K23 M23 N23 D23 O23 P23),E23⟩)
  (U23:PySem.W.codeIn K O23 "_law_boxes_clear" = true)
  (V23:PySem.W.keepIn K (.ref A23)=true)
  (Q24:PySem.W.nsIn K mainGlobals "room_of" = some (some (.ref A24)))
  (T24:K.lookup A24=some ⟨J24,C24,.func (PySem.W.fnOf "room_of" "room_of" (aH fm) (aB fm) (ag fm) .none K24 M24 N24 D24 O24 P24),E24⟩)
  (U24:PySem.W.codeIn K O24 "room_of" = true)
  (V24:PySem.W.keepIn K (.ref A24)=true)
  (Q25:PySem.W.nsIn K mainGlobals "tops" = some (some (.ref A25)))
  (T25:K.lookup A25=some ⟨J25,C25,.func (PySem.W.fnOf "tops" "tops" (aH iP) (aB iP) (ag iP) (.ref b_25) K25 M25 N25 D25 O25 P25),E25⟩)
  (a_25:K.lookup b_25=some ⟨c_25,d_25,.seq #[.int 1 tk_tops] e_25,f_25⟩)
  (U25:PySem.W.codeIn K O25 "tops" = true)
  (V25:PySem.W.keepIn K (.ref A25)=true)
  (a_Turned_spot:PySem.W.findIn K (.ref c_Turned) "spot" = some (some (.ref f_Turned_spot)))
  (i_Turned_spot:PySem.W.isFn K (.ref f_Turned_spot)=true)
  (l_Turned_spot:K.lookup f_Turned_spot=some ⟨oc_Turned_spot,od_Turned_spot,.func (PySem.W.fnOf "spot" "Turned.spot" (aH b8) (aB b8) (ag b8) .none kV_Turned_spot dc_Turned_spot pm_Turned_spot an_Turned_spot cd_Turned_spot ct_Turned_spot),sl_Turned_spot⟩)
  (c_Turned_spot:PySem.W.codeIn K cd_Turned_spot "Turned.spot" = true)
  (k_Turned_spot:PySem.W.keepIn K (.ref f_Turned_spot)=true)
  (Q26:PySem.W.nsIn K mainGlobals "_law_tree" = some (some (.ref A26)))
  (T26:K.lookup A26=some ⟨J26,C26,.func (PySem.W.fnOf "_law_tree" "_law_tree" (aH dH) (aB dH) (ag dH) .none K26 M26 N26 D26 O26 P26),E26⟩)
  (U26:PySem.W.codeIn K O26 "_law_tree" = true)
  (V26:PySem.W.keepIn K (.ref A26)=true)
  (Q27:PySem.W.nsIn K mainGlobals "_law_lay" = some (some (.ref A27)))
  (T27:K.lookup A27=some ⟨J27,C27,.func (PySem.W.fnOf "_law_lay" "_law_lay" (aH eg) (aB eg) (ag eg) .none K27 M27 N27 D27 O27 P27),E27⟩)
  (U27:PySem.W.codeIn K O27 "_law_lay" = true)
  (V27:PySem.W.keepIn K (.ref A27)=true)
  (Q28:PySem.W.nsIn K mainGlobals "_law_told" = some (some (.ref A28)))
  (T28:K.lookup A28=some ⟨J28,C28,.func (PySem.W.fnOf "_law_told" "_law_told" (aH dc) (aB dc) (ag dc) .none K28 M28 N28 D28 O28 P28),E28⟩)
  (U28:PySem.W.codeIn K O28 "_law_told" = true)
  (V28:PySem.W.keepIn K (.ref A28)=true)
  (Q29:PySem.W.nsIn K mainGlobals "_law_line_clear" = some (some (.ref A29)))
  (T29:K.lookup A29=some ⟨J29,C29,.func (PySem.W.fnOf "_law_line_clear" "_law_line_clear" (aH bu) (aB bu) (ag bu) .none K29 M29 N29 D29 O29 P29),E29⟩)
  (U29:PySem.W.codeIn K O29 "_law_line_clear" = true)
  (V29:PySem.W.keepIn K (.ref A29)=true)
  (Q30:PySem.W.nsIn K mainGlobals "_law_two_clear" = some (some (.ref A30)))
  (T30:K.lookup A30=some ⟨J30,C30,.func (PySem.W.fnOf "_law_two_clear" "_law_two_clear" (aH bA) (aB bA) (ag bA) .none K30 M30 N30 D30 O30 P30),E30⟩)
  (U30:PySem.W.codeIn K O30 "_law_two_clear" = true)
  (V30:PySem.W.keepIn K (.ref A30)=true)
  (Q31:PySem.W.nsIn K mainGlobals "stands_below" = some (some (.ref A31)))
  (T31:K.lookup A31=some ⟨J31,C31,.func (PySem.W.fnOf "stands_below" "stands_below" (aH bO) (aB bO) (ag bO) .none K31 M31 N31 D31 O31 P31),E31⟩)
  (U31:PySem.W.codeIn K O31 "stands_below" = true)
  (V31:PySem.W.keepIn K (.ref A31)=true)
  (Q32:PySem.W.nsIn K mainGlobals "level_tops" = some (some (.ref A32)))
  (T32:K.lookup A32=some ⟨J32,C32,.func (PySem.W.fnOf "level_tops" "level_tops" (aH cc) (aB cc) (ag cc) .none K32 M32 N32 D32 O32 P32),E32⟩)
  (U32:PySem.W.codeIn K O32 "level_tops" = true)
  (V32:PySem.W.keepIn K (.ref A32)=true)
  (a_Standing_box:PySem.W.findIn K (.ref c_Standing) "box" = some (some (.ref f_Standing_box)))
  (i_Standing_box:PySem.W.isFn K (.ref f_Standing_box)=true)
  (l_Standing_box:K.lookup f_Standing_box=some ⟨oc_Standing_box,od_Standing_box,.func (PySem.W.fnOf "box" "Standing.box" (aH cq) (aB cq) (ag cq) .none kV_Standing_box dc_Standing_box pm_Standing_box an_Standing_box cd_Standing_box ct_Standing_box),sl_Standing_box⟩)
  (c_Standing_box:PySem.W.codeIn K cd_Standing_box "Standing.box" = true)
  (k_Standing_box:PySem.W.keepIn K (.ref f_Standing_box)=true)
  (Q33:PySem.W.nsIn K mainGlobals "pieces" = some (some (.ref A33)))
  (T33:K.lookup A33=some ⟨J33,C33,.func (PySem.W.fnOf "pieces" "pieces" (aH eV) (aB eV) (ag eV) .none K33 M33 N33 D33 O33 P33),E33⟩)
  (U33:PySem.W.codeIn K O33 "pieces" = true)
  (V33:PySem.W.keepIn K (.ref A33)=true)
  (Q34:PySem.W.nsIn K mainGlobals "drawn" = some (some (.ref A34)))
  (T34:K.lookup A34=some ⟨J34,C34,.func (PySem.W.fnOf "drawn" "drawn" (aH gM) (aB gM) (ag gM) .none K34 M34 N34 D34 O34 P34),E34⟩)
  (U34:PySem.W.codeIn K O34 "drawn" = true)
  (V34:PySem.W.keepIn K (.ref A34)=true)
  (Q35:PySem.W.nsIn K mainGlobals "boxes" = some (some (.ref A35)))
  (T35:K.lookup A35=some ⟨J35,C35,.func (PySem.W.fnOf "boxes" "boxes" (aH gF) (aB gF) (ag gF) (.ref b_35) K35 M35 N35 D35 O35 P35),E35⟩)
  (a_35:K.lookup b_35=some ⟨c_35,d_35,.seq #[.int 1 tk_boxes] e_35,f_35⟩)
  (U35:PySem.W.codeIn K O35 "boxes" = true)
  (V35:PySem.W.keepIn K (.ref A35)=true)
  (Q36:PySem.W.nsIn K mainGlobals "lines" = some (some (.ref A36)))
  (T36:K.lookup A36=some ⟨J36,C36,.func (PySem.W.fnOf "lines" "lines" (aH fN) (aB fN) (ag fN) (.ref b_36) K36 M36 N36 D36 O36 P36),E36⟩)
  (a_36:K.lookup b_36=some ⟨c_36,d_36,.seq #[.int 1 tk_lines] e_36,f_36⟩)
  (U36:PySem.W.codeIn K O36 "lines" = true)
  (V36:PySem.W.keepIn K (.ref A36)=true)
  (Q37:PySem.W.nsIn K mainGlobals "_law_draws" = some (some (.ref A37)))
  (T37:K.lookup A37=some ⟨J37,C37,.func (PySem.W.fnOf "_law_draws" "_law_draws" (aH c_) (aB c_) (ag c_) .none K37 M37 N37 D37 O37 P37),E37⟩)
  (U37:PySem.W.codeIn K O37 "_law_draws" = true)
  (V37:PySem.W.keepIn K (.ref A37)=true)
  (Q38:PySem.W.nsIn K mainGlobals "law" = some (some (.ref A38)))
  (T38:K.lookup A38=some ⟨J38,C38,.func (PySem.W.fnOf "law" "law" (aH i8) (aB i8) (ag i8) .none K38 M38 N38 D38 O38 P38),E38⟩)
  (U38:PySem.W.codeIn K O38 "law" = true)
  (V38:PySem.W.keepIn K (.ref A38)=true)
  (pg_Standing:PySem.W.plainGet K c_Standing Str.empty=true)
  (hd_Standing:PySem.W.hasDictIn K c_Standing=true)
  (po_Standing:PySem.W.plainOver K c_Standing=true)
  (sa_Standing:PySem.W.findIn K (.ref c_Standing) "__setattr__" = some (some (.builtin "object.__setattr__")))
  (mk_Standing:PySem.W.makesIn K c_Standing=true)
  (kc_Standing:PySem.W.keepIn K (.ref c_Standing)=true)
  (cc_Standing:PySem.W.findIn K (.ref c_Standing) "__class__" = some (some (.builtin "object.__class__")))
  (mo_Standing:PySem.W.mroIn K c_Standing (.type "object")=some true)
  (ni_Standing:PySem.W.findIn K (.ref c_Standing) "__init__" = some (some (.builtin "object.__init__")))
  (me_Standing_box:PySem.W.findIn K (.ref c_Standing) "box" = some (some (.ref f_Standing_box)))
  (me_Standing_spot:PySem.W.findIn K (.ref c_Standing) "spot" = some (some (.ref f_Standing_spot)))
  (q_Standing_Standing:PySem.W.kitOne K (.ref c_Standing) (.ref c_Standing)=some true)
  (q_Standing_Lying:PySem.W.kitOne K (.ref c_Standing) (.ref c_Lying)=some false)
  (q_Standing_Turned:PySem.W.kitOne K (.ref c_Standing) (.ref c_Turned)=some false)
  (pg_Lying:PySem.W.plainGet K c_Lying Str.empty=true)
  (hd_Lying:PySem.W.hasDictIn K c_Lying=true)
  (po_Lying:PySem.W.plainOver K c_Lying=true)
  (sa_Lying:PySem.W.findIn K (.ref c_Lying) "__setattr__" = some (some (.builtin "object.__setattr__")))
  (mk_Lying:PySem.W.makesIn K c_Lying=true)
  (kc_Lying:PySem.W.keepIn K (.ref c_Lying)=true)
  (cc_Lying:PySem.W.findIn K (.ref c_Lying) "__class__" = some (some (.builtin "object.__class__")))
  (mo_Lying:PySem.W.mroIn K c_Lying (.type "object")=some true)
  (ni_Lying:PySem.W.findIn K (.ref c_Lying) "__init__" = some (some (.builtin "object.__init__")))
  (me_Lying_box:PySem.W.findIn K (.ref c_Lying) "box" = some (some (.ref f_Standing_box)))
  (me_Lying_spot:PySem.W.findIn K (.ref c_Lying) "spot" = some (some (.ref f_Lying_spot)))
  (q_Lying_Standing:PySem.W.kitOne K (.ref c_Lying) (.ref c_Standing)=some true)
  (q_Lying_Lying:PySem.W.kitOne K (.ref c_Lying) (.ref c_Lying)=some true)
  (q_Lying_Turned:PySem.W.kitOne K (.ref c_Lying) (.ref c_Turned)=some false)
  (pg_Turned:PySem.W.plainGet K c_Turned Str.empty=true)
  (hd_Turned:PySem.W.hasDictIn K c_Turned=true)
  (po_Turned:PySem.W.plainOver K c_Turned=true)
  (sa_Turned:PySem.W.findIn K (.ref c_Turned) "__setattr__" = some (some (.builtin "object.__setattr__")))
  (mk_Turned:PySem.W.makesIn K c_Turned=true)
  (kc_Turned:PySem.W.keepIn K (.ref c_Turned)=true)
  (cc_Turned:PySem.W.findIn K (.ref c_Turned) "__class__" = some (some (.builtin "object.__class__")))
  (mo_Turned:PySem.W.mroIn K c_Turned (.type "object")=some true)
  (na_Turned_turn:PySem.W.findIn K (.ref c_Turned) "turn" = some none)
  (me_Turned_box:PySem.W.findIn K (.ref c_Turned) "box" = some (some (.ref f_Standing_box)))
  (me_Turned_spot:PySem.W.findIn K (.ref c_Turned) "spot" = some (some (.ref f_Turned_spot)))
  (q_Turned_Standing:PySem.W.kitOne K (.ref c_Turned) (.ref c_Standing)=some true)
  (q_Turned_Lying:PySem.W.kitOne K (.ref c_Turned) (.ref c_Lying)=some false)
  (q_Turned_Turned:PySem.W.kitOne K (.ref c_Turned) (.ref c_Turned)=some true)
  (gg:PySem.W.specialIn K (.builtin "object.__class__") "__get__" = some (some (.builtin "getset_descriptor.__get__")))
  (gt:PySem.W.takesIn K (.builtin "object.__class__")=some true)
  (z_bool:PySem.W.nsIn K mainGlobals "bool" = some none)
  (z_enumerate:PySem.W.nsIn K mainGlobals "enumerate" = some none)
  (z_int:PySem.W.nsIn K mainGlobals "int" = some none)
  (z_isinstance:PySem.W.nsIn K mainGlobals "isinstance" = some none)
  (z_len:PySem.W.nsIn K mainGlobals "len" = some none)
  (z_list:PySem.W.nsIn K mainGlobals "list" = some none)
  (z_max:PySem.W.nsIn K mainGlobals "max" = some none)
  (z_min:PySem.W.nsIn K mainGlobals "min" = some none)
  (z_range:PySem.W.nsIn K mainGlobals "range" = some none)
  (z_tuple:PySem.W.nsIn K mainGlobals "tuple" = some none)
  (z_zip:PySem.W.nsIn K mainGlobals "zip" = some none)
  (g_QUARTERS:PySem.W.nsIn K mainGlobals "QUARTERS" = some (some (.int 4 tk_QUARTERS)))
  (g_SHREDS:PySem.W.nsIn K mainGlobals "SHREDS" = some (some (.int 256 tk_SHREDS))) :
  ∃fd:FuncData,(∀(s:Shared) (v:Value),BindsTo s fd ⟨[v],[]⟩ [("_law_script",v)])/\∀base:Heap,K.In base->base.Ns mainGlobals mg->yn l.prog base->FnOk l.prog w K mg base CX0 35 fa fd ["_law_script"] (sp3 K mg mD):=by
 have e:=hfa.symm.trans (PySem.W.mg_of X G Q38);cases e;have T:Txt K mg:=⟨PySem.W.mg_none_of X G z_bool,PySem.W.mg_none_of X G z_enumerate,PySem.W.mg_none_of X G z_int,PySem.W.mg_none_of X G z_isinstance,PySem.W.mg_none_of X G z_len,PySem.W.mg_none_of X G z_list,PySem.W.mg_none_of X G z_max,PySem.W.mg_none_of X G z_min,PySem.W.mg_none_of X G z_range,PySem.W.mg_none_of X G z_tuple,PySem.W.mg_none_of X G z_zip,⟨_,PySem.W.mg_of X G g_QUARTERS⟩,⟨_,PySem.W.mg_of X G g_SHREDS⟩⟩;have O:Obs K mg c_Standing c_Lying c_Turned f_Standing_spot f_Lying_spot f_Turned___init__ f_Turned_spot f_Standing_box:=⟨ca_Standing,PySem.W.mg_of X G ca_Standing,⟨⟨pg_Standing,hd_Standing,po_Standing,sa_Standing⟩,cc_Standing,gg,gt,mo_Standing⟩,⟨mk_Standing,ni_Standing,kc_Standing⟩,⟨me_Standing_box,i_Standing_box,k_Standing_box⟩,⟨me_Standing_spot,i_Standing_spot,k_Standing_spot⟩,q_Standing_Standing,q_Standing_Lying,q_Standing_Turned,ca_Lying,PySem.W.mg_of X G ca_Lying,⟨⟨pg_Lying,hd_Lying,po_Lying,sa_Lying⟩,cc_Lying,gg,gt,mo_Lying⟩,⟨mk_Lying,ni_Lying,kc_Lying⟩,⟨me_Lying_box,i_Standing_box,k_Standing_box⟩,⟨me_Lying_spot,i_Lying_spot,k_Lying_spot⟩,q_Lying_Standing,q_Lying_Lying,q_Lying_Turned,ca_Turned,PySem.W.mg_of X G ca_Turned,⟨⟨pg_Turned,hd_Turned,po_Turned,sa_Turned⟩,cc_Turned,gg,gt,mo_Turned⟩,⟨mk_Turned,a_Turned___init__,i_Turned___init__,kc_Turned⟩,na_Turned_turn,⟨me_Turned_box,i_Standing_box,k_Standing_box⟩,⟨me_Turned_spot,i_Turned_spot,k_Turned_spot⟩,q_Turned_Standing,q_Turned_Lying,q_Turned_Turned⟩;have Y1:=aX (st:=cY) T1 U1 V1;have W1:Def K mg "check_node" cY ["tree", "node"] _ _:=⟨Y1,PySem.W.mg_of X G Q1,Y1.binds (ps:=["tree", "node"]) λ_ _ _ _ _ _ us hl=>by obtain ⟨_,_,rfl⟩:=ex2 hl;rfl⟩
 have Y2:=aX (st:=bH) T2 U2 V2;have W2:Def K mg "node_levels" bH ["tree"] _ _:=⟨Y2,PySem.W.mg_of X G Q2,Y2.binds (ps:=["tree"]) λ_ _ _ _ _ _ us hl=>by obtain ⟨_,rfl⟩:=ex1 hl;rfl⟩
 have Y3:=aX (st:=dA) T3 U3 V3;have W3:Def K mg "reaches" dA ["tree"] _ _:=⟨Y3,PySem.W.mg_of X G Q3,Y3.binds (ps:=["tree"]) λ_ _ _ _ _ _ us hl=>by obtain ⟨_,rfl⟩:=ex1 hl;rfl⟩
 have Y4:=aX (st:=d6) T4 U4 V4;have W4:Def K mg "nearest" d6 ["one", "other", "gap"] _ _:=⟨Y4,PySem.W.mg_of X G Q4,Y4.binds (ps:=["one", "other", "gap"]) λ_ _ _ _ _ _ us hl=>by obtain ⟨_,_,_,rfl⟩:=ex3 hl;rfl⟩
 have Y5:=aX (st:=aS) T5 U5 V5;have W5:Def K mg "joined_outline" aS ["outlines", "stands"] _ _:=⟨Y5,PySem.W.mg_of X G Q5,Y5.binds (ps:=["outlines", "stands"]) λ_ _ _ _ _ _ us hl=>by obtain ⟨_,_,rfl⟩:=ex2 hl;rfl⟩
 have Y6:=aX (st:=h_) T6 U6 V6;have W6:Def K mg "flips" h_ ["turn"] _ _:=⟨Y6,PySem.W.mg_of X G Q6,Y6.binds (ps:=["turn"]) λ_ _ _ _ _ _ us hl=>by obtain ⟨_,rfl⟩:=ex1 hl;rfl⟩
 have F_Standing_spot:=aX (st:=bw) l_Standing_spot c_Standing_spot k_Standing_spot;have D_Standing_spot:DefM K "spot" "Standing.spot" bw ["self", "point"] _ _:=⟨F_Standing_spot,F_Standing_spot.binds (ps:=["self", "point"]) λ_ _ _ _ _ _ us hl=>by obtain ⟨_,_,rfl⟩:=ex2 hl;rfl⟩
 have F_Lying_spot:=aX (st:=cE) l_Lying_spot c_Lying_spot k_Lying_spot;have D_Lying_spot:DefM K "spot" "Lying.spot" cE ["self", "point"] _ _:=⟨F_Lying_spot,F_Lying_spot.binds (ps:=["self", "point"]) λ_ _ _ _ _ _ us hl=>by obtain ⟨_,_,rfl⟩:=ex2 hl;rfl⟩
 have F_Turned___init__:=aX (st:=bq) l_Turned___init__ c_Turned___init__ k_Turned___init__;have D_Turned___init__:DefM K "__init__" "Turned.__init__" bq ["self", "turn"] _ _:=⟨F_Turned___init__,F_Turned___init__.binds (ps:=["self", "turn"]) λ_ _ _ _ _ _ us hl=>by obtain ⟨_,_,rfl⟩:=ex2 hl;rfl⟩
 have Y7:=aX (st:=cz) T7 U7 V7;have W7:Def K mg "_law_letters" cz ["_law_number", "_law_size"] _ _:=⟨Y7,PySem.W.mg_of X G Q7,Y7.binds (ps:=["_law_number", "_law_size"]) λ_ _ _ _ _ _ us hl=>by obtain ⟨_,_,rfl⟩:=ex2 hl;rfl⟩
 have Y8:=aX (st:=cZ) T8 U8 V8;have W8:Def K mg "_law_whole" cZ ["_law_found"] _ _:=⟨Y8,PySem.W.mg_of X G Q8,Y8.binds (ps:=["_law_found"]) λ_ _ _ _ _ _ us hl=>by obtain ⟨_,rfl⟩:=ex1 hl;rfl⟩
 have Y9:=aX (st:=b9) T9 U9 V9;have W9:Def K mg "_law_cross" b9 ["_law_one", "_law_other", "_law_spot"] _ _:=⟨Y9,PySem.W.mg_of X G Q9,Y9.binds (ps:=["_law_one", "_law_other", "_law_spot"]) λ_ _ _ _ _ _ us hl=>by obtain ⟨_,_,_,rfl⟩:=ex3 hl;rfl⟩
 have Y10:=aX (st:=cg) T10 U10 V10;have W10:Def K mg "_law_apart" cg ["_law_one", "_law_other"] _ _:=⟨Y10,PySem.W.mg_of X G Q10,Y10.binds (ps:=["_law_one", "_law_other"]) λ_ _ _ _ _ _ us hl=>by obtain ⟨_,_,rfl⟩:=ex2 hl;rfl⟩
 have Y11:=aX (st:=cF) T11 U11 V11;have W11:Def K mg "_law_frame" cF ["_law_one", "_law_other"] _ _:=⟨Y11,PySem.W.mg_of X G Q11,Y11.binds (ps:=["_law_one", "_law_other"]) λ_ _ _ _ _ _ us hl=>by obtain ⟨_,_,rfl⟩:=ex2 hl;rfl⟩
 have Y12:=aX (st:=cu) T12 U12 V12;have W12:Def K mg "_law_on_side" cu ["_law_spot", "_law_box"] _ _:=⟨Y12,PySem.W.mg_of X G Q12,Y12.binds (ps:=["_law_spot", "_law_box"]) λ_ _ _ _ _ _ us hl=>by obtain ⟨_,_,rfl⟩:=ex2 hl;rfl⟩
 have Y13:=aX (st:=b_) T13 U13 V13;have W13:Def K mg "children_of" b_ ["tree", "node"] _ _:=⟨Y13,PySem.W.mg_of X G Q13,Y13.binds (ps:=["tree", "node"]) λ_ _ _ _ _ _ us hl=>by obtain ⟨_,_,rfl⟩:=ex2 hl;rfl⟩
 have Y14:=aX (st:=dE) T14 U14 V14;have W14:Def K mg "levels_of" dE ["tree"] _ _:=⟨Y14,PySem.W.mg_of X G Q14,Y14.binds (ps:=["tree"]) λ_ _ _ _ _ _ us hl=>by obtain ⟨_,rfl⟩:=ex1 hl;rfl⟩
 have Y15:=aX (st:=a8) T15 U15 V15;have W15:Def K mg "earliest_places" a8 ["outlines", "gap"] _ _:=⟨Y15,PySem.W.mg_of X G Q15,Y15.binds (ps:=["outlines", "gap"]) λ_ _ _ _ _ _ us hl=>by obtain ⟨_,_,rfl⟩:=ex2 hl;rfl⟩
 have Y16:=aX (st:=bz) T16 U16 V16;have W16:Def K mg "latest_places" bz ["outlines", "gap", "last"] _ _:=⟨Y16,PySem.W.mg_of X G Q16,Y16.binds (ps:=["outlines", "gap", "last"]) λ_ _ _ _ _ _ us hl=>by obtain ⟨_,_,_,rfl⟩:=ex3 hl;rfl⟩
 have Y17:=aX (st:=bg) T17 U17 V17;have W17:Def K mg "moved_to_side" bg ["tree", "places", "unit"] _ _:=⟨Y17,PySem.W.mg_of X G Q17,Y17.binds (ps:=["tree", "places", "unit"]) λ_ _ _ _ _ _ us hl=>by obtain ⟨_,_,_,rfl⟩:=ex3 hl;rfl⟩
 have Y18:=aX (st:=cy) T18 U18 V18;have W18:Def K mg "turned_point" cy ["turn", "point"] _ _:=⟨Y18,PySem.W.mg_of X G Q18,Y18.binds (ps:=["turn", "point"]) λ_ _ _ _ _ _ us hl=>by obtain ⟨_,_,rfl⟩:=ex2 hl;rfl⟩
 have Y19:=aX (st:=c7) T19 U19 V19;have W19:Def K mg "_law_label" c7 ["_law_number", "_law_most"] _ _:=⟨Y19,PySem.W.mg_of X G Q19,Y19.binds (ps:=["_law_number", "_law_most"]) λ_ _ _ _ _ _ us hl=>by obtain ⟨_,_,rfl⟩:=ex2 hl;rfl⟩
 have Y20:=aX (st:=bI) T20 U20 V20;have W20:Def K mg "_law_numbers" bI ["_law_found", "_law_size"] _ _:=⟨Y20,PySem.W.mg_of X G Q20,Y20.binds (ps:=["_law_found", "_law_size"]) λ_ _ _ _ _ _ us hl=>by obtain ⟨_,_,rfl⟩:=ex2 hl;rfl⟩
 have Y21:=aX (st:=bC) T21 U21 V21;have W21:Def K mg "_law_meets_box" bC ["_law_one", "_law_other", "_law_box"] _ _:=⟨Y21,PySem.W.mg_of X G Q21,Y21.binds (ps:=["_law_one", "_law_other", "_law_box"]) λ_ _ _ _ _ _ us hl=>by obtain ⟨_,_,_,rfl⟩:=ex3 hl;rfl⟩
 have Y22:=aX (st:=dG) T22 U22 V22;have W22:Def K mg "_law_meet" dG ["_law_one", "_law_other", "_law_first", "_law_last"] _ _:=⟨Y22,PySem.W.mg_of X G Q22,Y22.binds (ps:=["_law_one", "_law_other", "_law_first", "_law_last"]) λ_ _ _ _ _ _ us hl=>by obtain ⟨_,_,_,_,rfl⟩:=ex4 hl;rfl⟩
 have Y23:=aX (st:=ba) T23 U23 V23;have W23:Def K mg "_law_boxes_clear" ba ["_law_sheet"] _ _:=⟨Y23,PySem.W.mg_of X G Q23,Y23.binds (ps:=["_law_sheet"]) λ_ _ _ _ _ _ us hl=>by obtain ⟨_,rfl⟩:=ex1 hl;rfl⟩
 have Y24:=aX (st:=fm) T24 U24 V24;have W24:Def K mg "room_of" fm ["outlines", "gap"] _ _:=⟨Y24,PySem.W.mg_of X G Q24,Y24.binds (ps:=["outlines", "gap"]) λ_ _ _ _ _ _ us hl=>by obtain ⟨_,_,rfl⟩:=ex2 hl;rfl⟩
 have Y25:=oY (st:=iP) T25 U25 V25;have W25:DefD K mg "tops" iP ["tree", "between"] ["between"] 1 [.int 1] _ _:=⟨Y25,PySem.W.mg_of X G Q25,iB (m:=2) (ds:=[]) rfl λs us hK hl=>match us,hl with | [_,_],_=>.of_defaults rfl (hK _ _ a_25) rfl rfl rfl,⟨_,iB (m:=1) (ds:=[.int 1 tk_tops]) rfl λs us hK hl=>match us,hl with | [_],_=>.of_defaults rfl (hK _ _ a_25) rfl rfl rfl,.cons ⟨_,rfl⟩ .nil⟩,wH (by decide) λs us ws hK hl hw=>match us,hl,ws,hw with | [_],_,[_],_=>.of_defaults rfl (hK _ _ a_25) rfl rfl rfl⟩
 have F_Turned_spot:=aX (st:=b8) l_Turned_spot c_Turned_spot k_Turned_spot;have D_Turned_spot:DefM K "spot" "Turned.spot" b8 ["self", "point"] _ _:=⟨F_Turned_spot,F_Turned_spot.binds (ps:=["self", "point"]) λ_ _ _ _ _ _ us hl=>by obtain ⟨_,_,rfl⟩:=ex2 hl;rfl⟩
 have Y26:=aX (st:=dH) T26 U26 V26;have W26:Def K mg "_law_tree" dH ["_law_draws_here", "_law_start", "_law_many", "_law_most", "_law_deep"] _ _:=⟨Y26,PySem.W.mg_of X G Q26,Y26.binds (ps:=["_law_draws_here", "_law_start", "_law_many", "_law_most", "_law_deep"]) λ_ _ _ _ _ _ us hl=>by obtain ⟨_,_,_,_,_,rfl⟩:=ex5 hl;rfl⟩
 have Y27:=aX (st:=eg) T27 U27 V27;have W27:Def K mg "_law_lay" eg ["_law_cell"] _ _:=⟨Y27,PySem.W.mg_of X G Q27,Y27.binds (ps:=["_law_cell"]) λ_ _ _ _ _ _ us hl=>by obtain ⟨_,rfl⟩:=ex1 hl;rfl⟩
 have Y28:=aX (st:=dc) T28 U28 V28;have W28:Def K mg "_law_told" dc ["_law_tree_here", "_law_sheet", "_law_ways"] _ _:=⟨Y28,PySem.W.mg_of X G Q28,Y28.binds (ps:=["_law_tree_here", "_law_sheet", "_law_ways"]) λ_ _ _ _ _ _ us hl=>by obtain ⟨_,_,_,rfl⟩:=ex3 hl;rfl⟩
 have Y29:=aX (st:=bu) T29 U29 V29;have W29:Def K mg "_law_line_clear" bu ["_law_tree_here", "_law_sheet", "_law_way", "_law_node"] _ _:=⟨Y29,PySem.W.mg_of X G Q29,Y29.binds (ps:=["_law_tree_here", "_law_sheet", "_law_way", "_law_node"]) λ_ _ _ _ _ _ us hl=>by obtain ⟨_,_,_,_,rfl⟩:=ex4 hl;rfl⟩
 have Y30:=aX (st:=bA) T30 U30 V30;have W30:Def K mg "_law_two_clear" bA ["_law_tree_here", "_law_ways", "_law_one", "_law_other"] _ _:=⟨Y30,PySem.W.mg_of X G Q30,Y30.binds (ps:=["_law_tree_here", "_law_ways", "_law_one", "_law_other"]) λ_ _ _ _ _ _ us hl=>by obtain ⟨_,_,_,_,rfl⟩:=ex4 hl;rfl⟩
 have Y31:=aX (st:=bO) T31 U31 V31;have W31:Def K mg "stands_below" bO ["outlines", "gap"] _ _:=⟨Y31,PySem.W.mg_of X G Q31,Y31.binds (ps:=["outlines", "gap"]) λ_ _ _ _ _ _ us hl=>by obtain ⟨_,_,rfl⟩:=ex2 hl;rfl⟩
 have Y32:=aX (st:=cc) T32 U32 V32;have W32:Def K mg "level_tops" cc ["tree", "between"] _ _:=⟨Y32,PySem.W.mg_of X G Q32,Y32.binds (ps:=["tree", "between"]) λ_ _ _ _ _ _ us hl=>by obtain ⟨_,_,rfl⟩:=ex2 hl;rfl⟩
 have F_Standing_box:=aX (st:=cq) l_Standing_box c_Standing_box k_Standing_box;have D_Standing_box:DefM K "box" "Standing.box" cq ["self", "box"] _ _:=⟨F_Standing_box,F_Standing_box.binds (ps:=["self", "box"]) λ_ _ _ _ _ _ us hl=>by obtain ⟨_,_,rfl⟩:=ex2 hl;rfl⟩
 have Y33:=aX (st:=eV) T33 U33 V33;have W33:Def K mg "pieces" eV ["tree", "gap"] _ _:=⟨Y33,PySem.W.mg_of X G Q33,Y33.binds (ps:=["tree", "gap"]) λ_ _ _ _ _ _ us hl=>by obtain ⟨_,_,rfl⟩:=ex2 hl;rfl⟩
 have Y34:=aX (st:=gM) T34 U34 V34;have W34:Def K mg "drawn" gM ["tree", "gap"] _ _:=⟨Y34,PySem.W.mg_of X G Q34,Y34.binds (ps:=["tree", "gap"]) λ_ _ _ _ _ _ us hl=>by obtain ⟨_,_,rfl⟩:=ex2 hl;rfl⟩
 have Y35:=oY (st:=gF) T35 U35 V35;have W35:DefD K mg "boxes" gF ["tree", "gap", "between"] ["between"] 2 [.int 1] _ _:=⟨Y35,PySem.W.mg_of X G Q35,iB (m:=3) (ds:=[]) rfl λs us hK hl=>match us,hl with | [_,_,_],_=>.of_defaults rfl (hK _ _ a_35) rfl rfl rfl,⟨_,iB (m:=2) (ds:=[.int 1 tk_boxes]) rfl λs us hK hl=>match us,hl with | [_,_],_=>.of_defaults rfl (hK _ _ a_35) rfl rfl rfl,.cons ⟨_,rfl⟩ .nil⟩,wH (by decide) λs us ws hK hl hw=>match us,hl,ws,hw with | [_,_],_,[_],_=>.of_defaults rfl (hK _ _ a_35) rfl rfl rfl⟩
 have Y36:=oY (st:=fN) T36 U36 V36;have W36:DefD K mg "lines" fN ["tree", "gap", "between"] ["between"] 2 [.int 1] _ _:=⟨Y36,PySem.W.mg_of X G Q36,iB (m:=3) (ds:=[]) rfl λs us hK hl=>match us,hl with | [_,_,_],_=>.of_defaults rfl (hK _ _ a_36) rfl rfl rfl,⟨_,iB (m:=2) (ds:=[.int 1 tk_lines]) rfl λs us hK hl=>match us,hl with | [_,_],_=>.of_defaults rfl (hK _ _ a_36) rfl rfl rfl,.cons ⟨_,rfl⟩ .nil⟩,wH (by decide) λs us ws hK hl hw=>match us,hl,ws,hw with | [_,_],_,[_],_=>.of_defaults rfl (hK _ _ a_36) rfl rfl rfl⟩
 have Y37:=aX (st:=c_) T37 U37 V37;have W37:Def K mg "_law_draws" c_ ["_law_script", "_law_many"] _ _:=⟨Y37,PySem.W.mg_of X G Q37,Y37.binds (ps:=["_law_script", "_law_many"]) λ_ _ _ _ _ _ us hl=>by obtain ⟨_,_,rfl⟩:=ex2 hl;rfl⟩
 have Y38:=aX (st:=i8) T38 U38 V38;refine ⟨PySem.W.fnOf "law" "law" (aH i8) (aB i8) (ag i8) .none K38 M38 N38 D38 O38 P38,λs v=>.of_eq rfl,λbase _ _ S=>?_⟩
 have X1:FnOk l.prog w K mg base CX0 1 _ _ _ _:=nE W1.F T O;have X2:FnOk l.prog w K mg base CX0 1 _ _ _ _:=mZ W2.F T O;have X3:FnOk l.prog w K mg base CX0 1 _ _ _ _:=rD W3.F T O;have X4:FnOk l.prog w K mg base CX0 1 _ _ _ _:=rk W4.F T O;have X5:FnOk l.prog w K mg base CX0 1 _ _ _ _:=kJ W5.F T O;have X6:FnOk l.prog w K mg base CX0 1 _ _ _ _:=vD W6.F T O;have G_Standing_spot:FnOk l.prog w K mg base CX0 1 _ _ _ _:=k8 D_Standing_spot.F T O;have G_Lying_spot:FnOk l.prog w K mg base CX0 1 _ _ _ _:=nZ D_Lying_spot.F T O;have G_Turned___init__:FnOk l.prog w K mg base CX0 1 _ _ _ _:=j5 D_Turned___init__.F;have X7:FnOk l.prog w K mg base CX0 1 _ _ _ _:=l6 W7.F T O;have X8:FnOk l.prog w K mg base CX0 1 _ _ _ _:=nR W8.F T O;have X9:FnOk l.prog w K mg base CX0 1 _ _ _ _:=nJ W9.F T O;have X10:FnOk l.prog w K mg base CX0 1 _ _ _ _:=nM W10.F T O;have X11:FnOk l.prog w K mg base CX0 1 _ _ _ _:=nL W11.F T O;have X12:FnOk l.prog w K mg base CX0 1 _ _ _ _:=lW W12.F T O;have X13:FnOk l.prog w K mg base CX0 2 _ _ _ _:=m_ W13.F T O W1 X1;have X14:FnOk l.prog w K mg base CX0 2 _ _ _ _:=pX W14.F T O W2 X2;have X15:FnOk l.prog w K mg base CX0 2 _ _ _ _:=jW W15.F T O W4 X4;have X16:FnOk l.prog w K mg base CX0 2 _ _ _ _:=lq W16.F T O W4 X4;have X17:FnOk l.prog w K mg base CX0 2 _ _ _ _:=lz W17.F T O W3 X3;have X18:FnOk l.prog w K mg base CX0 2 _ _ _ _:=lV W18.F T O W6 X6;have X19:FnOk l.prog w K mg base CX0 2 _ _ _ _:=nF W19.F T O W7 X7;have X20:FnOk l.prog w K mg base CX0 2 _ _ _ _:=lZ W20.F T O W8 X8;have X21:FnOk l.prog w K mg base CX0 2 _ _ _ _:=kQ W21.F T O W9 X9 W10 X10 W11 X11;have X22:FnOk l.prog w K mg base CX0 2 _ _ _ _:=pI W22.F T O W9 X9 W10 X10 W11 X11;have X23:FnOk l.prog w K mg base CX0 2 _ _ _ _:=jL W23.F T O W10 X10;have X24:FnOk l.prog w K mg base CX0 3 _ _ _ _:=rz W24.F T O W15 X15 W16 X16;have X25:FnOk l.prog w K mg base CX0 3 _ _ _ _:=zj W25.F T O W14 X14;have G_Turned_spot:FnOk l.prog w K mg base CX0 3 _ _ _ _:=mE D_Turned_spot.F T O W18 X18;have X26:FnOk l.prog w K mg base CX0 3 _ _ _ _:=pL W26.F T O W19 X19;have X27:FnOk l.prog w K mg base CX0 3 _ _ _ _:=qp W27.F T O D_Turned___init__ G_Turned___init__;have X28:FnOk l.prog w K mg base CX0 3 _ _ _ _:=pG W28.F T O W20 X20;have X29:FnOk l.prog w K mg base CX0 3 _ _ _ _:=j4 W29.F T O W21 X21 W12 X12;have X30:FnOk l.prog w K mg base CX0 3 _ _ _ _:=kj W30.F T O W9 X9 W22 X22;have X31:FnOk l.prog w K mg base CX0 4 _ _ _ _:=l7 W31.F T O W24 X24;have X32:FnOk l.prog w K mg base CX0 4 _ _ _ _:=n8 W32.F T O W25 X25;have G_Standing_box:FnOk l.prog w K mg base CX0 4 _ _ _ _:=lR D_Standing_box.F T O D_Standing_spot G_Standing_spot D_Lying_spot G_Lying_spot D_Turned_spot G_Turned_spot;have X33:FnOk l.prog w K mg base CX0 5 _ _ _ _:=uS W33.F T O W13 X13 W3 X3 W31 X31 W5 X5;have X34:FnOk l.prog w K mg base CX0 6 _ _ _ _:=wz W34.F T O W17 X17 W33 X33;have X35:FnOk l.prog w K mg base CX0 7 _ _ _ _:=xt W35.F T O W2 X2 W3 X3 W34 X34 W32 X32;have X36:FnOk l.prog w K mg base CX0 8 _ _ _ _:=xY W36.F T O W2 X2 W34 X34 W35 X35 W32 X32;have X37:FnOk l.prog w K mg base CX0 34 _ _ _ _:=nX W37.F T O S;exact DN Y38 T O W35 X35 W36 X36 D_Standing_spot G_Standing_spot D_Standing_box G_Standing_box D_Lying_spot G_Lying_spot D_Turned_spot G_Turned_spot W37 X37 W26 X26 W27 X27 W28 X28 W29 X29 W30 X30 W23 X23
end B
def PySem.W.Fast.tw7059932512819489928:Nat:=0
def PySem.W.Fast.tw12653880258125284092:Nat:=0
def PySem.W.Fast.tw5754734489702158365:Nat:=0
def PySem.W.Fast.tw14728106551018590429:Nat:=0
def PySem.W.Fast.tw15381711332773735258:Nat:=0
def PySem.W.Fast.tw6040208522992528257:Nat:=0
def PySem.W.Fast.tw17945716410668262137:Nat:=0
def PySem.W.Fast.tw13561712625957878147:Nat:=0
def PySem.W.Fast.tw2338135016151530309:Nat:=0
def PySem.W.Fast.tw9987824811025618334:Nat:=0
def PySem.W.Fast.tw13501081876833657808:Nat:=0
def PySem.W.Fast.tw7444618508286984812:Nat:=0
def PySem.W.Fast.tw5091191344467899268:Nat:=0
def PySem.W.Fast.tw1252779537062008748:Nat:=0
def PySem.W.Fast.tw5036308041483521839:Nat:=0
def PySem.W.Fast.tw10342081507154400185:Nat:=0
def PySem.W.Fast.tw9532662532284683422:Nat:=0
def PySem.W.Fast.tw11404476892111128305:Nat:=0
def PySem.W.Fast.tw9103430784909882490:Nat:=0
def PySem.W.Fast.tw16096947815265951213:Nat:=0
open PySem PySem.W PyProof.Rows
set_option maxRecDepth 100000 in
set_option maxHeartbeats 0 in
theorem PySem.Challenge.cw_boughdraw_k53_whole_nothing_meets_holds : PySem.Challenge.rw_boughdraw_k53_whole_nothing_meets.Holds := by
 w_on;o_law;k_head;(case hw=>w_witness2)
 k_fill
 refine L3.Fq (l:=PySem.Challenge.rw_boughdraw_k53_whole_nothing_meets) (x := "_law_script") (k:=35) (fn:=B.mD) (by decide +kernel) rfl rfl ⟨rfl,by decide,by decide⟩ (λw h Y=>PySem.W.kIn_of Y) B.xw rfl ?F
 case F =>
  intro w mg fa h KX G hmg;refine' B.all_mk KX G hmg ?ca_Standing ?ca_Lying ?ca_Turned ?Q1 ?T1 ?U1 ?V1 ?Q2 ?T2 ?U2 ?V2 ?Q3 ?T3 ?U3 ?V3 ?Q4 ?T4 ?U4 ?V4 ?Q5 ?T5 ?U5 ?V5 ?Q6 ?T6 ?U6 ?V6 ?a_Standing_spot ?i_Standing_spot ?l_Standing_spot ?c_Standing_spot ?k_Standing_spot ?a_Lying_spot ?i_Lying_spot ?l_Lying_spot ?c_Lying_spot ?k_Lying_spot ?a_Turned___init__ ?i_Turned___init__ ?l_Turned___init__ ?c_Turned___init__ ?k_Turned___init__ ?Q7 ?T7 ?U7 ?V7 ?Q8 ?T8 ?U8 ?V8 ?Q9 ?T9 ?U9 ?V9 ?Q10 ?T10 ?U10 ?V10 ?Q11 ?T11 ?U11 ?V11 ?Q12 ?T12 ?U12 ?V12 ?Q13 ?T13 ?U13 ?V13 ?Q14 ?T14 ?U14 ?V14 ?Q15 ?T15 ?U15 ?V15 ?Q16 ?T16 ?U16 ?V16 ?Q17 ?T17 ?U17 ?V17 ?Q18 ?T18 ?U18 ?V18 ?Q19 ?T19 ?U19 ?V19 ?Q20 ?T20 ?U20 ?V20 ?Q21 ?T21 ?U21 ?V21 ?Q22 ?T22 ?U22 ?V22 ?Q23 ?T23 ?U23 ?V23 ?Q24 ?T24 ?U24 ?V24 ?Q25 ?T25 ?a_25 ?U25 ?V25 ?a_Turned_spot ?i_Turned_spot ?l_Turned_spot ?c_Turned_spot ?k_Turned_spot ?Q26 ?T26 ?U26 ?V26 ?Q27 ?T27 ?U27 ?V27 ?Q28 ?T28 ?U28 ?V28 ?Q29 ?T29 ?U29 ?V29 ?Q30 ?T30 ?U30 ?V30 ?Q31 ?T31 ?U31 ?V31 ?Q32 ?T32 ?U32 ?V32 ?a_Standing_box ?i_Standing_box ?l_Standing_box ?c_Standing_box ?k_Standing_box ?Q33 ?T33 ?U33 ?V33 ?Q34 ?T34 ?U34 ?V34 ?Q35 ?T35 ?a_35 ?U35 ?V35 ?Q36 ?T36 ?a_36 ?U36 ?V36 ?Q37 ?T37 ?U37 ?V37 ?Q38 ?T38 ?U38 ?V38 ?pg_Standing ?hd_Standing ?po_Standing ?sa_Standing ?mk_Standing ?kc_Standing ?cc_Standing ?mo_Standing ?ni_Standing ?me_Standing_box ?me_Standing_spot ?q_Standing_Standing ?q_Standing_Lying ?q_Standing_Turned ?pg_Lying ?hd_Lying ?po_Lying ?sa_Lying ?mk_Lying ?kc_Lying ?cc_Lying ?mo_Lying ?ni_Lying ?me_Lying_box ?me_Lying_spot ?q_Lying_Standing ?q_Lying_Lying ?q_Lying_Turned ?pg_Turned ?hd_Turned ?po_Turned ?sa_Turned ?mk_Turned ?kc_Turned ?cc_Turned ?mo_Turned ?na_Turned_turn ?me_Turned_box ?me_Turned_spot ?q_Turned_Standing ?q_Turned_Lying ?q_Turned_Turned ?gg ?gt ?z0 ?z1 ?z2 ?z3 ?z4 ?z5 ?z6 ?z7 ?z8 ?z9 ?z10 ?g_QUARTERS ?g_SHREDS
  case ca_Standing|ca_Lying|ca_Turned|Q1|T1|U1|V1|Q2|T2|U2|V2|Q3|T3|U3|V3|Q4|T4|U4|V4|Q5|T5|U5|V5|Q6|T6|U6|V6|a_Standing_spot|i_Standing_spot|l_Standing_spot|c_Standing_spot|k_Standing_spot|a_Lying_spot|i_Lying_spot|l_Lying_spot|c_Lying_spot|k_Lying_spot|a_Turned___init__|i_Turned___init__|l_Turned___init__|c_Turned___init__|k_Turned___init__|Q7|T7|U7|V7|Q8|T8|U8|V8|Q9|T9|U9|V9|Q10|T10|U10|V10|Q11|T11|U11|V11|Q12|T12|U12|V12|Q13|T13|U13|V13|Q14|T14|U14|V14|Q15|T15|U15|V15|Q16|T16|U16|V16|Q17|T17|U17|V17|Q18|T18|U18|V18|Q19|T19|U19|V19|Q20|T20|U20|V20|Q21|T21|U21|V21|Q22|T22|U22|V22|Q23|T23|U23|V23|Q24|T24|U24|V24|Q25|T25|a_25|U25|V25|a_Turned_spot|i_Turned_spot|l_Turned_spot|c_Turned_spot|k_Turned_spot|Q26|T26|U26|V26|Q27|T27|U27|V27|Q28|T28|U28|V28|Q29|T29|U29|V29|Q30|T30|U30|V30|Q31|T31|U31|V31|Q32|T32|U32|V32|a_Standing_box|i_Standing_box|l_Standing_box|c_Standing_box|k_Standing_box|Q33|T33|U33|V33|Q34|T34|U34|V34|Q35|T35|a_35|U35|V35|Q36|T36|a_36|U36|V36|Q37|T37|U37|V37|Q38|T38|U38|V38|z0|z1|z2|z3|z4|z5|z6|z7|z8|z9|z10|g_QUARTERS|g_SHREDS=>k_is
  (case pg_Standing=>first | k_is | kernel_rfl)
  (case hd_Standing=>first | k_is | kernel_rfl)
  (case po_Standing=>first | k_is | kernel_rfl)
  (case sa_Standing=>first | k_is | kernel_rfl)
  (case mk_Standing=>first | k_is | kernel_rfl)
  (case kc_Standing=>first | k_is | kernel_rfl)
  (case cc_Standing=>first | k_is | kernel_rfl)
  (case mo_Standing=>first | k_is | kernel_rfl)
  (case ni_Standing=>first | k_is | kernel_rfl)
  (case me_Standing_box=>first | k_is | kernel_rfl)
  (case me_Standing_spot=>first | k_is | kernel_rfl)
  (case q_Standing_Standing=>first | k_is | kernel_rfl)
  (case q_Standing_Lying=>first | k_is | kernel_rfl)
  (case q_Standing_Turned=>first | k_is | kernel_rfl)
  (case pg_Lying=>first | k_is | kernel_rfl)
  (case hd_Lying=>first | k_is | kernel_rfl)
  (case po_Lying=>first | k_is | kernel_rfl)
  (case sa_Lying=>first | k_is | kernel_rfl)
  (case mk_Lying=>first | k_is | kernel_rfl)
  (case kc_Lying=>first | k_is | kernel_rfl)
  (case cc_Lying=>first | k_is | kernel_rfl)
  (case mo_Lying=>first | k_is | kernel_rfl)
  (case ni_Lying=>first | k_is | kernel_rfl)
  (case me_Lying_box=>first | k_is | kernel_rfl)
  (case me_Lying_spot=>first | k_is | kernel_rfl)
  (case q_Lying_Standing=>first | k_is | kernel_rfl)
  (case q_Lying_Lying=>first | k_is | kernel_rfl)
  (case q_Lying_Turned=>first | k_is | kernel_rfl)
  (case pg_Turned=>first | k_is | kernel_rfl)
  (case hd_Turned=>first | k_is | kernel_rfl)
  (case po_Turned=>first | k_is | kernel_rfl)
  (case sa_Turned=>first | k_is | kernel_rfl)
  (case mk_Turned=>first | k_is | kernel_rfl)
  (case kc_Turned=>first | k_is | kernel_rfl)
  (case cc_Turned=>first | k_is | kernel_rfl)
  (case mo_Turned=>first | k_is | kernel_rfl)
  (case na_Turned_turn=>first | k_is | kernel_rfl)
  (case me_Turned_box=>first | k_is | kernel_rfl)
  (case me_Turned_spot=>first | k_is | kernel_rfl)
  (case q_Turned_Standing=>first | k_is | kernel_rfl)
  (case q_Turned_Lying=>first | k_is | kernel_rfl)
  (case q_Turned_Turned=>first | k_is | kernel_rfl)
  (case gg=>first | k_is | kernel_rfl)
  (case gt=>first | k_is | kernel_rfl)
