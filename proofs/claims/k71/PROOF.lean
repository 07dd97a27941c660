import PyProof.Rows.All
import Wide.All
import OpenK.AllK
import Wide.FinOn
import Lean
import PyProof.EqAt
import PyProof.EqKinds
import PyProof.TupleCall
import KE.KDictList
import PySem.Challenge.RW_boughdraw_k71_folds
set_option Elab.async false
set_option linter.all false
set_option compiler.extract_closed false
set_option maxRecDepth 100000
def Za:=@List.getElem?_map
def Zb:=@List.getElem?_eq_some_iff
def Zc:=@List.length_map
def Zd:=@List.length_append
def Ze:=@List.mem_cons_of_mem
def Zf:=@List.mem_cons_self
def Zg:=@List.getElem?_eq_getElem
def Zh:=@List.length_range
def Zi:=@List.map_map
def Zk:=@List.map_cons
def Zl:=@List.map_append
def Zm:=@Bool.false_ne_true
def Zn:=@Nat.le_refl
def Zo:=@List.mem_cons
def Zp:=@Option.map_eq_some_iff
def Zq:=@List.mem_append_right
def Zr:=@List.length_cons
def Zs:=@List.mem_append
def Zt:=@List.map_congr_left
def Zu:=@List.getElem?_eq_none
def Zv:=@Bool.and_eq_true
def Zw:=@List.mem_append_left
def Zx:=@List.append_nil
def Zy:=@List.getElem?_range
def Zz:=@Option.some.inj
def ZA:=@List.size_toArray
def ZB:=@List.mem_of_getElem?
def ZC:=@List.mem_map
def ZD:=@List.append_assoc
def ZE:=@List.length_take
def ZF:=@List.length_drop
def ZG:=@Nat.le_trans
def ZH:=@List.mem_range
def ZI:=@Nat.lt_of_lt_of_le
def ZJ:=@List.length_set
def ZK:=@List.nodup_append
namespace L2
open PySem PySem.Spec PyProof.Rows
noncomputable abbrev Key:=Sum Int Str
noncomputable def my:Key->Value->Bool
 |.inl k,v=>Value.isInt k v
 |.inr x,v=>Value.isStrOf x v
noncomputable def Jm (w:World):Key->Int
 |.inl k=>hashInt k
 |.inr x=>hashStr w x
theorem cU:∀{k:Key} {v:Value},my k v=true->(∃i t,k=Sum.inl i/\v=Value.int i t)\/(∃x t,k=Sum.inr x/\v=Value.str x t)
 |.inl i,v,h=>by
  obtain ⟨t,e⟩:=Value.isInt_shape (k:=i) (v:=v) h;exact .inl ⟨i,t,rfl,e⟩
 |.inr x,v,h=>by
  obtain ⟨t,e⟩:=Value.isStrOf_shape (x:=x) (v:=v) h;exact .inr ⟨x,t,rfl,e⟩
theorem vz (i:Int) (t:Tok):my (.inl i) (.int i t)=true:=by simp [my,Value.isInt]
theorem uR (x:Str) (t:Tok):my (.inr x) (.str x t)=true:=by simp [my,Value.isStrOf]
theorem Dp (a b:Int):decide ((Sum.inl a:Key)=Sum.inl b)=(a == b):=by
 by_cases e:a=b
 ·subst e;simp
 ·have h:¬(Sum.inl a:Key)=Sum.inl b:=λq=>e (Sum.inl.inj q)
  rw [decide_eq_false h];exact (beq_eq_false_iff_ne.mpr e).symm
theorem DR (a b:Str):decide ((Sum.inr a:Key)=Sum.inr b)=decide (a=b):=by
 by_cases e:a=b
 ·subst e;simp
 ·have h:¬(Sum.inr a:Key)=Sum.inr b:=λq=>e (Sum.inr.inj q)
  rw [decide_eq_false h,decide_eq_false e]
theorem C2 (a:Int) (b:Str):decide ((Sum.inl a:Key)=Sum.inr b)=false:=decide_eq_false (λq=>nomatch q)
theorem Cp (a:Str) (b:Int):decide ((Sum.inr a:Key)=Sum.inl b)=false:=decide_eq_false (λq=>nomatch q)
noncomputable def cT (prog:Program) (w:World):PySem.KeyKind prog w Key where
 is:=my
 hash:=Jm w
 inj:=λv a b ha hb=>by
  rcases cU ha with ⟨i,t,rfl,rfl⟩ | ⟨x,t,rfl,rfl⟩
  ·rcases cU hb with ⟨j,u,rfl,e⟩ | ⟨y,u,rfl,e⟩
   ·injection e with e1 _;rw [e1]
   ·exact nomatch e
  ·rcases cU hb with ⟨j,u,rfl,e⟩ | ⟨y,u,rfl,e⟩
   ·exact nomatch e
   ·injection e with e1 _;rw [e1]
 byValue:=λk v h=>by
  rcases cU h with ⟨i,t,rfl,rfl⟩ | ⟨x,t,rfl,rfl⟩ <;> rfl
 pyHash:=λhv h=>by
  rcases cU hv with ⟨i,t,rfl,rfl⟩ | ⟨x,t,rfl,rfl⟩
  ·exact wpAny_pyHash_int h
  ·exact wpAny_pyHash_str h
 eqBool:=λhu hv h=>by
  rcases cU hu with ⟨i,t,rfl,rfl⟩ | ⟨x,t,rfl,rfl⟩
  ·rcases cU hv with ⟨j,u,rfl,rfl⟩ | ⟨y,u,rfl,rfl⟩
   ·rw [Dp]at h;exact wpAny_eqBool_int h
   ·rw [C2]at h;exact SeqAt.EqAt.int_str i t y u _ _ _ _ h
  ·rcases cU hv with ⟨j,u,rfl,rfl⟩ | ⟨y,u,rfl,rfl⟩
   ·rw [Cp]at h;exact SeqAt.EqAt.str_int x t j u _ _ _ _ h
   ·rw [DR]at h;exact wpAny_eqBool_str h
 «strs»:=λk x t v h=>by
  rcases cU h with ⟨i,u,rfl,e⟩ | ⟨y,u,rfl,e⟩
  ·exact nomatch e
  ·injection e with e1 _
   subst e1;cases v <;> rfl
theorem qY (prog:Program) (w:World) (i:Int) (t:Tok):(cT prog w).is (.inl i) (.int i t)=true:=vz i t
theorem rF (prog:Program) (w:World) (x:Str) (t:Tok):(cT prog w).is (.inr x) (.str x t)=true:=uR x t
inductive V where
 |non | bl (b:Bool) | int (i:Int) | str (x:Str) | byt (b:Array UInt8) | flt (b:UInt64) | ref (a:Addr) | ty (n:String)
 deriving DecidableEq
noncomputable def RelV:V->Value->Prop
 |.non,u=>u=Value.none
 |.bl b,u=>u=Value.bool b
 |.int i,u=>∃t,u=Value.int i t
 |.str x,u=>∃t,u=Value.str x t
 |.byt b,u=>∃t,u=Value.bytes b t
 |.flt b,u=>∃t,u=Value.float b t
 |.ref a,u=>u=Value.ref a
 |.ty n,u=>u=Value.type n
noncomputable abbrev Vals:List V->List Value->Prop:=Paired RelV
theorem Vals.length {xs:List V} {us:List Value} (r:Vals xs us):xs.length=us.length:=Paired.length r
theorem Vals.get:∀{xs:List V} {us:List Value} {i:Nat} {x:V},Vals xs us->xs[i]?=some x->∃u,us[i]?=some u/\RelV x u
 |_,_,_,_,.nil,e=>by simp at e
 |_,_,0,_,.cons r _,e=>by simp at e;subst e;exact ⟨_,rfl,r⟩
 |_,_,i+1,x,.cons _ t,e=>by
  obtain ⟨u,h1,h2⟩:=Vals.get (i:=i) (x:=x) t (by simpa using e)
  exact ⟨u,by simpa using h1,h2⟩
theorem Vals.set {x:V} {u:Value} (r:RelV x u):∀{xs:List V} {us:List Value} (i:Nat),Vals xs us->Vals (xs.set i x) (us.set i u)
 |_,_,_,.nil=>.nil
 |_,_,0,.cons _ t=>.cons r t
 |_,_,i+1,.cons q t=>.cons q (Vals.set r i t)
theorem Vals.append:∀{xs ys:List V} {us ws:List Value},Vals xs us->Vals ys ws->Vals (xs++ys) (us++ws)
 |_,_,_,_,.nil,s=>s
 |_,_,_,_,.cons r t,s=>.cons r (Vals.append t s)
theorem Vals.take:∀{xs:List V} {us:List Value} (n:Nat),Vals xs us->Vals (xs.take n) (us.take n)
 |_,_,0,_=>.nil
 |_,_,_+1,.nil=>.nil
 |_,_,n+1,.cons r t=>.cons r (Vals.take n t)
theorem Vals.drop:∀{xs:List V} {us:List Value} (n:Nat),Vals xs us->Vals (xs.drop n) (us.drop n)
 |_,_,0,r=>r
 |_,_,_+1,.nil=>.nil
 |_,_,n+1,.cons _ t=>Vals.drop n t
noncomputable def jx:Option V->Option Value->Prop
 |some v,some u=>RelV v u
 |none,none=>True
 |_,_=>False
noncomputable def KV {κ:Type}:List (κ×V)->List (κ×Value)->Prop:=Paired λ(p:κ×V) (q:κ×Value)=>p.1=q.1/\RelV p.2 q.2
noncomputable def kV:Key->V
 |.inl i=>.int i
 |.inr x=>.str x
inductive HO where
 |lst (xs:List V)
 |tup (xs:List V)
 |dK (kvs:List (Key×V)) | dT (kvs:List (List Key×V))
 |set (S:Int->Bool) (n:Nat)
 |ins (C dx:Addr) (fs:List (Str×V))
 |own (x:Addr)
 |xd (fs:List (Str×V))
 |met (f x:Addr)
 |rng (lo hi:Int)
 |frz (o:Obj) (u:HO)
 |tbl (ps:Array Value)
 |ext (φ:Heap->Prop)
noncomputable abbrev Hp:=Addr->Option HO
noncomputable def upd (H:Hp) (a:Addr) (o:HO):Hp:=λb=>if b=a then some o else H b
theorem aZ {H:Hp} {a:Addr} {o:HO}:upd H a o a=some o:=by unfold upd;rw [if_pos rfl]
theorem az {H:Hp} {a b:Addr} {o:HO} (h:b≠a):upd H a o b=H b:=by unfold upd;rw [if_neg h]
theorem FZ {H:Hp} {a b:Addr} {o u:HO} (h:H a=some o) (h':H b=some u) (d:o≠u):a≠b:=by
 intro e;subst e;rw [h]at h';exact d (Zz h')
theorem aU {H:Hp} {a b:Addr} {o:HO} (h:H a=some o) (h':H b=none):a≠b:=by
 intro e;subst e;rw [h]at h';cases h'
section
variable (P:Program) (w:World)
noncomputable def c9 (H:Hp) (h:Heap) (a:Addr):HO->Prop
 |.lst xs=>xs.length<=sizeLine/\∃(its:List Value) (n:Nat),Vals xs its/\h.get? a=some { cls:=.type "list",data:=.seq its.toArray n }
 |.tup xs=>xs.length<=sizeLine/\∃its:List Value,Vals xs its/\IsTup h a its.toArray
 |.dK kvs=>kvs.length<=sizeLine/\(a == sysModules)=false/\∃vs,KV kvs vs/\h.DictOf (cT P w) a vs
 |.dT kvs=>kvs.length<=sizeLine/\(a == sysModules)=false/\∃xs:List (List Key×Addr×Value),
   Paired (λ(p:List Key×V) (q:List Key×Addr×Value)=>p.1=q.1/\H q.2.1=some (.tup (p.1.map kV))/\RelV p.2 q.2.2) kvs xs /\
   ∃o es ep,h.get? a=some o/\o.ExactDict/\o.data=.dict es ep/\es.toList=xs.map (entryOfKey (tupleKind (cT P w)))/\(xs.map (·.1)).Nodup
 |.set S n=>h.SetOf (intKind P w) a S n
 |.ins C dx fs=>H dx=some (.own a)/\fs.length<=1000/\dx≠a/\h.get? a=some (PySem.W.instObj C dx) /\
   ∃mA,h.Ns1 dx mA/\(∀f,jx (fs.lookup f) (mA f))/\PySem.Within mA (fs.map (·.1))
 |.own _=>∃o,h.get? a=some o
 |.xd fs=>∃mA,h.Ns1 a mA/\∀f,jx (fs.lookup f) (mA f)
 |.rng lo hi=>∃t u v,h.get? a=some { cls:=.type "range",data:=.fields #[.int lo t,.int hi u,.int 1 v] }
 |.frz o u=>h.get? a=some o/\c9 H h a u
 |.tbl ps=>h.get? a=some { cls:=.none,data:=.fields ps }
 |.met f x=>h.get? a=some (PySem.W.methodObj (.ref f) (.ref x))
 |.ext φ=>φ h/\(∃o,h.get? a=some o)/\∀h1 h2:Heap,φ h1->(∀o,h1.get? a=some o->h2.get? a=some o)->φ h2
noncomputable def HOk (H:Hp) (h:Heap):Prop:=∀a o,H a=some o->c9 P w H h a o
end
section
variable {P:Program} {w:World} {H H':Hp} {h h':Heap} {a:Addr} {o:HO}
theorem c9.lt (x:c9 P w H h a o):a<h.objs.size:=by
 cases o with
 |lst xs=>obtain ⟨_,_,_,_,e⟩:=x;exact Heap.lt_size e
 |tup xs=>obtain ⟨_,_,_,p⟩:=x;exact p.lt
 |dK kvs=>obtain ⟨_,_,_,_,o,_,_,e,_⟩:=x;exact Heap.lt_size e
 |dT kvs=>obtain ⟨_,_,_,_,o,_,_,e,_⟩:=x;exact Heap.lt_size e
 |set S n=>obtain ⟨o,_,_,_,e,_⟩:=x;exact Heap.lt_size e
 |ins C dx fs=>obtain ⟨_,_,_,e,_⟩:=x;exact Heap.lt_size e
 |own y=>obtain ⟨_,e⟩:=x;exact Heap.lt_size e
 |xd fs=>obtain ⟨_,⟨_,_,_,e,_⟩,_⟩:=x;exact Heap.lt_size e
 |rng lo hi=>obtain ⟨_,_,_,e⟩:=x;exact Heap.lt_size e
 |frz ob u=>obtain ⟨e,_⟩:=x;exact Heap.lt_size e
 |tbl ps=>exact Heap.lt_size (show h.get? a=some _ from x)
 |met f y=>exact Heap.lt_size (show h.get? a=some _ from x)
 |ext φ=>obtain ⟨_,⟨_,e⟩,_⟩:=x;exact Heap.lt_size e
theorem Paired.mapP {α β:Type} {F G:α->β->Prop}:∀{l₁:List α} {l₂:List β},Paired F l₁ l₂->(∀a b,F a b->G a b)->Paired G l₁ l₂
 |_,_,.nil,_=>.nil
 |_,_,.cons r t,f=>.cons (f _ _ r) (Paired.mapP t f)
theorem c9.stay (x:c9 P w H h a o) (k:∀b u,(b=a\/H b=some (.own a))->h.get? b=some u->h'.get? b=some u)
  (ho:∀b,H b=some (.own a)->H' b=some (.own a)) (ht:∀b xs,H b=some (.tup xs)->H' b=some (.tup xs)):c9 P w H' h' a o:=by
 induction o with
 |lst xs=>obtain ⟨z,its,n,r,e⟩:=x;exact ⟨z,its,n,r,k _ _ (.inl rfl) e⟩
 |tup xs=>obtain ⟨z,its,r,ob,e,c⟩:=x;exact ⟨z,its,r,ob,k _ _ (.inl rfl) e,c⟩
 |dK kvs=>obtain ⟨z,y,vs,r,ob,es,ep,e,c⟩:=x;exact ⟨z,y,vs,r,ob,es,ep,k _ _ (.inl rfl) e,c⟩
 |dT kvs =>
  obtain ⟨z,y,xs,r,ob,es,ep,e,c⟩:=x;exact ⟨z,y,xs,Paired.mapP r λp q z=>⟨z.1,ht _ _ z.2.1,z.2.2⟩,ob,es,ep,k _ _ (.inl rfl) e,c⟩
 |set S n=>obtain ⟨ob,es,ep,t,e,c⟩:=x;exact ⟨ob,es,ep,t,k _ _ (.inl rfl) e,c⟩
 |ins C dx fs =>
  obtain ⟨d,z,ne,e,mA,⟨od,es,ep,e2,c⟩,r⟩:=x;exact ⟨ho _ d,z,ne,k _ _ (.inl rfl) e,mA,⟨od,es,ep,k _ _ (.inr d) e2,c⟩,r⟩
 |own y=>obtain ⟨ob,e⟩:=x;exact ⟨ob,k _ _ (.inl rfl) e⟩
 |xd fs=>obtain ⟨mA,⟨od,es,ep,e,c⟩,r⟩:=x;exact ⟨mA,⟨od,es,ep,k _ _ (.inl rfl) e,c⟩,r⟩
 |rng lo hi=>obtain ⟨t,u,v,e⟩:=x;exact ⟨t,u,v,k _ _ (.inl rfl) e⟩
 |frz ob u ih=>obtain ⟨e,q⟩:=x;exact ⟨k _ _ (.inl rfl) e,ih q⟩
 |tbl ps =>
  have e:h.get? a=some { cls:=.none,data:=.fields ps }:=x;show h'.get? a=some { cls:=.none,data:=.fields ps }
  exact k a _ (.inl rfl) e
 |met f y =>
  have e:h.get? a=some (PySem.W.methodObj (.ref f) (.ref y)):=x;show h'.get? a=some (PySem.W.methodObj (.ref f) (.ref y))
  exact k a _ (.inl rfl) e
 |ext φ=>obtain ⟨p,⟨o,e⟩,st⟩:=x;exact ⟨st _ _ p λo q=>k _ _ (.inl rfl) q,⟨o,k _ _ (.inl rfl) e⟩,st⟩
theorem HOk.lt (x:HOk P w H h) (e:H a=some o):a<h.objs.size:=(x a o e).lt
theorem HOk.fresh (x:HOk P w H h) (e:h.objs.size<=a):H a=none:=by
 cases q:H a with
 |none=>rfl
 |some u=>exact absurd (ZI (x.lt q) e) (Nat.lt_irrefl _)
theorem HOk.kept (x:HOk P w H h) (k:∀b u,h.get? b=some u->h'.get? b=some u):HOk P w H h':=λa o e =>
 (x a o e).stay (λb u _ q=>k b u q) (λ_ q=>q) λ_ _ q=>q
theorem HOk.laid (x:HOk P w H h) (k:∀b u,h.get? b=some u->h'.get? b=some u) (hp:h.objs.size<=a) (new:c9 P w (upd H a o) h' a o):HOk P w (upd H a o) h':=λb u e=>by
 have hn:=x.fresh hp;by_cases hb:b=a
 ·subst hb;rw [aZ]at e;cases e;exact new
 ·rw [az hb]at e
  exact (x b u e).stay (λc v _ q=>k c v q) (λc q=>by rw [az (aU q hn)];exact q) λc xs q=>by rw [az (aU q hn)];exact q
end
noncomputable def Rd (H:Hp) (a:Addr) (u:HO):Prop:=H a=some u\/∃o,H a=some (.frz o u)
theorem Rd.ok {P:Program} {w:World} {H:Hp} {h:Heap} {a:Addr} {u:HO} (r:Rd H a u) (x:HOk P w H h):c9 P w H h a u:=by
 rcases r with r | ⟨o,r⟩
 ·exact x a u r
 ·obtain ⟨_,q⟩:=x a _ r
  exact q
noncomputable def Mut:Option HO->Prop
 |some (.lst _)=>True
 |some (.dK _)=>True
 |some (.dT _)=>True
 |some (.set _ _)=>True
 |some (.ins _ _ _)=>True
 |some (.ext _)=>True
 |_=>False
section
variable {P:Program} {w:World} {H:Hp} {h h':Heap} {x e:Addr} {o':HO}
theorem HOk.write (ok:HOk P w H h) (mu:Mut (H x)) (he:e=x\/H e=some (.own x)) (k:∀b u,b≠e->h.get? b=some u->h'.get? b=some u) (heo:∃u,h'.get? e=some u)
  (new:c9 P w (upd H x o') h' x o'):HOk P w (upd H x o') h':=λb u q=>by
 have nown:∀c y,H c=some (.own y)->c≠x:=λc y r z=>by subst z;rw [r]at mu;exact mu
 have ntup:∀c xs,H c=some (.tup xs)->c≠x:=λc xs r z=>by subst z;rw [r]at mu;exact mu
 by_cases hb:b=x
 ·subst hb;rw [aZ]at q;cases q;exact new
 ·rw [az hb]at q
  by_cases hbe:b=e
  ·have q':H b=some (.own x):=by
    rcases he with z | z
    ·exact absurd (hbe.trans z) hb
    ·rw [hbe];exact z
   rw [q]at q';cases q';obtain ⟨v,hv⟩:=heo;exact ⟨v,by rw [hbe];exact hv⟩
  ·refine (ok b u q).stay (λc v hc r=>k c v ?_ r) (λc r=>by rw [az (nown c b r)];exact r) λc xs r=>by rw [az (ntup c xs r)];exact r
   rcases hc with rfl | hc
   ·exact hbe
   ·rintro rfl
    rcases he with z | z
    ·exact nown c b hc z
    ·rw [hc]at z;cases z;exact hb rfl
end
structure Un (fs ex:List Addr) (H H':Hp) (h h':Heap):Prop where
 keep:∀b o,h.get? b=some o->H b=none->b∉fs->b∉ex->h'.get? b=some o
 slot:∀b o,h.get? b=some o->H b=none->b∈fs->b∉ex->∃sl,h'.get? b=some { o with slots:=sl }
 free:∀b o,h.get? b=some o->H b=none->b∉ex->H' b=none
 there:∀b o,h.get? b=some o->b∉ex->∃o',h'.get? b=some o'
 tups:∀b xs,H b=some (.tup xs)->H' b=some (.tup xs)
 frzs:∀b o u,H b=some (.frz o u)->H' b=some (.frz o u)
 tbls:∀b ps,H b=some (.tbl ps)->∃more,H' b=some (.tbl (ps++more))
section
variable {fs fs' ex ex':List Addr} {H H1 H2:Hp} {h h1 h2 h':Heap} {a x e:Addr} {o:HO}
theorem Un.any (u:Un fs ex H H1 h h1) {b:Addr} {ob:Obj} (q:h.get? b=some ob) (n:H b=none) (hx:b∉ex):∃sl,h1.get? b=some { ob with slots:=sl }:=by
 by_cases hb:b∈fs
 ·exact u.slot b ob q n hb hx
 ·exact ⟨ob.slots,u.keep b ob q n hb hx⟩
theorem Un.kept (k:∀b u,h.get? b=some u->h'.get? b=some u):Un fs ex H H h h' :=
 ⟨λb ob q _ _ _=>k b ob q,λb ob q _ _ _=>⟨ob.slots,k b ob q⟩,λ_ _ _ n _=>n,λb ob q _=>⟨ob,k b ob q⟩,λ_ _ q=>q,λ_ _ _ q=>q,λ_ ps q=>⟨#[],by rw [q];simp⟩⟩
theorem Un.refl:Un fs ex H H h h:=Un.kept λ_ _ q=>q
theorem Un.laid (k:∀b u,h.get? b=some u->h'.get? b=some u) (hp:h.objs.size<=a) (hn:H a=none):Un fs ex H (upd H a o) h h' where
 keep:=λb u q _ _ _=>k b u q
 slot:=λb u q _ _ _=>⟨u.slots,k b u q⟩
 free:=λb u q n _=>by rw [az (Nat.ne_of_lt (ZI (Heap.lt_size q) hp))];exact n
 there:=λb u q _=>⟨u,k b u q⟩
 tups:=λb xs q=>by rw [az (aU q hn)];exact q
 frzs:=λb u xs q=>by rw [az (aU q hn)];exact q
 tbls:=λb ps q=>⟨#[],by rw [az (aU q hn),q];simp⟩
theorem Un.write (mu:Mut (H x)) (he:e=x\/H e=some (.own x)) (k:∀b u,b≠e->h.get? b=some u->h'.get? b=some u) (heo:∃u,h'.get? e=some u):Un fs ex H (upd H x o) h h':=by
 have hx:∀b,H b=none->b≠x:=λb n z=>by subst z;rw [n]at mu;exact mu
 have hb:∀b,H b=none->b≠e:=λb n z=>by
  subst z;rcases he with r | r
  ·exact hx b n r
  ·rw [n]at r;cases r
 have hm:∀b u,H b=some u->¬Mut (some u)->b≠x:=λb u q nm z=>by subst z;rw [q]at mu;exact nm mu
 refine ⟨λb u q n _ _=>k b u (hb b n) q,λb u q n _ _=>⟨u.slots,k b u (hb b n) q⟩,λb u q n _=>by rw [az (hx b n)];exact n,λb u q _=>?_,
  λb xs q=>by rw [az (hm b _ q λz=>z)];exact q,λb u xs q=>by rw [az (hm b _ q λz=>z)];exact q,λb ps q=>⟨#[],by rw [az (hm b _ q λz=>z),q];simp⟩⟩
 by_cases hbe:b=e
 ·subst hbe;exact heo
 ·exact ⟨u,k b u hbe q⟩
end
noncomputable def trk (h:Heap) (H:Hp):List Addr:=(List.range h.objs.size).filter λa=>(H a).isSome
noncomputable def kI (h:Heap) (H:Hp):Heap:=PySem.W.hideAll h (trk h H)
theorem oZ (h:Heap) (H:Hp):(kI h H).objs.size=h.objs.size:=PySem.W.hideAll_size _ _
theorem qS {h:Heap} {H:Hp} {b:Addr} {o:Obj} (e:h.get? b=some o) (n:H b=none):(kI h H).get? b=some o :=
 PySem.W.hideAll_get _ e λhm=>by
  have q:(H b).isSome=true:=(List.mem_filter.mp hm).2;rw [n]at q;simp at q
theorem um {h:Heap} {H:Hp} {b:Addr} {o:Obj} (e:(kI h H).get? b=some o):h.get? b=some o/\H b=none:=by
 have e':h.get? b=some o:=PySem.W.of_hideAll (trk h H) e;refine ⟨e',?_⟩;cases q:H b with
 |none=>rfl
 |some x =>
  have hm:b∈trk h H:=List.mem_filter.mpr ⟨ZH.mpr (Heap.lt_size e'),by simp [q]⟩
  have z:(kI h H).get? b=none:=PySem.W.hideAll_none (trk h H) hm;rw [z]at e;cases e
noncomputable def zq (g h:Heap) (L:Addr):List (Addr×Obj):=(List.range h.objs.size).filterMap λa=>if a=L\/(g.get? a).isSome=true then none else (h.get? a).map λo=>(a,o)
noncomputable def rest (g h:Heap) (L d:Addr):List (Addr×Obj):=(zq g h L).filter λp=>decide (p.1≠d)
structure Mod (K:PySem.W.Frag) (mg:Str->Option Value) (base:Heap):Prop where
 kin:K.In base
 glob:base.Ns mainGlobals mg
 blt:∃mb,base.Ns builtinsNs mb/\∀x:Str,x ≠ "__name__" -> mb x=bootBuiltins x
 nolimit:base.NoLimit
structure Cx where
 prog:Program
 w:World
 K:PySem.W.Frag
 mg:Str->Option Value
 base:Heap
 A:Around
 N:List Str
 s₀:Shared
 H₀:Hp
 env:Env
 outer:List Env
 stack:List Env
 ex:List Addr
 fn:Str->Bool
 calm:Bool
 pn:List (Addr×Obj)
 xe:Value->Shared->Prop
noncomputable def frs (l:List Env):List Addr:=l.filterMap (·.frame)
noncomputable abbrev Cx.fs (X:Cx):List Addr:=frs X.outer
noncomputable def Vis (sc:Scope) (x:Str):Prop:=sc.names.lookup x=some .local\/sc.names.lookup x=some .cell\/sc.names.lookup x=some .free
noncomputable def Loc (sc:Scope) (x:Str):Prop:=sc.names.lookup x=some .local\/sc.names.lookup x=some .cell
noncomputable def Look (env:Env) (h:Heap) (m:Str->Option Value) (x:Str) (u:Value):Prop :=
 (env.kindOf x=some .local/\m x=some u)\/((env.kindOf x=some .cell\/env.kindOf x=some .free)/\∃c,env.cells.lookup x=some c/\h.IsCell c (some u))
structure Cx.Ok (X:Cx):Prop where
 mod:Mod X.K X.mg X.base
 kind:X.env.scope.kind=.function
 glob:X.env.globals=mainGlobals
 blt:X.env.builtins=builtinsNs
 above:X.s₀.heap.objs.size<=X.env.locals
 inj:∀x y c,X.env.cells.lookup x=some c->X.env.cells.lookup y=some c->x=y
 has:∀x,(X.env.kindOf x=some .cell\/X.env.kindOf x=some .free)->∃c,X.env.cells.lookup x=some c
 cab:∀x c,X.fn x=true->X.env.cells.lookup x=some c->X.s₀.heap.objs.size<=c
 hd:X.calm=true->X.A.handled=none
 frames:X.A.frames=some X.stack
 stk:X.stack=X.outer\/(X.stack=X.env :: X.outer/\X.env.frame=some X.env.locals)
 exf:∀b∈X.ex,b≠X.env.locals/\∀x c,X.env.cells.lookup x=some c->c≠b
 bs:∀b o,X.base.get? b=some o->X.s₀.heap.get? b=some o/\X.H₀ b=none
 bsz:X.base.objs.size<=X.s₀.heap.objs.size
 noex:∀b o,X.base.get? b=some o->b∉X.ex
 exfs:∀b∈X.ex,b∉X.fs
 funs:X.s₀.heap.FunFrames X.base X.outer
 frf:∀b∈X.fs,X.H₀ b=none
structure Inv (X:Cx) (pins:List (Addr×Obj)) (σ:List (Option V)) (H:Hp) (s:Shared):Prop where
 ok:X.Ok
 os:s.os=X.s₀.os
 bare:AllBare s.gens
 base:Un X.fs X.ex X.H₀ H X.s₀.heap s.heap
 loc:∃m,s.heap.Ns X.env.locals m/\∀(i:Nat) (x:Str) (v:V),X.N[i]?=some x->σ[i]?=some (some v)->Vis X.env.scope x->∃u,RelV v u/\Look X.env s.heap m x u
 cell:∀x c,X.env.cells.lookup x=some c->∃v,s.heap.IsCell c v
 free:H X.env.locals=none
 freeC:∀x c,X.env.cells.lookup x=some c->H c=none
 pin:∀p∈X.pn++pins,s.heap.get? p.1=some p.2/\H p.1=none/\p.1≠X.env.locals/\p.1∉X.fs/\∀v,p.2.data≠.cell v
 hok:HOk X.prog X.w H s.heap
 len:σ.length=X.N.length
section
variable {X:Cx} {pins:List (Addr×Obj)} {σ:List (Option V)} {H H':Hp} {s:Shared} {h':Heap}
theorem Cx.Ok.nofr (ok:X.Ok) {b:Addr} {o:Obj} (e:X.base.get? b=some o):b∉X.fs:=λhb=>by
 have:=(ok.funs.mem hb).1;rw [e]at this;cases this
theorem Inv.bs (I:Inv X pins σ H s):∀b o,X.base.get? b=some o->s.heap.get? b=some o/\H b=none:=λb o e =>
 ⟨I.base.keep b o (I.ok.bs b o e).1 (I.ok.bs b o e).2 (I.ok.nofr e) (I.ok.noex b o e),I.base.free b o (I.ok.bs b o e).1 (I.ok.bs b o e).2 (I.ok.noex b o e)⟩
theorem Inv.bk (I:Inv X pins σ H s):∀b o,X.base.get? b=some o->s.heap.get? b=some o:=λb o e=>(I.bs b o e).1
theorem Inv.mod (I:Inv X pins σ H s):Mod X.K X.mg X.base:=I.ok.mod
theorem Inv.kIn (I:Inv X pins σ H s):X.K.In s.heap:=I.ok.mod.kin.keeps I.bk
theorem Inv.fr (I:Inv X pins σ H s):∃m,Fr X.base X.env.locals s.heap m :=
 let ⟨m,hn,_⟩:=I.loc
 ⟨m,hn,I.bk,ZG I.ok.bsz I.ok.above⟩
theorem Inv.lt (I:Inv X pins σ H s):X.env.locals<s.heap.objs.size:=let ⟨_,hn,_⟩:=I.loc;hn.lt
theorem Inv.sz (I:Inv X pins σ H s):X.s₀.heap.objs.size<=s.heap.objs.size:=ZG I.ok.above (Nat.le_of_lt I.lt)
theorem Inv.nofs (I:Inv X pins σ H s) {a:Addr} (h:s.heap.objs.size<=a):a∉X.fs:=λhb=>by
 obtain ⟨_,o,ho,_⟩:=I.ok.funs.mem hb;exact absurd (ZI (Heap.lt_size ho) (ZG I.sz h)) (Nat.lt_irrefl _)
theorem Inv.cne (I:Inv X pins σ H s):∀x c,X.env.cells.lookup x=some c->c≠X.env.locals:=λx c e z=>by
 obtain ⟨v,o,ho,hd⟩:=I.cell x c e;obtain ⟨m,⟨o',es,ep,ho',hd',_⟩,_⟩:=I.loc;rw [z,ho']at ho;cases ho;rw [hd']at hd;cases hd
theorem Inv.funs (I:Inv X pins σ H s):s.heap.FunFrames X.base X.outer:=by
 have all:∀(l:List Env),(∀b∈frs l,b∈X.fs)->X.s₀.heap.FunFrames X.base l->s.heap.FunFrames X.base l:=by
  intro l
  induction l with
  |nil=>intro _ _;trivial
  |cons env r ih =>
   intro hs hl;obtain ⟨hk,⟨L,o,hf,hn,ho,hd⟩,hr⟩:=hl;have hL:L∈X.fs:=hs L (by unfold frs;rw [List.filterMap_cons,hf];exact Zf)
   obtain ⟨sl,e⟩:=I.base.slot L o ho (I.ok.frf L hL) hL λz=>I.ok.exfs L z hL
   exact ⟨hk,⟨L,_,hf,hn,e,hd⟩,ih (λb hb=>hs b (by unfold frs;rw [List.filterMap_cons,hf];exact Ze _ hb)) hr⟩
 exact all X.outer (λ_ hb=>hb) I.ok.funs
theorem Inv.stack (I:Inv X pins σ H s):s.heap.FunFrames X.base X.stack:=by
 rcases I.ok.stk with e | ⟨e,hf⟩
 ·rw [e];exact I.funs
 ·rw [e]
  obtain ⟨m,hn,_⟩:=I.loc;refine .cons (by rw [I.ok.kind];decide) hf hn ?_ I.funs
  exact Heap.get?_none_of_le (ZG I.ok.bsz I.ok.above)
theorem Inv.stkSub (I:Inv X pins σ H s):∀b∈frs X.stack,b∈X.env.locals :: X.fs:=λb hb=>by
 rcases I.ok.stk with e | ⟨e,hf⟩
 ·rw [e]at hb;exact Ze _ hb
 ·rw [e]at hb
  unfold frs at hb;rw [List.filterMap_cons,hf]at hb;exact hb
theorem Inv.stkFree (I:Inv X pins σ H s):∀b∈frs X.stack,H b=none:=λb hb=>by
 rcases Zo.mp (I.stkSub b hb) with e | hb
 ·rw [e];exact I.free
 ·obtain ⟨_,o,ho,_⟩:=I.ok.funs.mem hb
  exact I.base.free b o ho (I.ok.frf b hb) λz=>I.ok.exfs b z hb
theorem Inv.step {g':Array GenState} {t':Nat} {d':Drawn} {ch:List Addr} (I:Inv X pins σ H s)
  (hch:∀b∈ch,(b∈X.ex\/X.s₀.heap.objs.size<=b)/\b≠X.env.locals/\(∀x c,X.env.cells.lookup x=some c->c≠b)/\∀p∈X.pn++pins,p.1≠b)
  (keep:∀b o,b≠X.env.locals->b∉X.fs->b∉ch->s.heap.get? b=some o->H b=none->h'.get? b=some o)
  (slot:∀b o,b≠X.env.locals->b∈X.fs->b∉ch->s.heap.get? b=some o->H b=none->∃sl,h'.get? b=some { o with slots:=sl }) (free:∀b o,b∉ch->s.heap.get? b=some o->H b=none->H' b=none)
  (there:∀b o,b∉ch->s.heap.get? b=some o->∃o',h'.get? b=some o')
  (tups:∀b xs,H b=some (.tup xs)->H' b=some (.tup xs)) (frzs:∀b o u,H b=some (.frz o u)->H' b=some (.frz o u)) (tbls:∀b ps,H b=some (.tbl ps)->∃more,H' b=some (.tbl (ps++more)))
  (ns:∀m,s.heap.Ns X.env.locals m->h'.Ns X.env.locals m) (hok:HOk X.prog X.w H' h') (hg:AllBare g') :
  Inv X pins σ H' { s with heap:=h',gens:=g',drawn:=d',toks:=t' }:=by
 have neL:∀b o,X.s₀.heap.get? b=some o->b≠X.env.locals:=λb o e=>Nat.ne_of_lt (ZI (Heap.lt_size e) I.ok.above)
 have neC:∀b o,X.s₀.heap.get? b=some o->b∉X.ex->b∉ch:=λb o e hx hb=>by
  rcases (hch b hb).1 with z | z
  ·exact hx z
  ·exact absurd (ZI (Heap.lt_size e) z) (Nat.lt_irrefl _)
 have cellK:∀x c,X.env.cells.lookup x=some c->∀v,s.heap.IsCell c v->h'.IsCell c v:=λx c e v ⟨o,ho,hd⟩=>by
  have nch:c∉ch:=λz=>(hch c z).2.2.1 x c e rfl
  by_cases hc:c∈X.fs
  ·obtain ⟨sl,q⟩:=slot c o (I.cne x c e) hc nch ho (I.freeC x c e)
   exact ⟨_,q,hd⟩
  ·exact ⟨o,keep c o (I.cne x c e) hc nch ho (I.freeC x c e),hd⟩
 refine ⟨I.ok,I.os,hg,⟨λb o e n hb hx=>?_,λb o e n hb hx=>?_,λb o e n hx=>?_,λb o e hx=>?_,λb xs e=>tups b xs (I.base.tups b xs e),λb o xs e=>frzs b o xs (I.base.frzs b o xs e),λb ps e=>?_⟩,?_,λx c e=>?_,?_,λx c e=>?_,λp hp=>?_,hok,I.len⟩
 ·exact keep b o (neL b o e) hb (neC b o e hx) (I.base.keep b o e n hb hx) (I.base.free b o e n hx)
 ·obtain ⟨sl,e1⟩:=I.base.slot b o e n hb hx
  obtain ⟨sl',e2⟩:=slot b _ (neL b o e) hb (neC b o e hx) e1 (I.base.free b o e n hx);exact ⟨sl',e2⟩
 ·obtain ⟨o',e1⟩:=I.base.there b o e hx
  exact free b o' (neC b o e hx) e1 (I.base.free b o e n hx)
 ·obtain ⟨o',e1⟩:=I.base.there b o e hx
  exact there b o' (neC b o e hx) e1
 ·obtain ⟨m1,e1⟩:=I.base.tbls b ps e
  obtain ⟨m2,e2⟩:=tbls b _ e1;exact ⟨m1++m2,by rw [e2,Array.append_assoc]⟩
 ·obtain ⟨m,hn,hl⟩:=I.loc
  refine ⟨m,ns m hn,λi x v e1 e2 e3=>?_⟩
  obtain ⟨u,r,l⟩:=hl i x v e1 e2 e3;refine ⟨u,r,?_⟩;rcases l with l | ⟨k,c,e,z⟩
  ·exact .inl l
  ·exact .inr ⟨k,c,e,cellK x c e _ z⟩
 ·obtain ⟨v,z⟩:=I.cell x c e
  exact ⟨v,cellK x c e v z⟩
 ·obtain ⟨m,⟨o,_,_,ho,_⟩,_⟩:=I.loc
  exact free _ o (λz=>(hch _ z).2.1 rfl) ho I.free
 ·obtain ⟨v,o,ho,hd⟩:=I.cell x c e
  exact free c o (λz=>(hch c z).2.2.1 x c e rfl) ho (I.freeC x c e)
 ·obtain ⟨e,n,ne,nf,d⟩:=I.pin p hp
  have nch:p.1∉ch:=λz=>(hch p.1 z).2.2.2 p hp rfl
  exact ⟨keep p.1 p.2 ne nf nch e n,free p.1 p.2 nch e n,ne,nf,d⟩
theorem Inv.un {t':Nat} (I:Inv X pins σ H s) (u:Un X.fs [] H H' s.heap h') (hok:HOk X.prog X.w H' h'):Inv X pins σ H' { s with heap:=h',toks:=t' }:=by
 obtain ⟨m,⟨o,es,ep,ho,r⟩,_⟩:=id I.loc;obtain ⟨sl,hL⟩:=u.any ho I.free (by simp)
 exact I.step (g':=s.gens) (d':=s.drawn) (ch:=[]) (λ_ z=>nomatch z) (λb o _ hb _ e n=>u.keep b o e n hb (by simp)) (λb o _ hb _ e n=>u.slot b o e n hb (by simp)) (λb o _ e n=>u.free b o e n (by simp)) (λb o _ e=>u.there b o e (by simp)) u.tups u.frzs u.tbls (λm' hm=>by
  obtain ⟨o',es',ep',ho',r'⟩:=hm;rw [ho]at ho';cases ho';exact ⟨_,es',ep',hL,r'⟩) hok I.bare
theorem Inv.call {g':Array GenState} {t':Nat} {d':Drawn} {ch:List Addr} (I:Inv X pins σ H s) (u:Un (frs X.stack) ch H H' s.heap h') (hok:HOk X.prog X.w H' h') (hg:AllBare g')
  (hch:∀b∈ch,(b∈X.ex\/X.s₀.heap.objs.size<=b)/\b≠X.env.locals/\(∀x c,X.env.cells.lookup x=some c->c≠b)/\∀p∈X.pn++pins,p.1≠b) :
  Inv X pins σ H' { s with heap:=h',gens:=g',drawn:=d',toks:=t' }:=by
 obtain ⟨m,⟨o,es,ep,ho,r⟩,_⟩:=id I.loc;obtain ⟨sl,hL⟩:=u.any ho I.free λz=>(hch _ z).2.1 rfl
 exact I.step (ch:=ch) hch (λb o hL hb hc e n=>u.keep b o e n (λz=>(Zo.mp (I.stkSub b z)).elim hL hb) hc) (λb o _ _ hc e n=>u.any e n hc) (λb o hc e n=>u.free b o e n hc) (λb o hc e=>u.there b o e hc) u.tups u.frzs u.tbls (λm' hm=>by
  obtain ⟨o',es',ep',ho',r'⟩:=hm;rw [ho]at ho';cases ho';exact ⟨_,es',ep',hL,r'⟩) hok hg
theorem Inv.turned {t':Nat} {it:Addr} (I:Inv X pins σ H s) (k:∀b o,b≠it->s.heap.get? b=some o->h'.get? b=some o) (hn:H it=none) (hL:it≠X.env.locals)
  (h1:it∈X.ex\/X.s₀.heap.objs.size<=it) (h2:∀x c,X.env.cells.lookup x=some c->c≠it) (h3:∀p∈X.pn++pins,p.1≠it):Inv X pins σ H { s with heap:=h',toks:=t' }:=by
 have nit:∀b u,H b=some u->b≠it:=λb u e z=>by rw [z,hn]at e;cases e
 refine I.step (g':=s.gens) (d':=s.drawn) (ch:=[it]) (λb hb=>?_) (λb o _ _ hc e _=>k b o (λz=>hc (by simp [z])) e) (λb o _ _ hc e _=>⟨o.slots,k b o (λz=>hc (by simp [z])) e⟩) (λ_ _ _ _ n=>n)
  (λb o hc e=>⟨o,k b o (λz=>hc (by simp [z])) e⟩) (λ_ _ e=>e) (λ_ _ _ e=>e) (λb ps e=>⟨#[],by rw [e];simp⟩) (λm hm=>?_) (λb u e=>?_) I.bare
 ·have e:b=it:=by simpa using hb
  subst e;exact ⟨h1,hL,h2,h3⟩
 ·obtain ⟨o,es,ep,ho,r⟩:=hm
  exact ⟨o,es,ep,k _ o (Ne.symm hL) ho,r⟩
 ·refine (I.hok b u e).stay (λc v hc q=>k c v ?_ q) (λ_ q=>q) λ_ _ q=>q
  rcases hc with z | z
  ·rw [z];exact nit b u e
  ·exact nit c _ z
theorem Inv.tok (I:Inv X pins σ H s) (t:Nat):Inv X pins σ H { s with toks:=t }:=I.un (h':=s.heap) (t':=t) Un.refl I.hok
theorem Inv.kept {t':Nat} (I:Inv X pins σ H s) (k:∀b u,s.heap.get? b=some u->h'.get? b=some u):Inv X pins σ H { s with heap:=h',toks:=t' }:=I.un (Un.kept k) (I.hok.kept k)
theorem Inv.laid {a:Addr} {o:HO} {t':Nat} (I:Inv X pins σ H s) (k:∀b u,s.heap.get? b=some u->h'.get? b=some u) (hp:s.heap.objs.size<=a) (new:c9 X.prog X.w (upd H a o) h' a o) :
  Inv X pins σ (upd H a o) { s with heap:=h',toks:=t' }:=I.un (Un.laid k hp (I.hok.fresh hp)) (I.hok.laid k hp new)
theorem Inv.write {x e:Addr} {o:HO} {t':Nat} (I:Inv X pins σ H s) (mu:Mut (H x)) (he:e=x\/H e=some (.own x)) (k:∀b u,b≠e->s.heap.get? b=some u->h'.get? b=some u) (heo:∃u,h'.get? e=some u)
  (new:c9 X.prog X.w (upd H x o) h' x o):Inv X pins σ (upd H x o) { s with heap:=h',toks:=t' }:=I.un (Un.write mu he k heo) (I.hok.write mu he k heo new)
theorem Inv.weak {σ':List (Option V)} (I:Inv X pins σ H s) (hl:σ'.length=σ.length) (w:∀(i:Nat) v,σ'[i]?=some (some v)->σ[i]?=some (some v)):Inv X pins σ' H s :=
 ⟨I.ok,I.os,I.bare,I.base,let ⟨m,hn,hl'⟩:=I.loc;⟨m,hn,λi x v e1 e2 e3=>hl' i x v e1 (w i v e2) e3⟩,I.cell,I.free,I.freeC,I.pin,I.hok,hl.trans I.len⟩
theorem Inv.pins_of {pins':List (Addr×Obj)} (I:Inv X pins σ H s) (h:∀p∈pins',s.heap.get? p.1=some p.2/\H p.1=none/\p.1≠X.env.locals/\p.1∉X.fs/\∀v,p.2.data≠.cell v):Inv X pins' σ H s :=
 ⟨I.ok,I.os,I.bare,I.base,I.loc,I.cell,I.free,I.freeC,λp hp=>(Zs.mp hp).elim (λz=>I.pin p (Zw _ z)) (h p),I.hok,I.len⟩
theorem mS {N:List Str} (hN:N.Nodup) {i j:Nat} {x:Str} (a:N[i]?=some x) (b:N[j]?=some x):i=j:=by
 obtain ⟨h1,e1⟩:=Zb.mp a;obtain ⟨h2,e2⟩:=Zb.mp b;exact (List.getElem_inj hN).mp (e1.trans e2.symm)
theorem vR {M:Model} {A:Around} {E:Value->Shared->Prop} {i:Nat} {x:Str} {v:V} {u:Value} {Q:Unit->Shared->Prop} (I:Inv X pins σ H s) (hN:X.N.Nodup) (hi:X.N[i]?=some x) (hx:Loc X.env.scope x) (r:RelV v u)
  (h:∀s',Inv X pins (σ.set i (some v)) H s'->(∃a,Heap.SameBut a s.heap s'.heap/\(a=X.env.locals\/X.env.cells.lookup x=some a))->Q () s') (hf:X.fn x=true\/X.env.scope.names.lookup x=some .local:=by first | exact .inl rfl | exact .inr rfl | assumption):wpAny M A (storeName X.env x u) Q E s:=by
 obtain ⟨m,hn,hl⟩:=id I.loc;have hcls:(X.env.scope.kind == .class || (X.env.scope.kind == .module && X.env.locals != X.env.globals))=false:=by rw [I.ok.kind];rfl
 have hiσ:i<σ.length:=by rw [I.len];exact (Zb.mp hi).1
 have cne:=I.cne;have tracked:∀{a:Addr} {h':Heap},(∃o,s.heap.get? a=some o/\H a=none)->Heap.SameBut a s.heap h'->HOk X.prog X.w H h':=fun {a h'} ha hs b ob e=>by
  obtain ⟨_,_,hfree⟩:=ha;refine (I.hok b ob e).stay (λc w' hc q=>(hs.2 c ?_).trans q) (λ_ q=>q) λ_ _ q=>q
  rintro rfl;rcases hc with rfl | hc
  ·rw [hfree]at e;cases e
  ·rw [hfree]at hc;cases hc
 rcases hx with hk | hk
 ·refine wpAny_storeName_local hk hn (λh' hn' hs=>?_) hcls
  obtain ⟨oL,_,_,hoL,_⟩:=id hn;refine h _ ⟨I.ok,I.os,I.bare,⟨λb o e n hb hx=>?_,λb o e n hb hx=>?_,I.base.free,λb o e hx=>?_,I.base.tups,I.base.frzs,I.base.tbls⟩,⟨_,hn',λj y v' e1 e2 e3=>?_⟩,λy c e=>?_,I.free,I.freeC,λp hp=>?_,tracked ⟨oL,hoL,I.free⟩ hs,by simpa using I.len⟩ ⟨_,hs,.inl rfl⟩
  ·exact (hs.2 b (Nat.ne_of_lt (ZI (Heap.lt_size e) I.ok.above))).trans (I.base.keep b o e n hb hx)
  ·obtain ⟨sl,e1⟩:=I.base.slot b o e n hb hx
   exact ⟨sl,(hs.2 b (Nat.ne_of_lt (ZI (Heap.lt_size e) I.ok.above))).trans e1⟩
  ·obtain ⟨o',e1⟩:=I.base.there b o e hx
   exact ⟨o',(hs.2 b (Nat.ne_of_lt (ZI (Heap.lt_size e) I.ok.above))).trans e1⟩
  ·by_cases hj:j=i
   ·subst hj
    rw [hi]at e1;cases e1;rw [List.getElem?_set_self hiσ]at e2;cases e2;exact ⟨u,r,.inl ⟨hk,by simp⟩⟩
   ·rw [List.getElem?_set_ne (Ne.symm hj)]at e2
    obtain ⟨u',r',q⟩:=hl j y v' e1 e2 e3;refine ⟨u',r',?_⟩;rcases q with ⟨k,e⟩ | ⟨k,c,e,z⟩
    ·refine .inl ⟨k,?_⟩
     have:y≠x:=λe=>hj (mS hN e1 (e▸hi))
     simp [this,e]
    ·exact .inr ⟨k,c,e,z.sameBut hs (cne y c e)⟩
  ·obtain ⟨w',z⟩:=I.cell y c e
   exact ⟨w',z.sameBut hs (cne y c e)⟩
  ·obtain ⟨e,n,ne,nf,d⟩:=I.pin p hp
   exact ⟨(hs.2 p.1 ne).trans e,n,ne,nf,d⟩
 ·have hfn:X.fn x=true:=by
   rcases hf with z | z
   ·exact z
   ·rw [z]at hk;cases hk
  obtain ⟨c,hc⟩:=I.ok.has x (.inl hk);obtain ⟨w',z⟩:=I.cell x c hc;refine wpAny_storeName_cell I.ok.kind hk hc z (λh' hc' hs=>?_)
  obtain ⟨oc,hoc,hocd⟩:=id z;refine h { s with heap:=h' } ⟨I.ok,I.os,I.bare,⟨λb o e n hb hx=>?_,λb o e n hb hx=>?_,I.base.free,λb o e hx=>?_,I.base.tups,I.base.frzs,I.base.tbls⟩,⟨m,hn.sameBut hs (Ne.symm (cne x c hc)),λj y v' e1 e2 e3=>?_⟩,λy c' e=>?_,I.free,I.freeC,λp hp=>?_,tracked ⟨oc,hoc,I.freeC x c hc⟩ hs,by simpa using I.len⟩ ⟨c,hs,.inr hc⟩
  ·exact (hs.2 b (Nat.ne_of_lt (ZI (Heap.lt_size e) (I.ok.cab x c hfn hc)))).trans (I.base.keep b o e n hb hx)
  ·obtain ⟨sl,e1⟩:=I.base.slot b o e n hb hx
   exact ⟨sl,(hs.2 b (Nat.ne_of_lt (ZI (Heap.lt_size e) (I.ok.cab x c hfn hc)))).trans e1⟩
  ·obtain ⟨o',e1⟩:=I.base.there b o e hx
   exact ⟨o',(hs.2 b (Nat.ne_of_lt (ZI (Heap.lt_size e) (I.ok.cab x c hfn hc)))).trans e1⟩
  ·by_cases hj:j=i
   ·subst hj
    rw [hi]at e1;cases e1;rw [List.getElem?_set_self hiσ]at e2;cases e2;exact ⟨u,r,.inr ⟨.inl hk,c,hc,hc'⟩⟩
   ·rw [List.getElem?_set_ne (Ne.symm hj)]at e2
    obtain ⟨u',r',q⟩:=hl j y v' e1 e2 e3;refine ⟨u',r',?_⟩;rcases q with q | ⟨k,c',e,z'⟩
    ·exact .inl q
    ·refine .inr ⟨k,c',e,z'.sameBut hs ?_⟩
     rintro rfl;exact hj (mS hN e1 (I.ok.inj _ _ _ e hc▸hi))
  ·by_cases hcc:c'=c
   ·subst hcc;exact ⟨_,hc'⟩
   ·obtain ⟨w2,z2⟩:=I.cell y c' e
    exact ⟨w2,z2.sameBut hs hcc⟩
  ·obtain ⟨e,n,ne,nf,d⟩:=I.pin p hp
   refine ⟨(hs.2 p.1 ?_).trans e,n,ne,nf,d⟩;intro q;rw [q,hoc]at e;have q':oc=p.2:=Zz e;exact d w' (by rw [<-q'];exact hocd)
theorem je {M:Model} {A:Around} {E:Value->Shared->Prop} {i:Nat} {x:Str} {v:V} {u:Value} {Q:Unit->Shared->Prop} (I:Inv X pins σ H s) (hN:X.N.Nodup) (hi:X.N[i]?=some x) (hx:Loc X.env.scope x) (r:RelV v u)
  (h:∀s',Inv X pins (σ.set i (some v)) H s'->Q () s') (hf:X.fn x=true\/X.env.scope.names.lookup x=some .local:=by first | exact .inl rfl | exact .inr rfl | assumption):wpAny M A (storeName X.env x u) Q E s :=
 vR I hN hi hx r (λs' I' _=>h s' I') hf
theorem Inv.call' {s':Shared} {ch:List Addr} (I:Inv X pins σ H s) (ho:s'.os=s.os) (u:Un (frs X.stack) ch H H' s.heap s'.heap) (hok:HOk X.prog X.w H' s'.heap) (hg:AllBare s'.gens)
  (hch:∀b∈ch,(b∈X.ex\/X.s₀.heap.objs.size<=b)/\b≠X.env.locals/\(∀x c,X.env.cells.lookup x=some c->c≠b)/\∀p∈X.pn++pins,p.1≠b):Inv X pins σ H' s':=by
 obtain ⟨h',g',d',t',o'⟩:=s';have e:o'=s.os:=ho;subst e;exact I.call (g':=g') (t':=t') (d':=d') u hok hg hch
end
noncomputable abbrev XK:=Value->Option Addr->Hp->Prop
noncomputable abbrev St:=List (Option V)
noncomputable abbrev VK:=V->Hp->Prop
noncomputable abbrev TE:=St->Hp->VK->Prop
noncomputable abbrev TT:=St->Hp->(Bool->Hp->Prop)->Prop
noncomputable abbrev TA:=St->Hp->(List V->Hp->Prop)->Prop
structure Ends where
 nx:St->Hp->Prop
 rt:VK
 bk:St->Hp->Prop:=λ_ _=>False
 ct:St->Hp->Prop:=λ_ _=>False
noncomputable abbrev TS:=Ends->St->Hp->Prop
noncomputable def EP (X:Cx) (pins:List (Addr×Obj)) (σ:St) (Q:VK) (u:Value) (s':Shared):Prop:=∃v H',Inv X pins σ H' s'/\RelV v u/\Q v H'
noncomputable def TP (X:Cx) (pins:List (Addr×Obj)) (σ:St) (Q:Bool->Hp->Prop) (b:Bool) (s':Shared):Prop:=∃H',Inv X pins σ H' s'/\Q b H'
noncomputable def AP (X:Cx) (pins:List (Addr×Obj)) (σ:St) (Q:List V->Hp->Prop) (us:List Value) (s':Shared):Prop:=∃vs H',Inv X pins σ H' s'/\Vals vs us/\Q vs H'
noncomputable def SP (X:Cx) (pins:List (Addr×Obj)) (D:Ends) (f:Flow) (s':Shared):Prop :=
 match f with
 |.next=>∃σ' H',Inv X pins σ' H' s'/\D.nx σ' H'
 |.brk=>∃σ' H',Inv X pins σ' H' s'/\D.bk σ' H'
 |.cont=>∃σ' H',Inv X pins σ' H' s'/\D.ct σ' H'
 |.ret u=>∃v σ' H',Inv X pins σ' H' s'/\RelV v u/\D.rt v H'
noncomputable def PE (X:Cx) (e:Expr) (t:TE):Prop :=
 ∀(pins:List (Addr×Obj)) (s:Shared) (σ:St) (H:Hp) (Q:VK),Inv X pins σ H s->t σ H Q->wpAny (model X.prog X.w) X.A (eval e X.env) (EP X pins σ Q) X.xe s
noncomputable def PT (X:Cx) (e:Expr) (t:TT):Prop :=
 ∀(pins:List (Addr×Obj)) (s:Shared) (σ:St) (H:Hp) (Q:Bool->Hp->Prop),Inv X pins σ H s->t σ H Q->wpAny (model X.prog X.w) X.A (isTrue e X.env (eval e X.env)) (TP X pins σ Q) X.xe s
noncomputable def PW (X:Cx) (e:Expr) (t:TT):Prop :=
 ∀(whole:Sem Value) (pins:List (Addr×Obj)) (s:Shared) (σ:St) (H:Hp) (Q:Bool->Hp->Prop),Inv X pins σ H s->t σ H Q->wpAny (model X.prog X.w) X.A (isTrue e X.env whole) (TP X pins σ Q) X.xe s
theorem PW.pt {X:Cx} {e:Expr} {t:TT} (h:PW X e t):PT X e t:=h _
noncomputable def PA (X:Cx) (es:List Expr) (t:TA):Prop :=
 ∀(pos:Pos) (pins:List (Addr×Obj)) (s:Shared) (σ:St) (H:Hp) (Q:List V->Hp->Prop),Inv X pins σ H s->t σ H Q->wpAny (model X.prog X.w) X.A (spliced (backTo pos (starEach es X.env))) (AP X pins σ Q) X.xe s
noncomputable def PS (X:Cx) (st:Stmt) (t:TS):Prop :=
 ∀(pins:List (Addr×Obj)) (s:Shared) (σ:St) (H:Hp) (D:Ends),Inv X pins σ H s->t D σ H->wpAny (model X.prog X.w) X.A (exec st X.env) (SP X pins D) X.xe s
noncomputable def PSs (X:Cx) (st:List Stmt) (t:TS):Prop :=
 ∀(pins:List (Addr×Obj)) (s:Shared) (σ:St) (H:Hp) (D:Ends),Inv X pins σ H s->t D σ H->wpAny (model X.prog X.w) X.A (execs st X.env) (SP X pins D) X.xe s
theorem thn {α:Type} {t:Sem α} {Q Q':α->Shared->Prop} {M:Model} {A:Around} {E:Value->Shared->Prop} {s:Shared} (h:wpAny M A t Q E s) (hQ:∀a s,Q a s->Q' a s):wpAny M A t Q' E s:=wpAny_mono h hQ λ_ _ x=>x
section
variable {X:Cx}
theorem bin {a b:Expr} {ta tb:TE} (ha:PE X a ta) (hb:PE X b tb) {pins:List (Addr×Obj)} {s:Shared} {σ:St} {H:Hp} {R:V->V->Hp->Prop} (I:Inv X pins σ H s) (h:ta σ H λx H1=>tb σ H1 λy H2=>R x y H2)
  {α:Type} {Q:α->Shared->Prop} {f:Value->Value->Sem α}
  (hf:∀v u s2 x y H2,Inv X pins σ H2 s2->RelV x v->RelV y u->R x y H2->wpAny (model X.prog X.w) X.A (f v u) Q X.xe s2) :
  wpAny (model X.prog X.w) X.A (eval a X.env) (λv s₁=>wpAny (model X.prog X.w) X.A (eval b X.env) (λu s₂=>wpAny (model X.prog X.w) X.A (f v u) Q X.xe s₂) X.xe s₁) X.xe s:=by
 refine thn (ha pins s σ H _ I h) λv s1 ⟨x,H1,I1,r1,q1⟩=>?_
 refine thn (hb pins s1 σ H1 _ I1 q1) λu s2 ⟨y,H2,I2,r2,q2⟩=>?_
 exact hf v u s2 x y H2 I2 r1 r2 q2
noncomputable def d9 (i:Nat):TE:=fun σ H Q=>∃v,σ[i]?=some (some v)/\Q v H
noncomputable def tC (v:V):TE:=λ_ H Q=>Q v H
theorem a9 {i:Nat} {x:Str} {pos:Pos} (hN:X.N[i]?=some x) (hv:Vis X.env.scope x) (hd:(x == ("__debug__" : Str))=false:=by decide) (hcd:(x == ("__classdict__" : Str))=false:=by decide):PE X (.Name x pos) (d9 i):=by
 intro pins s σ H Q I h;obtain ⟨v,e,h⟩:=h;obtain ⟨m,hn,hl⟩:=I.loc;obtain ⟨u,r,l⟩:=hl i x v hN e hv;have fin:EP X pins σ Q u s:=⟨v,H,I,r,h⟩;rcases l with ⟨hk,hm⟩ | ⟨hk,c,hc,hcell⟩
 ·exact wpAny_Name (wpAny_loadName_local I.ok.kind hk hn hm fin) hd
 ·rcases hk with hk | hk
  ·exact wpAny_Name (wpAny_loadName_cell I.ok.kind hk hc hcell fin) hd
  ·exact wpAny_Name (wpAny_loadName_free I.ok.kind hk hc hcell fin hcd) hd
theorem kW {i j pos}:PE X (.Constant (.int i) j pos) (tC (.int i)):=λ_ _ _ H _ I h=>wpAny_Constant_int ⟨.int i,H,I.tok _,⟨_,rfl⟩,h⟩
theorem yH {b j pos}:PE X (.Constant (.bool b) j pos) (tC (.bl b)):=λ_ _ _ H _ I h=>Constant_bool ⟨.bl b,H,I,rfl,h⟩
theorem yf {x j pos}:PE X (.Constant (.str x) j pos) (tC (.str x)):=λ_ _ _ H _ I h=>Calls.Constant_str ⟨.str x,H,I.tok _,⟨_,rfl⟩,h⟩
noncomputable def Gl (X:Cx) (x:Str):Prop:=X.env.kindOf x=some .globalImplicit
theorem jq {E:Value->Shared->Prop} {pins:List (Addr×Obj)} {s:Shared} {σ:St} {H:Hp} {x:Str} {u:Value} {pos:Pos} {Q:Value->Shared->Prop} (I:Inv X pins σ H s) (hg:Gl X x) (hm:X.mg x=some u) (h:Q u s)
  (hd:(x == ("__debug__" : Str))=false:=by decide):wpAny (model X.prog X.w) X.A (eval (.Name x pos) X.env) Q E s :=
 Calls.Name_function_global I.ok.kind hg (Calls.loadGlobal_global (by rw [I.ok.glob];exact I.mod.glob.keeps I.bk) hm h) hd
theorem iD {E:Value->Shared->Prop} {pins:List (Addr×Obj)} {s:Shared} {σ:St} {H:Hp} {x:Str} {u:Value} {pos:Pos} {Q:Value->Shared->Prop} (I:Inv X pins σ H s) (hg:Gl X x) (hm:X.mg x=none) (hv:bootBuiltins x=some u) (h:Q u s)
  (hn:x ≠ "__name__" := by decide) (hd:(x == ("__debug__" : Str))=false:=by decide):wpAny (model X.prog X.w) X.A (eval (.Name x pos) X.env) Q E s:=by
 obtain ⟨mb,h1,h2⟩:=I.mod.blt;exact Calls.Name_function_global I.ok.kind hg (Calls.loadGlobal_builtin (by rw [I.ok.glob];exact I.mod.glob.keeps I.bk) hm (by rw [I.ok.blt];exact h1.keeps I.bk) ((h2 x hn).trans hv) h) hd
theorem AJ {x:Str} {v:V} {u:Value} {pos:Pos} (hg:Gl X x) (hm:X.mg x=some u) (r:RelV v u) (hd:(x == ("__debug__" : Str))=false:=by decide):PE X (.Name x pos) (tC v) :=
 λ_ _ _ H _ I h=>jq I hg hm ⟨v,H,I,r,h⟩ hd
theorem sW {x:Str} {v:V} {u:Value} {pos:Pos} (hg:Gl X x) (hm:X.mg x=none) (hv:bootBuiltins x=some u) (r:RelV v u) (hn:x ≠ "__name__" := by decide) (hd:(x == ("__debug__" : Str))=false:=by decide):PE X (.Name x pos) (tC v) :=
 λ_ _ _ H _ I h=>iD I hg hm hv ⟨v,H,I,r,h⟩ hn hd
variable {a b:Expr} {ta tb:TE} {pos:Pos}
noncomputable def PC (X:Cx) (op:CmpOp) (a b:Expr) (t:TE):Prop :=
 ∀(pins:List (Addr×Obj)) (s:Shared) (σ:St) (H:Hp) (Q:VK),Inv X pins σ H s->t σ H Q ->
  wpAny (model X.prog X.w) X.A (eval a X.env) (λv s₁=>wpAny (model X.prog X.w) X.A (eval b X.env) (λu s₂=>wpAny (model X.prog X.w) X.A (compareOp op v u) (EP X pins σ Q) X.xe s₂) X.xe s₁) X.xe s
theorem nz (b:Expr) {op:CmpOp} (h:op≠.In) (h2:op≠.NotIn):behindInMarks op b=false:=by
 have e1:(op == CmpOp.In)=false:=by cases op <;> first | rfl | exact absurd rfl h
 have e2:(op == CmpOp.NotIn)=false:=by cases op <;> first | rfl | exact absurd rfl h2
 cases b <;> simp [behindInMarks,e1,e2]
noncomputable def tB (t:TE):TT:=fun σ H Q=>t σ H λx H1=>∃c,x=.bl c/\Q c H1
theorem Jg {op:CmpOp} {t:TE} (h:PC X op a b t) (h1:behindInMarks op b=false:=by first | exact nz _ (by decide) (by decide) | rfl):PT X (.Compare a [op] [b] pos) (tB t):=by
 intro pins s σ H Q I hw;refine wpAny_isTrue_Compare1 (thn (h pins s σ H _ I hw) λv s1 h1=>thn h1 λu s2 h2=>thn h2 λc s3 ⟨x,H1,I1,r1,q1⟩=>?_) h1
 obtain ⟨d,rfl,q⟩:=q1;cases r1;exact wpAny_truthy_bool ⟨H1,I1,q⟩
theorem yN {e:Expr} {t:TE} (h:PE X e t) (he:∀whole,isTrue e X.env whole=(do let v <-whole;standAt e.pos;holding [v] (truthy v)):=by intro _;rfl):PT X e (tB t):=by
 intro pins s σ H Q I hw;refine isTrue_plain (thn (h pins s σ H _ I hw) λv s1 ⟨x,H1,I1,r1,q1⟩=>?_) (he _)
 obtain ⟨d,rfl,q⟩:=q1;cases r1;exact wpAny_truthy_bool ⟨H1,I1,q⟩
variable {tA tB':TT} {rest:List Expr}
noncomputable def Hq (t u:TT):TT:=fun σ H Q=>t σ H λc H1=>if c=true then u σ H1 Q else Q false H1
noncomputable def tOr (t u:TT):TT:=fun σ H Q=>t σ H λc H1=>if c=true then Q true H1 else u σ H1 Q
noncomputable def F_ (t:TT):TT:=fun σ H Q=>t σ H λc H1=>Q (!c) H1
theorem Az (ha:PT X a tA):PW X (.BoolOp .And [a] pos) tA:=by
 intro wh pins s σ H Q I h;refine isTrue_and (thn (ha pins s σ H Q I h) λc s1 e=>?_)
 cases c with
 |true=>exact isTrue_and_nil e
 |false=>exact e
theorem xB (ha:PT X a tA):PW X (.BoolOp .Or [a] pos) tA:=by
 intro wh pins s σ H Q I h;refine isTrue_or (thn (ha pins s σ H Q I h) λc s1 e=>?_)
 cases c with
 |false=>exact isTrue_or_nil e
 |true=>exact e
theorem Dy (ha:PT X a tA) (hb:PW X (.BoolOp .And (b :: rest) pos) tB'):PW X (.BoolOp .And (a :: b :: rest) pos) (Hq tA tB'):=by
 intro wh pins s σ H Q I h;refine isTrue_and (thn (ha pins s σ H _ I h) λc s1 ⟨H1,I1,q1⟩=>?_)
 cases c with
 |true=>exact hb wh pins s1 σ H1 Q I1 q1
 |false=>exact ⟨H1,I1,q1⟩
theorem Bx (ha:PT X a tA) (hb:PW X (.BoolOp .Or (b :: rest) pos) tB'):PW X (.BoolOp .Or (a :: b :: rest) pos) (tOr tA tB'):=by
 intro wh pins s σ H Q I h;refine isTrue_or (thn (ha pins s σ H _ I h) λc s1 ⟨H1,I1,q1⟩=>?_)
 cases c with
 |true=>exact ⟨H1,I1,q1⟩
 |false=>exact hb wh pins s1 σ H1 Q I1 q1
theorem yw (ha:PT X a tA):PT X (.UnaryOp .Not a pos) (F_ tA):=by
 intro pins s σ H Q I h;exact isTrue_not (ha pins s σ H (λc H1=>Q (!c) H1) I h)
noncomputable def A0 (ta tb:TE):TE:=fun σ H Q=>ta σ H λx H1=>∃c,x=.bl c/\if c=true then tb σ H1 Q else Q (.bl false) H1
noncomputable def Gi (ta tb:TE):TE:=fun σ H Q=>ta σ H λx H1=>∃c,x=.bl c/\if c=true then Q (.bl true) H1 else tb σ H1 Q
noncomputable def Bb (ta:TE):TE:=fun σ H Q=>ta σ H λx H1=>∃c,x=.bl c/\Q (.bl (!c)) H1
theorem BW {op} {t:TE} (h:PE X a t):PE X (.BoolOp op [a] pos) t:=λpins s σ H Q I hw=>BoolOp_one (h pins s σ H Q I hw)
theorem CP (ha:PE X a ta) (hb:PE X (.BoolOp .And (b :: rest) pos) tb):PE X (.BoolOp .And (a :: b :: rest) pos) (A0 ta tb):=by
 intro pins s σ H Q I h;refine BoolOp_and (thn (ha pins s σ H _ I h) λv s1 ⟨x,H1,I1,r1,q1⟩=>?_)
 obtain ⟨c,rfl,q1⟩:=q1;cases r1;refine wpAny_truthy_bool ?_;cases c with
 |true=>exact hb pins s1 σ H1 Q I1 q1
 |false=>exact ⟨.bl false,H1,I1,rfl,q1⟩
theorem Hv (ha:PE X a ta) (hb:PE X (.BoolOp .Or (b :: rest) pos) tb):PE X (.BoolOp .Or (a :: b :: rest) pos) (Gi ta tb):=by
 intro pins s σ H Q I h;refine BoolOp_or (thn (ha pins s σ H _ I h) λv s1 ⟨x,H1,I1,r1,q1⟩=>?_)
 obtain ⟨c,rfl,q1⟩:=q1;cases r1;refine wpAny_truthy_bool ?_;cases c with
 |false=>exact hb pins s1 σ H1 Q I1 q1
 |true=>exact ⟨.bl true,H1,I1,rfl,q1⟩
theorem Cq (ha:PE X a ta):PE X (.UnaryOp .Not a pos) (Bb ta):=by
 intro pins s σ H Q I h;refine UnaryOp_ (thn (ha pins s σ H _ I h) λv s1 ⟨x,H1,I1,r1,q1⟩=>?_)
 obtain ⟨c,rfl,q1⟩:=q1;cases r1;exact not_of (wpAny_truthy_bool ⟨.bl (!c),H1,I1,rfl,q1⟩)
end
noncomputable def SqL (K:PySem.W.Frag) (H:Hp) (a:Addr) (xs:List V):Prop :=
 Rd H a (.lst xs) \/
  ∃(o:Obj) (its:Array Value) (n:Nat),K.lookup a=some o/\o.cls=.type "list" /\ o.dict=none/\o.data=.seq its n/\its.size<=sizeLine/\Vals xs its.toList
noncomputable def SqT (K:PySem.W.Frag) (H:Hp) (a:Addr) (xs:List V):Prop :=
 Rd H a (.tup xs) \/
  ∃(o:Obj) (its:Array Value) (n:Nat),K.lookup a=some o/\o.cls=.type "tuple" /\ o.data=.seq its n/\its.size<=sizeLine/\Vals xs its.toList
noncomputable def Jz:Value->Option V
 |.none=>some .non
 |.bool b=>some (.bl b)
 |.int i _=>some (.int i)
 |.str x _=>some (.str x)
 |.bytes b _=>some (.byt b)
 |.float b _=>some (.flt b)
 |.ref a=>some (.ref a)
 |.type n=>some (.ty n)
 |_=>none
theorem RelV.abs {x:V} {u:Value} (r:RelV x u):Jz u=some x:=by
 cases x with
 |non=>cases r;rfl
 |bl _=>cases r;rfl
 |int _=>obtain ⟨t,rfl⟩:=r;rfl
 |str _=>obtain ⟨t,rfl⟩:=r;rfl
 |byt _=>obtain ⟨t,rfl⟩:=r;rfl
 |flt _=>obtain ⟨t,rfl⟩:=r;rfl
 |ref _=>cases r;rfl
 |ty _=>cases r;rfl
theorem RelV.inj {x y:V} {u:Value} (r:RelV x u) (q:RelV y u):x=y:=Zz (r.abs.symm.trans q.abs)
theorem Vals.inj:∀{xs ys:List V} {us:List Value},Vals xs us->Vals ys us->xs=ys
 |_,_,_,.nil,.nil=>rfl
 |_,_,_,.cons r t,.cons r' t'=>by rw [r.inj r',Vals.inj t t']
section
variable {X:Cx} {pins:List (Addr×Obj)} {σ:St} {H:Hp} {s:Shared} {a:Addr} {xs ys:List V}
theorem SqL.of {K:PySem.W.Frag} (h:H a=some (.lst xs)):SqL K H a xs:=.inl (.inl h)
theorem SqT.of {K:PySem.W.Frag} (h:H a=some (.tup xs)):SqT K H a xs:=.inl (.inl h)
theorem Inv.list (I:Inv X pins σ H s) (h:SqL X.K H a xs):∃its:List Value,Vals xs its/\PlainL s.heap a its.toArray/\xs.length<=sizeLine:=by
 rcases h with h | ⟨o,its,n,hk,hc,hd,hs,hz,r⟩
 ·obtain ⟨z,its,n,r,e⟩:=h.ok I.hok
  exact ⟨its,r,⟨_,n,e,rfl,rfl,rfl⟩,z⟩
 ·refine ⟨its.toList,r,⟨o,n,I.kIn a o hk,hc,hd,by simpa using hs⟩,?_⟩
  have e:=r.length;simp only [Array.length_toList]at e
  lia
theorem Inv.tuple (I:Inv X pins σ H s) (h:SqT X.K H a xs):∃its:List Value,Vals xs its/\IsTup s.heap a its.toArray/\xs.length<=sizeLine:=by
 rcases h with h | ⟨o,its,n,hk,hc,hs,hz,r⟩
 ·obtain ⟨z,its,r,p⟩:=h.ok I.hok
  exact ⟨its,r,p,z⟩
 ·refine ⟨its.toList,r,⟨o,I.kIn a o hk,hc,n,by simpa using hs⟩,?_⟩
  have e:=r.length;simp only [Array.length_toList]at e
  lia
theorem Inv.list_inj (I:Inv X pins σ H s) (h:SqL X.K H a xs) (h':SqL X.K H a ys):xs=ys:=by
 obtain ⟨its,r,⟨o,n,e,_,_,d⟩,_⟩:=I.list h;obtain ⟨its',r',⟨o',n',e',_,_,d'⟩,_⟩:=I.list h';rw [e]at e';cases e';rw [d]at d';injection d' with d1 _
 have:its=its':=by simpa using congrArg Array.toList d1
 subst this;exact r.inj r'
theorem Inv.tuple_inj (I:Inv X pins σ H s) (h:SqT X.K H a xs) (h':SqT X.K H a ys):xs=ys:=by
 obtain ⟨its,r,⟨o,e,_,n,d⟩,_⟩:=I.tuple h;obtain ⟨its',r',⟨o',e',_,n',d'⟩,_⟩:=I.tuple h';rw [e]at e';cases e';rw [d]at d';injection d' with d1 _
 have:its=its':=by simpa using congrArg Array.toList d1
 subst this;exact r.inj r'
end
noncomputable abbrev Cx.wish (X:Cx) (E:Value->Shared->Prop):Cx:={ X with xe:=E }
noncomputable abbrev Cx.nox (X:Cx):Cx:=X.wish λ_ _=>False
theorem Cx.Ok.wish {X:Cx} (ok:X.Ok) (E:Value->Shared->Prop):(X.wish E).Ok :=
 ⟨ok.mod,ok.kind,ok.glob,ok.blt,ok.above,ok.inj,ok.has,ok.cab,ok.hd,ok.frames,ok.stk,ok.exf,ok.bs,ok.bsz,ok.noex,ok.exfs,ok.funs,ok.frf⟩
theorem Cx.Ok.unwish {X:Cx} {E:Value->Shared->Prop} (ok:(X.wish E).Ok):X.Ok :=
 ⟨ok.mod,ok.kind,ok.glob,ok.blt,ok.above,ok.inj,ok.has,ok.cab,ok.hd,ok.frames,ok.stk,ok.exf,ok.bs,ok.bsz,ok.noex,ok.exfs,ok.funs,ok.frf⟩
section
variable {X:Cx} {pins:List (Addr×Obj)} {σ:St} {H:Hp} {s:Shared} {E:Value->Shared->Prop}
theorem Inv.wish (I:Inv X pins σ H s) (E:Value->Shared->Prop):Inv (X.wish E) pins σ H s:=⟨I.ok.wish E,I.os,I.bare,I.base,I.loc,I.cell,I.free,I.freeC,I.pin,I.hok,I.len⟩
theorem Inv.unwish (I:Inv (X.wish E) pins σ H s):Inv X pins σ H s:=⟨I.ok.unwish,I.os,I.bare,I.base,I.loc,I.cell,I.free,I.freeC,I.pin,I.hok,I.len⟩
theorem SP.unwish {D:Ends} {f:Flow} {s':Shared} (h:SP (X.wish E) pins D f s'):SP X pins D f s':=by
 cases f with
 |next=>obtain ⟨σ',H',I,q⟩:=h;exact ⟨σ',H',I.unwish,q⟩
 |brk=>obtain ⟨σ',H',I,q⟩:=h;exact ⟨σ',H',I.unwish,q⟩
 |cont=>obtain ⟨σ',H',I,q⟩:=h;exact ⟨σ',H',I.unwish,q⟩
 |ret u=>obtain ⟨v,σ',H',I,r,q⟩:=h;exact ⟨v,σ',H',I.unwish,r,q⟩
theorem PSs.nox {st:List Stmt} {t:TS} (h:PSs X.nox st t):PSs X st t:=λpins s σ H D I hw =>
 wpAny_mono (h pins s σ H D (I.wish _) hw) (λ_ _ q=>q.unwish) λ_ _ z=>False.elim z
end
section
variable {X:Cx} {st:Stmt} {rest:List Stmt} {t u:TS} {e:Expr} {te:TE} {pos:Pos}
noncomputable def BI:TS:=λD σ H=>D.nx σ H
noncomputable def Hu (t u:TS):TS:=λD σ H=>t { D with nx:=u D } σ H
theorem l3:PSs X [] BI:=λ_ _ σ H _ I h=>wpAny_execs_nil ⟨σ,H,I,h⟩
theorem i8 (h1:PS X st t) (h2:PSs X rest u):PSs X (st :: rest) (Hu t u):=by
 intro pins s σ H D I h;refine wpAny_execs_cons (thn (h1 pins s σ H { D with nx:=u D } I h) λf s1 q=>?_)
 cases f with
 |next =>
  obtain ⟨σ',H',I',q⟩:=q;exact h2 pins s1 σ' H' D I' q
 |ret v=>exact q
 |brk=>exact q
 |cont=>exact q
theorem l_ (h1:PS X st t):PSs X [st] t:=by
 intro pins s σ H D I h;refine wpAny_execs_cons (thn (h1 pins s σ H D I h) λf s1 q=>?_)
 cases f with
 |next=>exact wpAny_execs_nil q
 |ret v=>exact q
 |brk=>exact q
 |cont=>exact q
theorem Inv.quiet {pins:List (Addr×Obj)} {σ:St} {H:Hp} {s:Shared} (I:Inv X pins σ H s):interactive X.env=false:=by simp [interactive,I.ok.kind]
noncomputable def jb (te:TE):TS:=λD σ H=>te σ H λ_ H1=>D.nx σ H1
theorem kQ (he:PE X e te) (hs:swapsWith e none pos.line X.env=pure false:=by rfl):PS X (.Expr e pos) (jb te):=by
 intro pins s σ H D I h;exact wpAny_Expr_any (thn (he pins s σ H _ I h) λv s1 ⟨x,H1,I1,r1,q1⟩=>⟨σ,H1,I1,q1⟩) I.quiet hs
noncomputable def xh (te:TE):TS:=λD σ H=>te σ H D.rt
theorem k_ (he:PE X e te):PS X (.Return (some e) pos) (xh te):=by
 intro pins s σ H D I h;exact wpAny_Return_some (thn (he pins s σ H _ I h) λv s1 ⟨x,H1,I1,r1,q1⟩=>⟨x,σ,H1,I1,r1,q1⟩)
noncomputable def xp (c:TT) (t u:TS):TS:=λD σ H=>c σ H λb H1=>if b=true then t D σ H1 else u D σ H1
theorem tK {c:Expr} {a b:List Stmt} {tc:TT} (hc:PT X c tc) (ha:PSs X a t) (hb:PSs X b u):PS X (.If c a b pos) (xp tc t u):=by
 intro pins s σ H D I h;refine wpAny_If (thn (hc pins s σ H _ I h) λd s1 ⟨H1,I1,q1⟩=>?_)
 cases d with
 |true=>exact ha pins s1 σ H1 D I1 q1
 |false=>exact hb pins s1 σ H1 D I1 q1
noncomputable def pO:TS:=λ_ _ _=>False
theorem wt:PS X st pO:=λ_ _ _ _ _ _ h=>h.elim
theorem la {sts:List Stmt}:PSs X sts pO:=λ_ _ _ _ _ _ h=>h.elim
end
noncomputable abbrev TG:=V->St->Hp->(St->Hp->Prop)->Prop
noncomputable abbrev TGs:=List V->St->Hp->(St->Hp->Prop)->Prop
noncomputable def PG (X:Cx) (target:Expr) (t:TG):Prop :=
 ∀(pins:List (Addr×Obj)) (s:Shared) (σ:St) (H:Hp) (v:V) (u:Value) (Q:St->Hp->Prop),Inv X pins σ H s->RelV v u->t v σ H Q ->
  wpAny (model X.prog X.w) X.A (assign target X.env u) (λ_ s'=>∃σ' H',Inv X pins σ' H' s'/\Q σ' H') X.xe s
noncomputable def PGs (X:Cx) (ts:List Expr) (t:TGs):Prop :=
 ∀(pins:List (Addr×Obj)) (s:Shared) (σ:St) (H:Hp) (vs:List V) (us:List Value) (Q:St->Hp->Prop),Inv X pins σ H s->Vals vs us->t vs σ H Q ->
  wpAny (model X.prog X.w) X.A (assignInOrder ((assignEach ts X.env).map (·.2)) us) (λ_ s'=>∃σ' H',Inv X pins σ' H' s'/\Q σ' H') X.xe s
noncomputable abbrev En:=V->V->V->Hp->(Hp->Prop)->Prop
noncomputable def GS (X:Cx) (t:En):Prop :=
 ∀(pins:List (Addr×Obj)) (s:Shared) (σ:St) (H:Hp) (o i v:V) (ov iv u:Value) (Q:Hp->Prop),Inv X pins σ H s->RelV o ov->RelV i iv->RelV v u->t o i v H Q ->
  wpAny (model X.prog X.w) X.A (setItem ov iv u) (λ_ s'=>∃H',Inv X pins σ H' s'/\Q H') X.xe s
section
variable {X:Cx} {pos:Pos}
noncomputable def oT (i:Nat):TG:=λv σ H Q=>Q (σ.set i (some v)) H
theorem zM {i:Nat} {x:Str} (hN:X.N.Nodup) (hi:X.N[i]?=some x) (hx:Loc X.env.scope x) (hf:X.fn x=true\/X.env.scope.names.lookup x=some .local:=by first | exact .inl rfl | exact .inr rfl | assumption):PG X (.Name x pos) (oT i):=by
 intro pins s σ H v u Q I r h;exact wpAny_assign_Name (je I hN hi hx r (λs' I'=>⟨_,H,I',h⟩) hf)
noncomputable def Gs:TGs:=λvs σ H Q=>vs=[]/\Q σ H
noncomputable def Bh (t:TG) (u:TGs):TGs:=λvs σ H Q=>∃v r,vs=v :: r/\t v σ H fun σ' H'=>u r σ' H' Q
theorem AM:PGs X [] Gs:=by
 intro pins s σ H vs us Q I r h;obtain ⟨e,h⟩:=h;subst e;cases r;exact assignInOrder_nil ⟨σ,H,I,h⟩
theorem yP {e:Expr} {es:List Expr} {t:TG} {u:TGs} (h1:PG X e t) (h2:PGs X es u)
  (hs:(assignEach (e :: es) X.env).map (·.2)=assign e X.env :: (assignEach es X.env).map (·.2):=by rfl):PGs X (e :: es) (Bh t u):=by
 intro pins s σ H vs us Q I r h;obtain ⟨v,vr,e1,h⟩:=h;subst e1;cases r with
 |cons r rr =>
  rw [hs];refine assignInOrder_cons (thn (h1 pins s σ H _ _ _ I r h) λ_ s1 ⟨σ1,H1,I1,q1⟩=>?_)
  exact h2 pins s1 σ1 H1 _ _ Q I1 rr q1
noncomputable def Gr (K:PySem.W.Frag) (n:Nat) (t:TGs):TG:=λv σ H Q=>∃a xs,v=.ref a/\SqT K H a xs/\xs.length=n/\t xs σ H Q
theorem EA {es:List Expr} {k:Nat} {t:TGs} {n:Nat} (hc:X.calm=true) (h:PGs X es t)
  (hn:(assignEach es X.env).length=n:=by rfl) (hst:(assignEach es X.env).findIdx? (·.1)=none:=by rfl):PG X (.Tuple es k pos) (Gr X.K n t):=by
 intro pins s σ H v u Q I r hw;obtain ⟨a,xs,e1,hq,hl,hw⟩:=hw;subst e1;cases r;obtain ⟨its,rv,ht,hz⟩:=I.tuple hq;refine assign_Tuple_tuple (I.ok.hd hc) ht (by simp [hn,<-hl,rv.length]) hst λh' hx=>?_
 have I1:Inv X pins σ H { s with heap:=h' }:=I.kept (t':=s.toks) λb o e=>hx b o (Nat.ne_of_lt (Heap.lt_size e)) e
 exact h pins _ σ H xs _ Q I1 (by simpa using rv) hw
noncomputable def CT (to ti:TE) (t:En):TG:=λv σ H Q=>to σ H λo H1=>ti σ H1 λi H2=>t o i v H2 λH3=>Q σ H3
theorem yd {o i:Expr} {to ti:TE} {t:En} (ho:PE X o to) (hi:PE X i ti) (hs:GS X t)
  (ha:∀v,assign (.Subscript o i pos) X.env v=(do
   let ov <-holding [v] (eval o X.env)
   let iv <-holding [v,ov] (eval i X.env)
   standAt pos
   holding [v,ov,iv] (setItem ov iv v)
   release [v,ov,iv] []):=by intro _;rfl):PG X (.Subscript o i pos) (CT to ti t):=by
 intro pins s σ H v u Q I r h;rw [ha];refine wpAny_bind (wpAny_holding (thn (ho pins s σ H _ I h) λov s1 ⟨x,H1,I1,r1,q1⟩=>?_))
 refine wpAny_bind (wpAny_holding (thn (hi pins s1 σ H1 _ I1 q1) λiv s2 ⟨y,H2,I2,r2,q2⟩=>?_))
 refine wpAny_bind (wpAny_standAt (wpAny_bind (wpAny_holding (thn (hs pins s2 σ H2 x y v ov iv u _ I2 r1 r2 r q2) λ_ s3 ⟨H3,I3,q3⟩=>?_))))
 exact wpAny_release ⟨σ,H3,I3,q3⟩
noncomputable def pQ (te:TE) (g:TG):TS:=λD σ H=>te σ H λx H1=>g x σ H1 D.nx
theorem sv {tg e:Expr} {te:TE} {g:TG} (he:PE X e te) (hg:PG X tg g) (hs:swapsWithSole [tg] e pos.line X.env=pure false:=by rfl) (hw:swappedStores [tg] e X.env=pure none:=by rfl)
  (h1:(assignEach [tg] X.env).map (·.2)=[assign tg X.env]:=by rfl):PS X (.Assign [tg] e pos) (pQ te g):=by
 intro pins s σ H D I h;refine wpAny_Assign_stores (thn (he pins s σ H _ I h) λv s1 ⟨x,H1,I1,r1,q1⟩=>?_) hs hw
 rw [h1];exact thn (hg pins s1 σ H1 x v _ I1 r1 q1) λ_ s2 q=>q
theorem rW {i:Nat} {x:Str} {e:Expr} {te:TE} {pos':Pos} (hN:X.N.Nodup) (hi:X.N[i]?=some x) (hx:Loc X.env.scope x) (he:PE X e te) (hs:swapsWith e (some (.Name x pos')) pos.line X.env=pure false:=by rfl) (hf:X.fn x=true\/X.env.scope.names.lookup x=some .local:=by first | exact .inl rfl | exact .inr rfl | assumption) :
  PS X (.Assign [.Name x pos'] e pos) (pQ te (oT i)):=by
 intro pins s σ H D I h;refine wpAny_Assign_Name (thn (he pins s σ H _ I h) λv s1 ⟨y,H1,I1,r1,q1⟩=>?_) hs
 exact je I1 hN hi hx r1 (λs2 I2=>⟨_,H1,I2,q1⟩) hf
end
section
variable {X:Cx} {pos:Pos}
noncomputable def yY (c:TT) (tb:TS):TS:=λD σ H=>∃W:Nat->St->Hp->Prop,(∃m,W m σ H)/\∀m σ H,W m σ H ->
 c σ H λb H1=>if b=true then ∃N:St->Hp->Prop,(∀σ' H',N σ' H'->∃m',m'<m/\W m' σ' H')/\tb { D with nx:=N,ct:=N,bk:=D.nx } σ H1 else D.nx σ H1
theorem yC {c:Expr} {body:List Stmt} {tc:TT} {tb:TS} (hp:PassesOwn (model X.prog X.w) X.A X.env X.xe) (hc:PT X c tc) (hb:PSs X body tb):PS X (.While c body [] pos) (yY tc tb):=by
 intro pins s σ H D I h;obtain ⟨W,⟨m0,w0⟩,turn⟩:=h;refine wpAny_While (codeAny_whileLoop (λn s'=>∃σ' H',Inv X pins σ' H' s'/\W n σ' H') ?_ m0 ⟨σ,H,I,w0⟩)
 rintro n s1 ⟨σ1,H1,I1,w1⟩;refine wpAny_passesOwn hp (thn (hc pins s1 σ1 H1 _ I1 (turn n σ1 H1 w1)) λb s2 ⟨H2,I2,q2⟩=>?_)
 cases b with
 |true =>
  obtain ⟨N,hN,q2⟩:=q2;rw [if_pos rfl];refine wpAny_passesOwn hp (thn (hb pins s2 σ1 H2 _ I2 q2) λf s3 q3=>?_)
  cases f with
  |next =>
   obtain ⟨σ3,H3,I3,n3⟩:=q3;obtain ⟨m',hm,w3⟩:=hN σ3 H3 n3;exact ⟨m',hm,σ3,H3,I3,w3⟩
  |cont =>
   obtain ⟨σ3,H3,I3,n3⟩:=q3;obtain ⟨m',hm,w3⟩:=hN σ3 H3 n3;exact ⟨m',hm,σ3,H3,I3,w3⟩
  |brk=>exact q3
  |ret v=>exact q3
 |false =>
  rw [if_neg Zm];exact wpAny_execs_nil ⟨σ1,H2,I2,q2⟩
end
structure It where
 go:Nat->Hp->Prop
 yld:Nat->Hp->V->Hp->Prop
 stop:Nat->Hp->Prop
noncomputable def lP (X:Cx) (pins:List (Addr×Obj)) (H:Hp) (b:Addr):Prop :=
 H b=none/\b≠X.env.locals/\b∉X.fs/\(b∈X.ex\/X.s₀.heap.objs.size<=b)/\(∀x c,X.env.cells.lookup x=some c->c≠b)/\∀p∈X.pn++pins,p.1≠b
theorem Inv.fpOk {X:Cx} {pins:List (Addr×Obj)} {σ:St} {H H':Hp} {s:Shared} {b:Addr} (I:Inv X pins σ H s) (hb:s.heap.objs.size<=b) (hn:H' b=none):lP X pins H' b:=by
 refine ⟨hn,Nat.ne_of_gt (ZI I.lt hb),I.nofs hb,.inr (ZG I.sz hb),λx c e z=>?_,λp hp z=>?_⟩
 ·obtain ⟨v,q⟩:=I.cell x c e
  exact absurd (ZI q.lt (by rw [z];exact hb)) (Nat.lt_irrefl _)
 ·exact absurd (ZI (Heap.lt_size (I.pin p hp).1) (by rw [z];exact hb)) (Nat.lt_irrefl _)
structure Turn (P:Program) (w:World) (K:PySem.W.Frag) (tg:Expr) (J:It) (fp:List Addr) (it:Addr) (tn:Nat->Heap->Prop):Prop where
 mem:it∈fp
 obj:∀i h,tn i h->∀b∈fp,∃o,h.get? b=some o/\∀v,o.data≠.cell v
 keep:∀i h h',tn i h->(∀b∈fp,∀o,h.get? b=some o->h'.get? b=some o)->tn i h'
 item:∀(X:Cx),X.prog=P->X.w=w->X.K=K->X.calm=true->∀(i:Nat) (pins:List (Addr×Obj)) (s:Shared) (σ:St) (H:Hp) (E:Value->Shared->Prop),Inv X pins σ H s->(∀b∈fp,lP X pins H b)->tn i s.heap->J.go i H ->
  wpAny (model P w) X.A (pyNext (.ref it)) (λr s1=>∃u,r=some u /\
   wpAny (model P w) X.A (letOwnedTupleGo tg (.ref it) u) (λ_ s2=>∃x H',Inv X pins σ H' s2/\RelV x u/\J.yld i H x H'/\tn (i+1) s2.heap/\∀b∈fp,H' b=none) E s1) E s
 done:∀(X:Cx),X.prog=P->X.w=w->X.K=K->X.calm=true->∀(i:Nat) (pins:List (Addr×Obj)) (s:Shared) (σ:St) (H:Hp) (E:Value->Shared->Prop),Inv X pins σ H s->(∀b∈fp,lP X pins H b)->tn i s.heap->J.stop i H ->
  wpAny (model P w) X.A (pyNext (.ref it)) (λr s1=>r=none/\Inv X pins σ H s1) E s
 self:∀(A:Around) (i:Nat) (s:Shared) (Q:Value->Shared->Prop) (E:Value->Shared->Prop),tn i s.heap->Q (.ref it) s->wpAny (model P w) A (pyIter (.ref it)) Q E s
noncomputable abbrev TI:=St->Hp->(It->Hp->Prop)->Prop
noncomputable def PIE (X:Cx) (pins:List (Addr×Obj)) (σ:St) (tg:Expr) (R:It->Hp->Prop) (itv:Value) (s2:Shared):Prop :=
 ∃(it:Addr) (fp:List Addr) (tn:Nat->Heap->Prop) (J:It) (H':Hp),itv=.ref it/\Inv X pins σ H' s2/\Turn X.prog X.w X.K tg J fp it tn/\tn 0 s2.heap/\(∀b∈fp,lP X pins H' b)/\R J H'
noncomputable def PI (X:Cx) (tg iter:Expr) (wi:TI):Prop :=
 ∀(pins:List (Addr×Obj)) (s:Shared) (σ:St) (H:Hp) (R:It->Hp->Prop),Inv X pins σ H s->wi σ H R ->
  wpAny (model X.prog X.w) X.A (eval iter X.env) (λv s1=>wpAny (model X.prog X.w) X.A (pyIter v) (PIE X pins σ tg R) X.xe s1) X.xe s
theorem yO {M:Model} {A:Around} {E:Value->Shared->Prop} {s:Shared} {tg:Expr} {it:Addr} {u:Value} {o:Obj} {n:String} {vs:Array Value} {Q:Unit->Shared->Prop} (ho:s.heap.get? it=some o) (hc:o.cls=.type n) (hd:o.data=.fields vs)
    (hn:["enumerate", "zip", "dict_itemiterator", "dict_reverseitemiterator", "odict_iterator", "itertools.zip_longest", "itertools.pairwise"].contains n=false) (hQ:Q () s):wpAny M A (letOwnedTupleGo tg (.ref it) u) Q E s:=by
  unfold letOwnedTupleGo;cases tg <;> first
    |exact wpAny_pure hQ
    | (cases u <;> first
        |exact wpAny_pure hQ
        | (refine wpAny_bind (wpAny_load ho ?_)
           rw [hc,hd];show wpAny M A (if (["enumerate", "zip", "dict_itemiterator", "dict_reverseitemiterator", "odict_iterator", "itertools.zip_longest", "itertools.pairwise"].contains n && vs[0]? == some (rawInt _))=true then _ else _) Q E s
           rw [if_neg (by intro h;rw [hn,Bool.false_and]at h;cases h)]
           exact wpAny_pure hQ))
noncomputable def Itl (K:PySem.W.Frag) (a:Addr):It :=
 ⟨λi H=>∃xs x,SqL K H a xs/\xs[i]?=some x,λi H x H'=>H'=H/\∀xs,SqL K H a xs->xs[i]?=some x,λi H=>∃xs,SqL K H a xs/\xs.length<=i⟩
noncomputable def Itt (K:PySem.W.Frag) (a:Addr):It :=
 ⟨λi H=>∃xs x,SqT K H a xs/\xs[i]?=some x,λi H x H'=>H'=H/\∀xs,SqT K H a xs->xs[i]?=some x,λi H=>∃xs,SqT K H a xs/\xs.length<=i⟩
noncomputable def Itr (lo:Int) (n:Nat):It:=⟨λi _=>i<n,λi H x H'=>H'=H/\x=.int (lo+i),λi _=>n<=i⟩
theorem vq {P:Program} {w:World} {K:PySem.W.Frag} {tg:Expr} (a it:Addr):Turn P w K tg (Itl K a) [it] it (λi h=>h.IsListIter it a i) where
 mem:=by simp
 obj:=λi h st b hb=>by
  have e:b=it:=by simpa using hb
  subst e;obtain ⟨o,e,c,d⟩:=st;exact ⟨o,e,λv z=>by rw [d]at z;cases z⟩
 keep:=λi h h' st k=>st.at λo e=>k it (by simp) o e
 item:=by
  intro X hP hw hK hc i pins s σ H E I hf st hg;subst hP hw hK;obtain ⟨xs,x,hq,hx⟩:=hg;obtain ⟨its,rv,p,hz⟩:=I.list hq;obtain ⟨u,hu,ru⟩:=rv.get hx;obtain ⟨f0,f1,f2,f3,f4,f5⟩:=hf it (by simp)
  refine wpAny_pyNext_list_item st p.isList (x:=u) (by simpa using hu) λh' st' sb=>?_
  have I1:Inv X pins σ H { s with heap:=h' }:=I.turned (t':=s.toks) (λb o hb e=>(sb.2 b hb).trans e) f0 f1 f3 f4 f5
  obtain ⟨o,e,c,d⟩:=id st';exact ⟨u,rfl,yO (s:={ s with heap:=h' }) e c d (by decide) ⟨x,H,I1,ru,⟨rfl,λys hy=>by rw [I.list_inj hy hq];exact hx⟩,st',λb hb=>(hf b hb).1⟩⟩
 done:=by
  intro X hP hw hK hc i pins s σ H E I hf st hg;subst hP hw hK;obtain ⟨xs,hq,hx⟩:=hg;obtain ⟨its,rv,p,hz⟩:=I.list hq;obtain ⟨f0,f1,f2,f3,f4,f5⟩:=hf it (by simp)
  have hl:=rv.length;exact wpAny_pyNext_list_end (I.ok.hd hc) st p.isList (by simp;lia) λh' eb=>⟨rfl,I.turned (t':=s.toks) (λb o hb e=>eb b o hb e) f0 f1 f3 f4 f5⟩
 self:=λ_ _ _ _ _ st h=>wpAny_pyIter_listiter st h
theorem r_ {P:Program} {w:World} {K:PySem.W.Frag} {tg:Expr} (a it:Addr):Turn P w K tg (Itt K a) [it] it (λi h=>h.IsTupleIter it a i) where
 mem:=by simp
 obj:=λi h st b hb=>by
  have e:b=it:=by simpa using hb
  subst e;obtain ⟨o,e,c,d⟩:=st;exact ⟨o,e,λv z=>by rw [d]at z;cases z⟩
 keep:=λi h h' st k=>st.at λo e=>k it (by simp) o e
 item:=by
  intro X hP hw hK hc i pins s σ H E I hf st hg;subst hP hw hK;obtain ⟨xs,x,hq,hx⟩:=hg;obtain ⟨its,rv,p,hz⟩:=I.tuple hq;obtain ⟨u,hu,ru⟩:=rv.get hx;obtain ⟨f0,f1,f2,f3,f4,f5⟩:=hf it (by simp)
  refine wpAny_pyNext_tuple_item st (show s.heap.IsTuple a its.toArray from p) (x:=u) (by simpa using hu) λh' st' sb=>?_
  have I1:Inv X pins σ H { s with heap:=h' }:=I.turned (t':=s.toks) (λb o hb e=>(sb.2 b hb).trans e) f0 f1 f3 f4 f5
  obtain ⟨o,e,c,d⟩:=id st';exact ⟨u,rfl,yO (s:={ s with heap:=h' }) e c d (by decide) ⟨x,H,I1,ru,⟨rfl,λys hy=>by rw [I.tuple_inj hy hq];exact hx⟩,st',λb hb=>(hf b hb).1⟩⟩
 done:=by
  intro X hP hw hK hc i pins s σ H E I hf st hg;subst hP hw hK;obtain ⟨xs,hq,hx⟩:=hg;obtain ⟨its,rv,p,hz⟩:=I.tuple hq;obtain ⟨f0,f1,f2,f3,f4,f5⟩:=hf it (by simp)
  have hl:=rv.length;exact wpAny_pyNext_tuple_end (I.ok.hd hc) st (show s.heap.IsTuple a its.toArray from p) (by simp;lia) λh' eb=>⟨rfl,I.turned (t':=s.toks) (λb o hb e=>eb b o hb e) f0 f1 f3 f4 f5⟩
 self:=λ_ _ _ _ _ st h=>wpAny_pyIter_tupleiter st h
theorem sA {P:Program} {w:World} {K:PySem.W.Frag} {tg:Expr} (it:Addr) (lo:Int) (n:Nat):Turn P w K tg (Itr lo n) [it] it (λi h=>IsRangeIter h it (lo+(i:Nat) * 1) ((n:Int)-(i:Nat)) 1) where
 mem:=by simp
 obj:=λi h st b hb=>by
  have e:b=it:=by simpa using hb
  subst e;exact ⟨_,st,λv z=>by
   have z':Data.fields _=Data.cell v:=z;cases z'⟩
 keep:=λi h h' st k=>k it (by simp) _ st
 item:=by
  intro X hP hw hK hc i pins s σ H E I hf st hg;subst hP hw hK;obtain ⟨f0,f1,f2,f3,f4,f5⟩:=hf it (by simp)
  have W:=Walks.range (prog:=X.prog) (w:=X.w) (I.ok.hd hc) it lo 1 n;refine W.item i s _ _ hg st λv h' tk hv st' kk=>?_
  obtain ⟨t,rfl⟩:=hv;have I1:Inv X pins σ H { s with heap:=h',toks:=tk }:=I.turned (λb o hb e=>kk b o (by simpa using hb) e) f0 f1 f3 f4 f5
  refine ⟨_,rfl,yO (s:={ s with heap:=h',toks:=tk }) (n := "range_iterator") st' rfl rfl (by decide) ⟨.int (lo+i),H,I1,⟨t,?_⟩,⟨rfl,rfl⟩,st',λb hb=>(hf b hb).1⟩⟩
  rw [Int.mul_one]
 done:=by
  intro X hP hw hK hc i pins s σ H E I hf st hg;subst hP hw hK;obtain ⟨f0,f1,f2,f3,f4,f5⟩:=hf it (by simp)
  exact wpAny_pyNext_range_end (I.ok.hd hc) st (by have:n<=i:=hg;lia) λh' eb=>⟨rfl,I.turned (t':=s.toks) (λb o hb e=>eb b o hb e) f0 f1 f3 f4 f5⟩
 self:=λ_ _ _ _ _ st h=>wpAny_pyIter_rangeiter st h
section
variable {X:Cx} {tg:Expr}
noncomputable def BC (K:PySem.W.Frag) (tl:TE):TI:=fun σ H R=>tl σ H λx H1=>∃a,x=.ref a/\(∃xs,SqL K H1 a xs)/\R (Itl K a) H1
noncomputable def HC (K:PySem.W.Frag) (tl:TE):TI:=fun σ H R=>tl σ H λx H1=>∃a,x=.ref a/\(∃xs,SqT K H1 a xs)/\R (Itt K a) H1
theorem zo {l:Expr} {tl:TE} (hl:PE X l tl):PI X tg l (BC X.K tl):=by
 intro pins s σ H R I h;refine thn (hl pins s σ H _ I h) λv s1 ⟨x,H1,I1,r1,q1⟩=>?_
 obtain ⟨a,e,⟨xs,hq⟩,q⟩:=q1;subst e;cases r1;obtain ⟨its,rv,p,hz⟩:=I1.list hq;refine wpAny_pyIter_list p.isList ?_;refine ⟨s1.heap.objs.size,[s1.heap.objs.size],_,_,H1,rfl,I1.kept (t':=s1.toks) λb o e=>Heap.get?_push_of_some _ e,vq a _,⟨_,Heap.get?_push_size _ rfl,rfl,rfl⟩,λb hb=>?_,q⟩
 have e:b=s1.heap.objs.size:=by simpa using hb
 subst e;exact I1.fpOk (Zn _) (I1.hok.fresh (Zn _))
theorem EV {l:Expr} {tl:TE} (hl:PE X l tl):PI X tg l (HC X.K tl):=by
 intro pins s σ H R I h;refine thn (hl pins s σ H _ I h) λv s1 ⟨x,H1,I1,r1,q1⟩=>?_
 obtain ⟨a,e,⟨xs,hq⟩,q⟩:=q1;subst e;cases r1;obtain ⟨its,rv,p,hz⟩:=I1.tuple hq;refine wpAny_pyIter_tuple (show s1.heap.IsTuple a its.toArray from p) ?_
 refine ⟨s1.heap.objs.size,[s1.heap.objs.size],_,_,H1,rfl,I1.kept (t':=s1.toks) λb o e=>Heap.get?_push_of_some _ e,r_ a _,⟨_,Heap.get?_push_size _ rfl,rfl,rfl⟩,λb hb=>?_,q⟩
 have e:b=s1.heap.objs.size:=by simpa using hb
 subst e;exact I1.fpOk (Zn _) (I1.hok.fresh (Zn _))
theorem rC {pins:List (Addr×Obj)} {σ:St} {H:Hp} {s:Shared} {R:It->Hp->Prop} {E:Value->Shared->Prop} {lo hi:Int} {t u v:Tok} {tk:Nat} (I:Inv X pins σ H s) (h1:-(2 ^ 62)<=lo) (h2:lo<2 ^ 62) (h3:-(2 ^ 62)<=hi) (h4:hi<2 ^ 62)
  (q:R (Itr lo (hi-lo).toNat) H):wpAny (model X.prog X.w) X.A (pyIter (.ref s.heap.objs.size)) (PIE X pins σ tg R) E { s with heap:=s.heap.push { cls:=.type "range",data:=.fields #[.int lo t,.int hi u,.int 1 v] },toks:=tk }:=by
 refine wpAny_pyIter_range (IsRange.new ..) (small_one h1 h2 h3 h4) ?_;have I1:Inv X pins σ H { s with heap:=s.heap.push { cls:=.type "range",data:=.fields #[.int lo t,.int hi u,.int 1 v] },toks:=tk }:=I.kept λb o e=>Heap.get?_push_of_some _ e
 refine ⟨(s.heap.push { cls:=.type "range",data:=.fields #[.int lo t,.int hi u,.int 1 v] }).objs.size,[(s.heap.push { cls:=.type "range",data:=.fields #[.int lo t,.int hi u,.int 1 v] }).objs.size],_,_,H,rfl,
  I1.kept (t':=tk) λb o e=>Heap.get?_push_of_some _ e,sA _ lo (hi-lo).toNat,?_,λb hb=>?_,q⟩
 ·have e1:lo+((0:Nat):Int) * 1=lo:=by simp
  have e2:(((hi-lo).toNat:Nat):Int)-((0:Nat):Int)=Builtin.Range.rangeSize lo hi 1:=by rw [rangeSize_one];split <;> lia
  show IsRangeIter _ _ (lo+((0:Nat):Int) * 1) ((((hi-lo).toNat:Nat):Int)-((0:Nat):Int)) 1
  rw [e1,e2];exact Heap.get?_push_size _ rfl
 ·have e:b=(s.heap.push { cls:=.type "range",data:=.fields #[.int lo t,.int hi u,.int 1 v] }).objs.size:=by simpa using hb
  subst e;exact I1.fpOk (Zn _) (I1.hok.fresh (Zn _))
noncomputable def BG (ta:TA):TI:=fun σ H R=>ta σ H λvs H1=>∃j:Int,vs=[.int j]/\-(2 ^ 62)<=j/\j<2 ^ 62/\R (Itr 0 j.toNat) H1
noncomputable def BJ (ta:TA):TI:=fun σ H R=>ta σ H λvs H1=>∃i j:Int,vs=[.int i,.int j]/\(-(2 ^ 62)<=i/\i<2 ^ 62/\-(2 ^ 62)<=j/\j<2 ^ 62)/\R (Itr i (j-i).toNat) H1
theorem vn {a:Expr} {ta:TA} {p pos:Pos} (hg:Gl X "range") (hm:X.mg "range" = none) (ha:PA X [a] ta) (hs:starEach [a] X.env=[(false,eval a X.env)]:=by rfl):PI X tg (.Call (.Name "range" p) [a] [] pos) (BG ta):=by
 intro pins s σ H R I h;refine Call_ (iD I hg hm boot_range (PyProof.Rows.callWith_type1 (thn (ha pos pins s σ H _ I h) λus s1 ⟨vs,H1,I1,r1,q1⟩=>?_) hs rfl))
 obtain ⟨j,e,q1,q2,q⟩:=q1;subst e;cases r1 with
 |cons r rr =>
  cases rr;obtain ⟨t,rfl⟩:=r;exact call_range_1 (rC I1 (by lia) (by lia) q1 q2 (by simpa using q))
theorem uW {a b:Expr} {ta:TA} {p pos:Pos} (hg:Gl X "range") (hm:X.mg "range" = none) (ha:PA X [a,b] ta) (hs:starEach [a,b] X.env=[(false,eval a X.env),(false,eval b X.env)]:=by rfl) (hs2:starEach [b] X.env=[(false,eval b X.env)]:=by rfl) :
  PI X tg (.Call (.Name "range" p) [a,b] [] pos) (BJ ta):=by
 intro pins s σ H R I h;refine Call_ (iD I hg hm boot_range (PyProof.Rows.callWith_type1 (thn (ha pos pins s σ H _ I h) λus s1 ⟨vs,H1,I1,r1,q1⟩=>?_) (by rw [hs,hs2]) (by rw [hs2];rfl)))
 obtain ⟨i,j,e,⟨q1,q2,q3,q4⟩,q⟩:=q1;subst e;cases r1 with
 |cons r rr =>
  cases rr with
  |cons r' rr =>
   cases rr;obtain ⟨t,rfl⟩:=r;obtain ⟨t',rfl⟩:=r';exact call_range_2 (rC I1 q1 q2 q3 q4 q)
noncomputable def Ib (wi:TI) (g:TG) (tb:TS):TS:=λD σ H=>wi σ H λJ H1=>∃W:Nat->Nat->St->Hp->Prop,(∃m,W 0 m σ H1)/\∀i m σ H,W i m σ H ->
 (J.stop i H/\D.nx σ H)\/(J.go i H/\∃N:St->Hp->Prop,(∀σ' H',N σ' H'->∃m',m'<m/\W (i+1) m' σ' H')/\∀x H',J.yld i H x H'->g x σ H' fun σ2 H2=>tb { D with nx:=N,ct:=N,bk:=D.nx } σ2 H2)
noncomputable def mF (fp:List Addr) (h:Heap):List (Addr×Obj):=fp.filterMap λb=>(h.get? b).map λo=>(b,o)
theorem iI {fp:List Addr} {h:Heap} {b:Addr} {o:Obj} (hb:b∈fp) (e:h.get? b=some o):(b,o)∈mF fp h:=List.mem_filterMap.mpr ⟨b,hb,by rw [e];rfl⟩
theorem vt {fp:List Addr} {h:Heap} {p:Addr×Obj} (hp:p∈mF fp h):p.1∈fp/\h.get? p.1=some p.2:=by
 obtain ⟨b,hb,e⟩:=List.mem_filterMap.mp hp;cases q:h.get? b with
 |none=>rw [q]at e;cases e
 |some o =>
  rw [q]at e;have e':(b,o)=p:=Zz e;subst e';exact ⟨hb,q⟩
theorem Inv.pinned {pins:List (Addr×Obj)} {σ:St} {H:Hp} {s:Shared} {fp:List Addr} (I:Inv X pins σ H s) (hf:∀b∈fp,lP X pins H b) (ho:∀b∈fp,∃o,s.heap.get? b=some o/\∀v,o.data≠.cell v):Inv X (pins++mF fp s.heap) σ H s :=
 I.pins_of λp hp=>(Zs.mp hp).elim (λz=>I.pin p (Zq _ z)) λz=>by
  obtain ⟨hb,e⟩:=vt z;obtain ⟨f0,f1,f2,_⟩:=hf p.1 hb;obtain ⟨o,e',d⟩:=ho p.1 hb;rw [e]at e';cases e';exact ⟨e,f0,f1,f2,d⟩
theorem Inv.unpinned {pins pl:List (Addr×Obj)} {σ:St} {H:Hp} {s:Shared} (I:Inv X (pins++pl) σ H s):Inv X pins σ H s:=I.pins_of λp hp=>I.pin p (Zq _ (Zw _ hp))
theorem CL {iter:Expr} {body:List Stmt} {wi:TI} {g:TG} {tb:TS} {pos:Pos} (hp:PassesOwn (model X.prog X.w) X.A X.env X.xe) (hc:X.calm=true) (hi:PI X tg iter wi) (hg:PG X tg g) (hb:PSs X body tb)
  (hs:∀x,foldedSetIterable iter X.env x=pure x:=by intro _;rfl):PS X (.For tg iter body [] pos) (Ib wi g tb):=by
 intro pins s σ H D I h;refine wpAny_For (thn (hi pins s σ H _ I h) λv s1 h1=>thn h1 λitv s2 h2=>?_) hs
 obtain ⟨it,fp,tn,J,H2,e,I2,T,st2,f2,W,⟨m0,w0⟩,turn⟩:=h2;subst e;have stat:∀{H':Hp},(∀b∈fp,H' b=none)->∀b∈fp,lP X pins H' b:=λhn b hb=>⟨hn b hb,(f2 b hb).2⟩
 refine codeAny_forLoop_any (λn s'=>∃i σ' H',Inv X pins σ' H' s'/\tn i s'.heap/\(∀b∈fp,H' b=none)/\W i n σ' H') ?_ m0 ⟨0,σ,H2,I2,st2,λb hb=>(f2 b hb).1,w0⟩
 rintro n s3 ⟨i,σ3,H3,I3,st3,fr3,w3⟩;rcases turn i n σ3 H3 w3 with ⟨stop,qn⟩ | ⟨go,N,hN,step⟩
 ·refine wpAny_passesOwn hp (thn (T.done X rfl rfl rfl hc i pins s3 σ3 H3 X.xe I3 (stat fr3) st3 stop) λr s4 ⟨hr,I4⟩=>?_)
  subst hr;exact wpAny_execs_nil ⟨σ3,H3,I4,qn⟩
 ·refine wpAny_passesOwn hp (thn (T.item X rfl rfl rfl hc i pins s3 σ3 H3 X.xe I3 (stat fr3) st3 go) λr s4 ⟨u,hr,h4⟩=>?_)
  subst hr;refine wpAny_passesOwn hp (thn h4 λ_ s5 ⟨x,H5,I5,r5,y5,st5,fr5⟩=>?_)
  have I5':=I5.pinned (stat fr5) (T.obj _ _ st5);refine wpAny_passesOwn hp (thn (hg _ s5 σ3 H5 x u _ I5' r5 (step x H5 y5)) λ_ s6 ⟨σ6,H6,I6,q6⟩=>?_)
  refine wpAny_passesOwn hp (thn (hb _ s6 σ6 H6 _ I6 q6) λf s7 q7=>?_)
  have again:∀{σ7:St} {H7:Hp},Inv X (pins++mF fp s5.heap) σ7 H7 s7->N σ7 H7->∃m,m<n/\∃i σ' H',Inv X pins σ' H' s7/\tn i s7.heap/\(∀b∈fp,H' b=none)/\W i m σ' H':=fun {σ7 H7} I7 n7=>by
   obtain ⟨m',hm,w7⟩:=hN σ7 H7 n7;refine ⟨m',hm,i+1,σ7,H7,I7.unpinned,T.keep _ _ _ st5 λb hb o e=>(I7.pin (b,o) (Zq _ (Zq _ (iI hb e)))).1,λb hb=>?_,w7⟩
   obtain ⟨o,e,d⟩:=T.obj _ _ st5 b hb;exact (I7.pin (b,o) (Zq _ (Zq _ (iI hb e)))).2.1
  cases f with
  |next=>obtain ⟨σ7,H7,I7,n7⟩:=q7;exact again I7 n7
  |cont=>obtain ⟨σ7,H7,I7,n7⟩:=q7;exact again I7 n7
  |brk=>obtain ⟨σ7,H7,I7,q7⟩:=q7;exact ⟨σ7,H7,I7.unpinned,q7⟩
  |ret v=>obtain ⟨x7,σ7,H7,I7,r7,q7⟩:=q7;exact ⟨x7,σ7,H7,I7.unpinned,r7,q7⟩
end
noncomputable abbrev R2:=V->V->Hp->VK->Prop
noncomputable def OpR (X:Cx) (f:Value->Value->Sem Value) (r:R2):Prop :=
 ∀(pins:List (Addr×Obj)) (s:Shared) (σ:St) (H:Hp) (x y:V) (v u:Value) (Q:VK),Inv X pins σ H s->RelV x v->RelV y u->r x y H Q ->
  wpAny (model X.prog X.w) X.A (f v u) (EP X pins σ Q) X.xe s
noncomputable def UnR (X:Cx) (f:Value->Sem Value) (r:V->Hp->VK->Prop):Prop :=
 ∀(pins:List (Addr×Obj)) (s:Shared) (σ:St) (H:Hp) (x:V) (v:Value) (Q:VK),Inv X pins σ H s->RelV x v->r x H Q ->
  wpAny (model X.prog X.w) X.A (f v) (EP X pins σ Q) X.xe s
noncomputable def eV (X:Cx) (f:Value) (r:List V->Hp->VK->Prop):Prop :=
 ∀(pins:List (Addr×Obj)) (s:Shared) (σ:St) (H:Hp) (xs:List V) (us:List Value) (Q:VK),Inv X pins σ H s->Vals xs us->r xs H Q ->
  wpAny (model X.prog X.w) X.A (call f us) (EP X pins σ Q) X.xe s
noncomputable def tOp (r:R2) (ta tb:TE):TE:=fun σ H Q=>ta σ H λx H1=>tb σ H1 λy H2=>r x y H2 Q
noncomputable def tUn (r:V->Hp->VK->Prop) (ta:TE):TE:=fun σ H Q=>ta σ H λx H1=>r x H1 Q
noncomputable def rI (C:Int->Int->Prop) (g:Int->Int->V):R2:=λx y H Q=>∃i j,x=.int i/\y=.int j/\C i j/\Q (g i j) H
noncomputable def rI0 (g:Int->Int->V):R2:=λx y H Q=>∃i j,x=.int i/\y=.int j/\Q (g i j) H
noncomputable def rU (g:Int->V):V->Hp->VK->Prop:=λx H Q=>∃i,x=.int i/\Q (g i) H
section
variable {X:Cx} {a b c:Expr} {ta tb tc:TE} {pos:Pos}
theorem CK (ha:PE X a ta) (hb:PE X b tb) {pins:List (Addr×Obj)} {s:Shared} {σ:St} {H:Hp} {R:V->V->Hp->Prop} (I:Inv X pins σ H s)
  (h:ta σ H λx H1=>tb σ H1 λy H2=>R x y H2) {Q:Value->Shared->Prop} {f:Value->Value->Sem Value}
  (hf:∀v u s2 x y H2,Inv X pins σ H2 s2->RelV x v->RelV y u->R x y H2->wpAny (model X.prog X.w) X.A (f v u) Q X.xe s2) :
  wpAny (model X.prog X.w) X.A (eval a X.env) (λv s₁=>wpAny (model X.prog X.w) X.A (eval b X.env) (λu s₂=>wpAny (model X.prog X.w) X.A (f v u) Q X.xe s₂) X.xe s₁) X.xe s:=by
 refine thn (ha pins s σ H _ I h) λv s1 ⟨x,H1,I1,r1,q1⟩=>?_
 refine thn (hb pins s1 σ H1 _ I1 q1) λu s2 ⟨y,H2,I2,r2,q2⟩=>?_
 exact hf v u s2 x y H2 I2 r1 r2 q2
theorem BE {op:Operator} {r:R2} (ho:OpR X (binaryOp op) r) (ha:PE X a ta) (hb:PE X b tb):PE X (.BinOp a op b pos) (tOp r ta tb):=by
 intro pins s σ H Q I h;exact wpAny_BinOp (CK ha hb I h λv u s2 x y H2 I2 rx ry q=>ho pins s2 σ H2 x y v u Q I2 rx ry q)
theorem GZ {op:UnaryOp} {r:V->Hp->VK->Prop} (ho:UnR X (unaryOp op) r) (ha:PE X a ta):PE X (.UnaryOp op a pos) (tUn r ta):=by
 intro pins s σ H Q I h;exact UnaryOp_ (thn (ha pins s σ H _ I h) λv s1 ⟨x,H1,I1,r1,q1⟩=>ho pins s1 σ H1 x v Q I1 r1 q1)
theorem opI {f:Value->Value->Sem Value} {C:Int->Int->Prop} {g:Int->Int->Int}
  (rule:∀(i j:Int) (t u:Tok) (s:Shared) (Q:Value->Shared->Prop) (E:Value->Shared->Prop),C i j->Q (.int (g i j) s.toks) { s with toks:=s.toks+1 }->wpAny (model X.prog X.w) X.A (f (.int i t) (.int j u)) Q E s) :
  OpR X f (rI C λi j=>.int (g i j)):=by
 intro pins s σ H x y v u Q I rx ry h;obtain ⟨i,j,rfl,rfl,hc,q⟩:=h;obtain ⟨t,rfl⟩:=rx;obtain ⟨t',rfl⟩:=ry;exact rule i j t t' s _ _ hc ⟨.int (g i j),H,I.tok _,⟨_,rfl⟩,q⟩
theorem Jj {f:Value->Value->Sem Value} {g:Int->Int->Int}
  (rule:∀(i j:Int) (t u:Tok) (s:Shared) (Q:Value->Shared->Prop) (E:Value->Shared->Prop),Q (.int (g i j) s.toks) { s with toks:=s.toks+1 }->wpAny (model X.prog X.w) X.A (f (.int i t) (.int j u)) Q E s) :
  OpR X f (rI0 λi j=>.int (g i j)):=by
 intro pins s σ H x y v u Q I rx ry h;obtain ⟨i,j,rfl,rfl,q⟩:=h;obtain ⟨t,rfl⟩:=rx;obtain ⟨t',rfl⟩:=ry;exact rule i j t t' s _ _ ⟨.int (g i j),H,I.tok _,⟨_,rfl⟩,q⟩
theorem Cu {f:Value->Value->Sem Value} {g:Int->Int->Bool}
  (rule:∀(i j:Int) (t u:Tok) (s:Shared) (Q:Value->Shared->Prop) (E:Value->Shared->Prop),Q (.bool (g i j)) s->wpAny (model X.prog X.w) X.A (f (.int i t) (.int j u)) Q E s) :
  OpR X f (rI0 λi j=>.bl (g i j)):=by
 intro pins s σ H x y v u Q I rx ry h;obtain ⟨i,j,rfl,rfl,q⟩:=h;obtain ⟨t,rfl⟩:=rx;obtain ⟨t',rfl⟩:=ry;exact rule i j t t' s _ _ ⟨.bl (g i j),H,I,rfl,q⟩
noncomputable def FU (i j:Int):Prop:=0<j/\j<1073741824
noncomputable def wD (i j:Int):Prop:=(-(2 ^ 64)<i/\i<2 ^ 64)\/(-(2 ^ 64)<j/\j<2 ^ 64)
theorem wD.ok {i j:Int} (h:wD i j):IntMulOk i j:=by
 rcases h with ⟨h1,h2⟩ | ⟨h1,h2⟩
 ·exact .of_left (intBits_le_64 h1 h2)
 ·exact .of_right (intBits_le_64 h1 h2)
theorem wY:OpR X (binaryOp .Add) (rI0 λi j=>.int (i+j)):=Jj λ_ _ _ _ _ _ _ q=>add_int q
theorem Cs:OpR X (binaryOp .Mult) (rI wD λi j=>.int (i * j)):=opI λ_ _ _ _ _ _ _ hc q=>mul_int q hc.ok
theorem gM:OpR X (binaryOp .FloorDiv) (rI FU λi j=>.int (i / j)):=opI λi j _ _ _ _ _ hc q=>by
 have h1:(0:Int)<j:=hc.1;have h2:j<1073741824:=hc.2;exact floordiv_int (by lia) (by rw [Int.fdiv_eq_ediv_of_nonneg i (by lia)];exact q) (.inl (PyProof.noPylong_small (by lia)))
theorem eD:OpR X (binaryOp .Mod) (rI (λ_ j=>0<j) λi j=>.int (i % j)):=opI λi j _ _ _ _ _ hc q=>by
 have h1:(0:Int)<j:=hc;exact mod_int' (by lia) (by rw [Int.fmod_eq_emod_of_nonneg i (by lia)];exact q)
theorem unI {f:Value->Sem Value} {g:Int->Int}
  (rule:∀(i:Int) (t:Tok) (s:Shared) (Q:Value->Shared->Prop) (E:Value->Shared->Prop),Q (.int (g i) s.toks) { s with toks:=s.toks+1 }->wpAny (model X.prog X.w) X.A (f (.int i t)) Q E s) :
  UnR X f (rU λi=>.int (g i)):=by
 intro pins s σ H x v Q I rx h;obtain ⟨i,rfl,q⟩:=h;obtain ⟨t,rfl⟩:=rx;exact rule i t s _ _ ⟨.int (g i),H,I.tok _,⟨_,rfl⟩,q⟩
theorem g9:UnR X (unaryOp .USub) (rU λi=>.int (-i)):=unI λ_ _ _ _ _ q=>neg_int q
end
noncomputable def Er:V->V->Bool
 |.non,.non=>true | .non,.int _=>true | .int _,.non=>true | .non,.bl _=>true | .bl _,.non=>true | .non,.str _=>true | .str _,.non=>true
 |.int _,.int _=>true | .bl _,.bl _=>true | .str _,.str _=>true | .byt _,.byt _=>true
 |.int _,.str _=>true | .str _,.int _=>true | .bl _,.str _=>true | .str _,.bl _=>true
 |_,_=>false
noncomputable def rEq:R2:=λx y H Q=>Er x y=true/\Q (.bl (decide (x=y))) H
noncomputable def rNe:R2:=λx y H Q=>Er x y=true/\Q (.bl (!decide (x=y))) H
theorem t4 {i j:Int}:decide (V.int i=V.int j)=(i == j):=by
 rw [Bool.eq_iff_iff];simp
theorem xj {i j:Bool}:decide (V.bl i=V.bl j)=(i == j):=by
 rw [Bool.eq_iff_iff];simp
theorem tP {i j:Str}:decide (V.str i=V.str j)=(i == j):=by
 rw [Bool.eq_iff_iff];simp
theorem sS {i j:Array UInt8}:decide (V.byt i=V.byt j)=(i.toList == j.toList):=by
 rw [Bool.eq_iff_iff];cases i;cases j;simp
section
variable {X:Cx} {a b c:Expr} {ta tb tc:TE} {pos:Pos}
theorem bJ {pins:List (Addr×Obj)} {σ:St} {H:Hp} {s:Shared} {Q:VK} {k k':Bool} (I:Inv X pins σ H s) (q:Q (.bl k) H) (e:k=k'):EP X pins σ Q (.bool k') s:=by
 subst e;exact ⟨.bl k,H,I,rfl,q⟩
theorem Fw:OpR X (compareOp .Eq) rEq:=by
 intro pins s σ H x y v u Q I rx ry h;obtain ⟨hs,q⟩:=h;cases x with
 |non =>
  cases rx;cases y with
  |non=>cases ry;exact PySem.EqNone.eq_none_none (bJ I q (by simp))
  |bl j=>cases ry;exact PySem.EqNone.eq_none_bool (bJ I q (by simp))
  |int j=>obtain ⟨t',rfl⟩:=ry;exact PySem.EqNone.eq_none_int (bJ I q (by simp))
  |str j=>obtain ⟨t',rfl⟩:=ry;exact PySem.EqNone.eq_none_str (bJ I q (by simp))
  |_=>exact absurd (show false=true from hs) Zm
 |bl i =>
  cases rx;cases y with
  |non=>cases ry;exact PySem.EqNone.eq_bool_none (bJ I q (by simp))
  |bl j=>cases ry;exact eq_bool (bJ I q xj)
  |str j=>obtain ⟨t',rfl⟩:=ry;exact PySem.EqMixed.eq_bool_str (bJ I q (by simp))
  |_=>exact absurd (show false=true from hs) Zm
 |int i =>
  obtain ⟨t,rfl⟩:=rx;cases y with
  |non=>cases ry;exact PySem.EqNone.eq_int_none (bJ I q (by simp))
  |int j=>obtain ⟨t',rfl⟩:=ry;exact eq_int (bJ I q t4)
  |str j=>obtain ⟨t',rfl⟩:=ry;exact PySem.EqMixed.eq_int_str (bJ I q (by simp))
  |_=>exact absurd (show false=true from hs) Zm
 |str i =>
  obtain ⟨t,rfl⟩:=rx;cases y with
  |non=>cases ry;exact PySem.EqNone.eq_str_none (bJ I q (by simp))
  |bl j=>cases ry;exact PySem.EqMixed.eq_str_bool (bJ I q (by simp))
  |int j=>obtain ⟨t',rfl⟩:=ry;exact PySem.EqMixed.eq_str_int (bJ I q (by simp))
  |str j=>obtain ⟨t',rfl⟩:=ry;exact eq_str (bJ I q tP)
  |_=>exact absurd (show false=true from hs) Zm
 |byt i =>
  obtain ⟨t,rfl⟩:=rx;cases y with
  |byt j=>obtain ⟨t',rfl⟩:=ry;exact PySem.W.eq_bytes (bJ I q sS)
  |_=>exact absurd (show false=true from hs) Zm
 |_=>cases y <;> exact absurd (show false=true from hs) Zm
theorem xQ:OpR X (compareOp .NotEq) rNe:=by
 intro pins s σ H x y v u Q I rx ry h;obtain ⟨hs,q⟩:=h;cases x with
 |non =>
  cases rx;cases y with
  |non=>cases ry;exact PySem.EqNone.ne_none_none (bJ I q (by simp))
  |bl j=>cases ry;exact PySem.EqNone.ne_none_bool (bJ I q (by simp))
  |int j=>obtain ⟨t',rfl⟩:=ry;exact PySem.EqNone.ne_none_int (bJ I q (by simp))
  |str j=>obtain ⟨t',rfl⟩:=ry;exact PySem.EqNone.ne_none_str (bJ I q (by simp))
  |_=>exact absurd (show false=true from hs) Zm
 |bl i =>
  cases rx;cases y with
  |non=>cases ry;exact PySem.EqNone.ne_bool_none (bJ I q (by simp))
  |bl j=>cases ry;exact ne_bool (bJ I q (congrArg not xj))
  |str j=>obtain ⟨t',rfl⟩:=ry;exact PySem.EqMixed.ne_bool_str (bJ I q (by simp))
  |_=>exact absurd (show false=true from hs) Zm
 |int i =>
  obtain ⟨t,rfl⟩:=rx;cases y with
  |non=>cases ry;exact PySem.EqNone.ne_int_none (bJ I q (by simp))
  |int j=>obtain ⟨t',rfl⟩:=ry;exact ne_int (bJ I q (congrArg not t4))
  |str j=>obtain ⟨t',rfl⟩:=ry;exact PySem.EqMixed.ne_int_str (bJ I q (by simp))
  |_=>exact absurd (show false=true from hs) Zm
 |str i =>
  obtain ⟨t,rfl⟩:=rx;cases y with
  |non=>cases ry;exact PySem.EqNone.ne_str_none (bJ I q (by simp))
  |bl j=>cases ry;exact PySem.EqMixed.ne_str_bool (bJ I q (by simp))
  |int j=>obtain ⟨t',rfl⟩:=ry;exact PySem.EqMixed.ne_str_int (bJ I q (by simp))
  |str j=>obtain ⟨t',rfl⟩:=ry;exact ne_str (bJ I q (congrArg not tP))
  |_=>exact absurd (show false=true from hs) Zm
 |byt i =>
  obtain ⟨t,rfl⟩:=rx;cases y with
  |byt j=>obtain ⟨t',rfl⟩:=ry;exact PySem.W.ne_bytes (bJ I q (congrArg not sS))
  |_=>exact absurd (show false=true from hs) Zm
 |_=>cases y <;> exact absurd (show false=true from hs) Zm
theorem tL:OpR X (compareOp .Lt) (rI0 λi j=>.bl (decide (i<j))):=Cu λ_ _ _ _ _ _ _ q=>lt_int q
theorem Bk:OpR X (compareOp .Gt) (rI0 λi j=>.bl (decide (j<i))):=Cu λ_ _ _ _ _ _ _ q=>gt_int q
theorem uE:OpR X (compareOp .GtE) (rI0 λi j=>.bl (decide (j<=i))):=Cu λ_ _ _ _ _ _ _ q=>ge_int q
noncomputable def isObj:HO->Bool
 |.lst _=>true
 |.ins _ _ _=>true
 |_=>false
theorem oK {pins:List (Addr×Obj)} {s:Shared} {σ:St} {H:Hp} {a:Addr} {o:HO} (I:Inv X pins σ H s) (h:H a=some o) (p:isObj o=true):∃ob,s.heap.get? a=some ob/\ob.cls≠.type "tuple" := by
 cases o with
 |lst xs =>
  obtain ⟨_,its,n,_,e⟩:xs.length<=sizeLine/\∃(its:List Value) (n:Nat),Vals xs its/\s.heap.get? a=some { cls:=.type "list",data:=.seq its.toArray n }:=I.hok a _ h;exact ⟨_,e,(by show Value.type "list" ≠ .type "tuple";decide +kernel)⟩
 |ins C dx fs =>
  have x:=I.hok a _ h;obtain ⟨_,_,_,e,_⟩:=x;exact ⟨_,e,(by show Value.ref C≠.type "tuple";exact λz=>by cases z)⟩
 |_=>exact absurd (show false=true from p) Zm
theorem OpR.or {f:Value->Value->Sem Value} {r r':R2} (h:OpR X f r) (h':OpR X f r'):OpR X f (λx y H Q=>r x y H Q\/r' x y H Q):=by
 intro pins s σ H x y v u Q I rx ry q;rcases q with q | q
 ·exact h pins s σ H x y v u Q I rx ry q
 ·exact h' pins s σ H x y v u Q I rx ry q
theorem aJ (b:Expr) {op:CmpOp} (h:op≠.In:=by decide) (h2:op≠.NotIn:=by decide):behindInMarks op b=false:=by
 have e1:(op == CmpOp.In)=false:=by cases op <;> first | rfl | exact absurd rfl h
 have e2:(op == CmpOp.NotIn)=false:=by cases op <;> first | rfl | exact absurd rfl h2
 cases b <;> simp [behindInMarks,e1,e2]
theorem zQ {op:CmpOp} {r:R2} (ho:OpR X (compareOp op) r) (ha:PE X a ta) (hb:PE X b tb) (hm:behindInMarks op b=false):PE X (.Compare a [op] [b] pos) (tOp r ta tb):=by
 intro pins s σ H Q I h;exact wpAny_Compare1 (CK ha hb I h λv u s2 x y H2 I2 rx ry q=>ho pins s2 σ H2 x y v u Q I2 rx ry q) hm
noncomputable def qM (t:TE):TT:=fun σ H Q=>t σ H λx H'=>∃k,x=.bl k/\Q k H'
theorem qm {op:CmpOp} {r:R2} (ho:OpR X (compareOp op) r) (ha:PE X a ta) (hb:PE X b tb) (hm:behindInMarks op b=false):PT X (.Compare a [op] [b] pos) (qM (tOp r ta tb)):=by
 intro pins s σ H Q I h;refine wpAny_isTrue_Compare1 (thn (ha pins s σ H _ I h) λv s1 ⟨x,H1,I1,r1,q1⟩=>thn (hb pins s1 σ H1 _ I1 q1) λu s2 ⟨y,H2,I2,r2,q2⟩ =>
  thn (ho pins s2 σ H2 x y v u _ I2 r1 r2 q2) λc s3 ⟨z,H3,I3,r3,k,e,q3⟩=>?_) hm
 subst e;cases r3;exact wpAny_truthy_bool ⟨H3,I3,q3⟩
theorem iT:(sizeLine:Nat)<2 ^ 63:=by rw [sizeLine_eq];decide
theorem sO:OpR X (binaryOp .Add) (λx y H Q=>∃i j,x=.str i/\y=.str j/\i.length+j.length<=sizeLine/\Q (.str (i++j)) H):=by
 intro pins s σ H x y v u Q I rx ry h;obtain ⟨i,j,rfl,rfl,hz,q⟩:=h;obtain ⟨t,rfl⟩:=rx;obtain ⟨t',rfl⟩:=ry;exact add_str (λt' tk=>⟨.str (i++j),H,I.tok _,⟨_,rfl⟩,q⟩) hz
theorem vals1 {x:V} {us:List Value} (r:Vals [x] us):∃u,us=[u]/\RelV x u:=by
 cases r with
 |cons r1 r2=>cases r2;exact ⟨_,rfl,r1⟩
theorem vals2 {x y:V} {us:List Value} (r:Vals [x,y] us):∃u w',us=[u,w']/\RelV x u/\RelV y w':=by
 cases r with
 |cons r1 r2 =>
  cases r2 with
  |cons r3 r4=>cases r4;exact ⟨_,_,rfl,r1,r3⟩
theorem ve (hc:X.calm=true):eV X (.builtin "min") (λxs H Q=>∃i j,xs=[.int i,.int j]/\Q (.int (if j<i then j else i)) H):=by
 intro pins s σ H xs us Q I r h;obtain ⟨i,j,rfl,q⟩:=h;obtain ⟨u,w',rfl,⟨t,rfl⟩,⟨t',rfl⟩⟩:=vals2 r;refine min_two_ints (I.ok.hd hc) λh' tk k=>⟨_,H,I.kept k,?_,q⟩
 by_cases hj:j<i
 ·rw [if_pos hj,if_pos hj];exact ⟨_,rfl⟩
 ·rw [if_neg hj,if_neg hj];exact ⟨_,rfl⟩
theorem o5:eV X (.type "int") (λxs H Q=>(∃i,xs=[.int i]/\Q (.int i) H)\/∃k,xs=[.bl k]/\Q (.int (if k then 1 else 0)) H):=by
 intro pins s σ H xs us Q I r h;rcases h with ⟨i,rfl,q⟩ | ⟨k,rfl,q⟩
 ·obtain ⟨u,rfl,t,rfl⟩:=vals1 r
  exact call_int_int ⟨.int i,H,I,⟨_,rfl⟩,q⟩
 ·obtain ⟨u,rfl,r1⟩:=vals1 r
  cases r1;exact call_int_bool ⟨.int (if k then 1 else 0),H,I.tok _,⟨_,rfl⟩,q⟩
end
structure ObjM (h:Heap) (x dx C:Addr) (mA:Str->Option Value):Prop where
 obj:h.get? x=some (PySem.W.instObj C dx)
 ns:h.Ns1 dx mA
 ne:dx≠x
theorem vf {h:Heap} {dx:Addr} {mA:Str->Option Value} (n:h.Ns1 dx mA):∃od,h.get? dx=some od/\∀name,PySem.W.lookIn name od=some (mA name):=by
 obtain ⟨o,es,ep,ho,hd,hk,_,hm⟩:=n;refine ⟨o,ho,λname=>?_⟩
 have e:=hm name;unfold nsFind findBy at e;rw [<-Array.find?_toList]at e;unfold PySem.W.lookIn;rw [hd]
 dsimp only
 split
 ·rename_i y q
  rw [q]at e;exact congrArg some e
 ·rename_i q
  rw [q]at e;have a:es.toList.any (·.refKey)=false:=by
   rw [List.any_eq_false];intro y hy;obtain ⟨z,t,hkey⟩:=hk y (Array.mem_toList_iff.mp hy);simp [DictEntry.refKey,hkey]
  have a':¬es.toList.any (·.refKey)=true:=by rw [a];exact Zm
  rw [if_neg a'];exact congrArg some e
theorem ObjM.look {h:Heap} {x dx C:Addr} {mA:Str->Option Value} (I:ObjM h x dx C mA):∃od,PySem.W.InstAt h x (PySem.W.instObj C dx) C (some od)/\∀name,PySem.W.lookIn name od=some (mA name) :=
 let ⟨od,ho,hl⟩:=vf I.ns
 ⟨od,⟨I.obj,rfl,rfl,ho⟩,hl⟩
section
variable {prog:Program} {w:World} {A:Around} {E:Value->Shared->Prop} {s:Shared} {K:PySem.W.Frag} {x dx C f:Addr} {mA:Str->Option Value} {name:Str} {v:Value}
theorem get_map {expr:Bool} {Q:Value->Shared->Prop} (X:K.In s.heap) (I:ObjM s.heap x dx C mA) (hg:PySem.W.plainGet K C name=true) (hh:PySem.W.hasDictIn K C=true)
  (ha:PySem.W.findIn K (.ref C) name=some none) (hv:mA name=some v) (hv':PySem.W.handedIn v=true) (h:Q v { s with toks:=s.toks+1 }) :
  wpAny (model prog w) A (getAttr (.ref x) name expr) Q E s:=by
 obtain ⟨od,J,hl⟩:=I.look;exact PySem.W.get_value X J (PySem.W.plainGet_of hg).1 (PySem.W.findObj_own hh ha rfl (by rw [hl,hv])) hv' h
theorem yi {pl:Sem Bool} {Q:Value×List Value->Shared->Prop} (X:K.In s.heap) (I:ObjM s.heap x dx C mA) (hg:PySem.W.plainGet K C name=true)
  (hf:PySem.W.findIn K (.ref C) name=some (some (.ref f))) (ht:PySem.W.isFn K (.ref f)=true) (hv:mA name=none) (h:Q (.ref f,[.ref x]) s) :
  wpAny (model prog w) A (getMethod (.ref x) name pl) Q E s:=by
 obtain ⟨od,J,hl⟩:=I.look;exact PySem.W.method_fn X J (PySem.W.plainGet_of hg).1 (PySem.W.plainGet_of hg).2 hf (beq_iff_eq.mp ht) (by show (PySem.W.lookIn name od).map (·.isSome)=some false;rw [hl,hv];rfl) h
theorem An {ns:List Str} {Q:Unit->Shared->Prop} (X:K.In s.heap) (I:ObjM s.heap x dx C mA)
  (hs:PySem.W.findIn K (.ref C) "__setattr__" = some (some (.builtin "object.__setattr__"))) (hp:PySem.W.plainOver K C=true) (ht:PySem.W.takerIn K C name=some none) (hh:PySem.W.hasDictIn K C=true)
  (hw:PySem.Within mA ns) (hsz:ns.length<=sizeLine)
  (h:∀h',ObjM h' x dx C (λy=>if y=name then some v else mA y)->Heap.SameBut dx s.heap h'->Q () { s with heap:=h',toks:=s.toks+2 }) :
  wpAny (model prog w) A (setAttr (.ref x) name v) Q E s:=by
 obtain ⟨od,J,hl⟩:=I.look;refine PySem.W.set_plain X J hs (PySem.W.osa_open (s:={ s with toks:=s.toks+1 }) (r:=none) X J hp ht λb=>?_)
 obtain ⟨cd,hc,hd'⟩:=PySem.W.any_some hh;have hx:s.heap.get? x=some ⟨.ref C,some dx,.plain,#[]⟩:=I.obj;refine wpAny_bind (wpAny_pure (wpAny_bind (wpAny_bind (wpAny_loadPart hx (wpAny_bind (PySem.W.Looks.here (s:={ s with toks:=s.toks+1 }) (PySem.W.looks_clsIn X hc) ?_))))))
 rw [hd'];refine wpAny_pure (a:=some dx) (wpAny_bind (wpAny_pure (wpAny_bind ?_)));refine wpAny_nsSet1 (s:={ s with toks:=s.toks+1 }) I.ns λh' hn2 hs2=>?_
 obtain ⟨oD,esD,epD,hoD,hdD,hcD⟩:=hn2.count (PySem.Within.cons name v hw);refine wpAny_bind (wpAny_lookBehind hoD (by rw [hdD];exact pastItsLine_dict (ZG hcD (by rw [Zr];lia))) ?_)
 exact wpAny_pure (h _ ⟨(hs2.2 _ (Ne.symm I.ne)).trans I.obj,hn2,I.ne⟩ hs2)
theorem yR {R:Result->Shared->Prop} {vs:List Value} {kw:List (Str×Value)} (X:K.In s.heap) (hm:PySem.W.makesIn K C=true)
  (hi:PySem.W.findIn K (.ref C) "__init__" = some (some (.ref f))) (hf:PySem.W.typeIn K (.ref f)=some (.type "function"))
  (h:codeAny (model prog w) (A.under (.builtin "type.__call__" ⟨.ref C :: vs,kw⟩)) (.call (.ref f) ⟨.ref (s.heap.objs.size+1) :: vs,kw⟩) (PySem.W.InitBack (s.heap.objs.size+1) R)
   { s with heap:=(s.heap.push PySem.W.emptyDict).push (PySem.W.instObj C s.heap.objs.size) }) :
  codeAny (model prog w) A (.call (.ref C) ⟨vs,kw⟩) R s:=by
 obtain ⟨hh,g,d,t,os⟩:=s;exact PySem.W.make_core (PySem.W.makes_of X hm) (PySem.W.looks_findIn X hi) (λself=>PySem.W.bind_fn X self hf) (.inl rfl) h
end
noncomputable def gu (f:Str) (v:V):List (Str×V)->List (Str×V)
 |[]=>[(f,v)]
 | (g,x) :: r=>if g=f then (g,v) :: r else (g,x) :: gu f v r
theorem lJ (f g:Str) (v:V):∀fs:List (Str×V),(gu f v fs).lookup g=if g=f then some v else fs.lookup g
 |[]=>by
  show List.lookup g [(f,v)]=_
  by_cases h:g=f
  ·have hb:(g == f)=true:=beq_iff_eq.mpr h
   simp only [List.lookup,hb,if_pos h]
  ·have hb:(g == f)=false:=beq_eq_false_iff_ne.mpr h
   simp only [List.lookup,hb,if_neg h]
 | (k,x) :: r=>by
  have ih:=lJ f g v r;rw [show gu f v ((k,x) :: r)=(if k=f then (k,v) :: r else (k,x) :: gu f v r) from rfl]
  by_cases hk:k=f
  ·rw [if_pos hk]
   by_cases h:g=k
   ·have hb:(g == k)=true:=beq_iff_eq.mpr h
    simp only [List.lookup,hb,if_pos (h.trans hk)]
   ·have hb:(g == k)=false:=beq_eq_false_iff_ne.mpr h
    simp only [List.lookup,hb,if_neg (λe:g=f=>h (e.trans hk.symm))]
  ·rw [if_neg hk]
   by_cases h:g=k
   ·have hb:(g == k)=true:=beq_iff_eq.mpr h
    simp only [List.lookup,hb,if_neg (λe:g=f=>hk (h.symm.trans e))]
   ·have hb:(g == k)=false:=beq_eq_false_iff_ne.mpr h
    simp only [List.lookup,hb];exact ih
theorem k6 (f:Str) (v:V):∀fs:List (Str×V),f∈(gu f v fs).map (·.1)/\∀g,g∈fs.map (·.1)->g∈(gu f v fs).map (·.1)
 |[]=>⟨by simp [gu],λg h=>by simp at h⟩
 | (k,x) :: r=>by
  obtain ⟨i1,i2⟩:=k6 f v r;rw [show gu f v ((k,x) :: r)=(if k=f then (k,v) :: r else (k,x) :: gu f v r) from rfl]
  by_cases hk:k=f
  ·rw [if_pos hk]
   subst hk;exact ⟨by simp,λg h=>by simpa using h⟩
  ·rw [if_neg hk]
   refine ⟨?_,λg h=>?_⟩
   ·rw [Zk]
    exact Ze _ i1
   ·rw [Zk]at h ⊢
    rcases Zo.mp h with e | e
    ·exact Zo.mpr (.inl e)
    ·exact Ze _ (i2 g e)
theorem lM (f:Str) (v:V):∀fs:List (Str×V),(gu f v fs).length<=fs.length+1
 |[]=>by simp [gu]
 | (k,x) :: r=>by
  have ih:=lM f v r;rw [show gu f v ((k,x) :: r)=(if k=f then (k,v) :: r else (k,x) :: gu f v r) from rfl]
  by_cases hk:k=f
  ·rw [if_pos hk,Zr,Zr];lia
  ·rw [if_neg hk,Zr,Zr];lia
theorem jx.some_of {v:V} {o:Option Value} (r:jx (some v) o):∃u,o=some u/\RelV v u:=by
 cases o with
 |none=>exact (show False from r).elim
 |some u=>exact ⟨u,rfl,r⟩
theorem jx.none_of {o:Option Value} (r:jx none o):o=none:=by
 cases o with
 |none=>rfl
 |some u=>exact (show False from r).elim
theorem vk {v:V} {u:Value} (r:RelV v u):PySem.W.handedIn u=true:=by
 cases v with
 |non=>cases (show u=Value.none from r);rfl
 |bl b=>cases (show u=Value.bool b from r);rfl
 |int i=>obtain ⟨t,e⟩:=(show ∃t,u=Value.int i t from r);cases e;rfl
 |str x=>obtain ⟨t,e⟩:=(show ∃t,u=Value.str x t from r);cases e;rfl
 |byt b=>obtain ⟨t,e⟩:=(show ∃t,u=Value.bytes b t from r);cases e;rfl
 |flt b=>obtain ⟨t,e⟩:=(show ∃t,u=Value.float b t from r);cases e;rfl
 |ref a=>cases (show u=Value.ref a from r);rfl
 |ty n=>cases (show u=Value.type n from r);rfl
section
variable {P:Program} {w:World} {H H':Hp} {h h':Heap} {a C dx:Addr} {fs fs':List (Str×V)}
theorem qp (hok:HOk P w H h) (e:H a=some (.ins C dx fs)):∃mA,ObjM h a dx C mA/\(∀f,jx (fs.lookup f) (mA f))/\PySem.Within mA (fs.map (·.1))/\fs.length<=1000/\H dx=some (.own a):=by
 obtain ⟨d,z,ne,ob,mA,n,r,q⟩:=(show c9 P w H h a (.ins C dx fs) from hok a _ e)
 exact ⟨mA,⟨ob,n,ne⟩,r,q,z,d⟩
end
structure Cls (K:PySem.W.Frag) (C:Addr):Prop where
 pg:PySem.W.plainGet K C Str.empty=true
 hd:PySem.W.hasDictIn K C=true
 po:PySem.W.plainOver K C=true
 sa:PySem.W.findIn K (.ref C) "__setattr__" = some (some (.builtin "object.__setattr__"))
theorem Cls.get {K:PySem.W.Frag} {C:Addr} (c:Cls K C) (f:Str):PySem.W.plainGet K C f=true:=c.pg
noncomputable def eu (K:PySem.W.Frag) (C:Addr) (f:Str):Prop:=PySem.W.findIn K (.ref C) f=some none
theorem eu.taker {K:PySem.W.Frag} {C:Addr} {f:Str} (n:eu K C f):PySem.W.takerIn K C f=some none:=by
 unfold PySem.W.takerIn;rw [show PySem.W.findIn K (.ref C) f=some none from n]
 rfl
structure Con (K:PySem.W.Frag) (C:Addr) (f:Str) (v:V) (u:Value):Prop where
 at_:PySem.W.findIn K (.ref C) f=some (some u)
 rel:RelV v u
 get:PySem.W.specialIn K u "__get__" = some none
 cp:PySem.W.copiedNames.contains f=false
structure Meth (K:PySem.W.Frag) (C:Addr) (m:Str) (f:Addr):Prop where
 at_:PySem.W.findIn K (.ref C) m=some (some (.ref f))
 fn:PySem.W.isFn K (.ref f)=true
 kp:PySem.W.keepIn K (.ref f)=true
section
variable {X:Cx} {pins:List (Addr×Obj)} {σ:St} {H:Hp} {s:Shared} {a C dx:Addr} {fs:List (Str×V)} {f:Str} {v:V} {A:Around} {E:Value->Shared->Prop}
theorem sf {b:Bool} {Q:Value->Shared->Prop} (I:Inv X pins σ H s) (e:H a=some (.ins C dx fs)) (c:Cls X.K C) (n:eu X.K C f) (l:fs.lookup f=some v)
  (h:∀u s',Inv X pins σ H s'->RelV v u->Q u s'):wpAny (model X.prog X.w) A (getAttr (.ref a) f b) Q E s:=by
 obtain ⟨mA,O,r,_,_,_⟩:=qp I.hok e;obtain ⟨u,hu,ru⟩:=jx.some_of (v:=v) (o:=mA f) (by rw [<-l];exact r f)
 exact get_map I.kIn O (c.get f) c.hd n hu (vk ru) (h u _ (I.tok _) ru)
theorem mU {m:Str} {g:Addr} {pl:Sem Bool} {Q:Value×List Value->Shared->Prop} (I:Inv X pins σ H s) (e:H a=some (.ins C dx fs)) (c:Cls X.K C) (k:Meth X.K C m g) (l:fs.lookup m=none)
  (h:Q (.ref g,[.ref a]) s):wpAny (model X.prog X.w) A (getMethod (.ref a) m pl) Q E s:=by
 obtain ⟨mA,O,r,_,_,_⟩:=qp I.hok e;have hn:mA m=none:=jx.none_of (by rw [<-l];exact r m)
 exact yi I.kIn O (c.get m) k.at_ k.fn hn h
theorem rV {y:V} {u:Value} {Q:Unit->Shared->Prop} (I:Inv X pins σ H s) (e:H a=some (.ins C dx fs)) (c:Cls X.K C) (n:eu X.K C f) (hl:fs.length<1000) (ry:RelV y u)
  (h:∀s',Inv X pins σ (upd H a (.ins C dx (gu f y fs))) s'->Q () s'):wpAny (model X.prog X.w) A (setAttr (.ref a) f u) Q E s:=by
 obtain ⟨mA,O,r,wi,_,ho⟩:=qp I.hok e;have hz:(fs.map (·.1)).length<=sizeLine:=by rw [Zc,sizeLine_eq];lia
 refine An I.kIn O c.sa c.po n.taker c.hd wi hz λh' O' sb=>h _ ?_
 have hd:∃o,h'.get? dx=some o:=let ⟨o,_,_,e',_⟩:=O'.ns;⟨o,e'⟩;refine I.write (x:=a) (e:=dx) (by rw [e];exact True.intro) (.inr ho) (λb q hb z=>(sb.2 b hb).trans z) hd ?_
 refine ⟨by rw [az O.ne];exact ho,?_,O.ne,O'.obj,_,O'.ns,λg=>?_,λg hg=>?_⟩
 ·have:=lM f y fs;lia
 ·show jx ((gu f y fs).lookup g) (if g=f then some u else mA g)
  rw [lJ];by_cases q:g=f
  ·rw [if_pos q,if_pos q];exact ry
  ·rw [if_neg q,if_neg q];exact r g
 ·by_cases q:g=f
  ·rw [q];exact (k6 f y fs).1
  ·refine (k6 f y fs).2 g (wi g λz=>hg ?_)
   show (if g=f then some u else mA g)=none
   rw [if_neg q];exact z
theorem Inv.made (I:Inv X pins σ H s):Inv X pins σ (upd (upd H s.heap.objs.size (.own (s.heap.objs.size+1))) (s.heap.objs.size+1) (.ins C s.heap.objs.size []))
  { s with heap:=(s.heap.push PySem.W.emptyDict).push (PySem.W.instObj C s.heap.objs.size) }:=by
 have e1:(s.heap.push PySem.W.emptyDict).get? s.heap.objs.size=some PySem.W.emptyDict:=Heap.get?_push_size s.heap rfl;have e2:((s.heap.push PySem.W.emptyDict).push (PySem.W.instObj C s.heap.objs.size)).get? (s.heap.objs.size+1)=some (PySem.W.instObj C s.heap.objs.size):=by
  have:=Heap.get?_push_size (s.heap.push PySem.W.emptyDict) (o:=PySem.W.instObj C s.heap.objs.size) rfl
  rwa [Heap.size_push]at this
 have e3:(s.heap.push PySem.W.emptyDict).Ns s.heap.objs.size (λ_=>none):=⟨PySem.W.emptyDict,#[],_,e1,rfl,(λe he=>absurd he (by simp)),λ_=>rfl⟩
 have I1:=I.laid (a:=s.heap.objs.size) (o:=.own (s.heap.objs.size+1)) (h':=s.heap.push PySem.W.emptyDict) (t':=s.toks) (λb u q=>Heap.get?_push_of_some _ q) (Zn _) ⟨_,e1⟩
 refine I1.laid (a:=s.heap.objs.size+1) (o:=.ins C s.heap.objs.size []) (t':=s.toks) (λb u q=>Heap.get?_push_of_some _ q) (Nat.le_of_eq (Heap.size_push _ _)) ?_
 have ne:s.heap.objs.size≠s.heap.objs.size+1:=Nat.ne_of_lt (Nat.lt_succ_self _);refine ⟨by rw [az ne,aZ],Nat.zero_le _,ne,e2,λ_=>none,(Heap.Ns1.of_empty e3).at λo q=>Heap.get?_push_of_some _ q,λ_=>True.intro,λy hy=>absurd rfl hy⟩
theorem Ac {prog:Program} {w:World} {env:Env} {e:Expr} {f:Str} {pos:Pos} {s:Shared} {Q:Value->Shared->Prop} (hb:attributeBase e f env (eval e env)=eval e env)
  (h:wpAny (model prog w) A (eval e env) (λo s₁=>wpAny (model prog w) A (getAttr o f true) Q E s₁) E s):wpAny (model prog w) A (eval (.Attribute e f pos) env) Q E s :=
 Attribute_any_ h (by rw [arm_eval_Attribute,hb])
end
noncomputable def Eu (K:PySem.W.Frag) (ta:TE) (f:Str):TE:=fun σ H Q=>ta σ H λx H1=>∃a C dx fs v,x=.ref a/\H1 a=some (.ins C dx fs)/\Cls K C/\eu K C f/\fs.lookup f=some v/\Q v H1
noncomputable def Hc (K:PySem.W.Frag) (ta tv:TE) (f:Str):TS:=λD σ H=>tv σ H λy H1=>ta σ H1 λx H2=>∃a C dx fs,x=.ref a/\H2 a=some (.ins C dx fs)/\Cls K C/\eu K C f/\fs.length<1000 /\
 D.nx σ (upd H2 a (.ins C dx (gu f y fs)))
section
variable {X:Cx} {o e value:Expr} {f:Str} {pos pos' tpos:Pos} {ta tv:TE}
theorem wF (he:PE X e ta) (hb:attributeBase e f X.env (eval e X.env)=eval e X.env):PE X (.Attribute e f pos) (Eu X.K ta f):=by
 intro pins s σ H Q I h;refine Ac hb (thn (he pins s σ H _ I h) λu s1 ⟨x,H1,I1,rx,a,C,dx,fs,v,ex,ea,c,n,l,q⟩=>?_)
 subst ex;obtain rfl:u=Value.ref a:=rx;exact sf I1 ea c n l λu' s2 I2 ru=>⟨v,H1,I2,ru,q⟩
theorem Ej (ha:PE X o ta) (hv:PE X value tv) (hs:swapsWith value (some (.Attribute o f pos')) pos.line X.env=pure false):PS X (.Assign [.Attribute o f pos'] value pos) (Hc X.K ta tv f):=by
 intro pins s σ H D I h;refine plainObj_wpAny_Assign_Attribute (thn (hv pins s σ H _ I h) λu s1 ⟨y,H1,I1,ry,q⟩=>thn (ha pins s1 σ H1 _ I1 q) λov s2 ⟨x,H2,I2,rx,a,C,dx,fs,ex,ea,c,n,l,q2⟩=>?_) hs
 subst ex;obtain rfl:ov=Value.ref a:=rx;exact rV I2 ea c n l ry λs3 I3=>⟨σ,_,I3,q2⟩
end
section
variable {X:Cx} {pins:List (Addr×Obj)} {σ:St} {H:Hp} {s:Shared} {A:Around} {E:Value->Shared->Prop} {Q:Value->Shared->Prop} {c:Value} {b:Bool}
inductive TyOf (K:PySem.W.Frag) (H:Hp):V->Value->Prop where
 |non:TyOf K H .non (.type "NoneType")
 |bl (x:Bool):TyOf K H (.bl x) (.type "bool")
 |int (i:Int):TyOf K H (.int i) (.type "int")
 |str (x:Str):TyOf K H (.str x) (.type "str")
 |flt (x:UInt64):TyOf K H (.flt x) (.type "float")
 |lst {a:Addr} {xs:List V} (e:H a=some (.lst xs)):TyOf K H (.ref a) (.type "list")
 |frz {a:Addr} {o:Obj} {xs:List V} (e:H a=some (.frz o (.lst xs))):TyOf K H (.ref a) (.type "list")
 |tup {a:Addr} {xs:List V} (e:H a=some (.tup xs)):TyOf K H (.ref a) (.type "tuple")
 |dK {a:Addr} {kvs:List (Key×V)} (e:H a=some (.dK kvs)):TyOf K H (.ref a) (.type "dict")
 |dT {a:Addr} {kvs:List (List Key×V)} (e:H a=some (.dT kvs)):TyOf K H (.ref a) (.type "dict")
 |ins {a C dx:Addr} {fs:List (Str×V)} (e:H a=some (.ins C dx fs)) (cl:Cls K C) (ha:PySem.W.findIn K (.ref C) "__class__" = some (some (.builtin "object.__class__")))
   (hn:PySem.W.specialIn K (.builtin "object.__class__") "__get__" = some (some (.builtin "getset_descriptor.__get__"))) (htk:PySem.W.takesIn K (.builtin "object.__class__")=some true)
   (hm:PySem.W.mroIn K C (.type "object")=some true):TyOf K H (.ref a) (.ref C)
end
structure Room (k:Nat) (A:Around):Prop where
 hd:A.handled=none
 dp:A.depth+3 * k+5<recursionLimit
 un:A.units+16 * k+200<cLine
theorem Room.mono {j k:Nat} {A:Around} (r:Room k A) (h:j<=k):Room j A:=⟨r.hd,by have:=r.dp;lia,by have:=r.un;lia⟩
theorem Room.deeper {k:Nat} {A:Around} (r:Room (k+1) A) (env:Env):Room k (A.deeper env) :=
 ⟨r.hd,by have:=r.dp;show A.depth+1+3 * k+5<_;lia,by have:=r.un;show A.units+3+16 * k+200<_;lia⟩
theorem sD {A:Around} {C:Addr} {us:List Value} {kw:List (Str×Value)}:(A.under (.builtin "type.__call__" ⟨.ref C :: us,kw⟩)).depth=A.depth+1:=by
 first | rfl | simp [Around.under,Code.weight,Code.isCreation,Code.isGuard,Code.isCaller,Code.frames,Code.isFrame,guardIds]
theorem sL {A:Around} {C:Addr} {us:List Value} {kw:List (Str×Value)}:(A.under (.builtin "type.__call__" ⟨.ref C :: us,kw⟩)).units=A.units+1:=by
 first | rfl | simp [Around.under,Code.cUnits,Code.frames,Code.isFrame]
theorem Room.make {k:Nat} {A:Around} (r:Room (k+1) A) (C:Addr) (us:List Value) (kw:List (Str×Value)):Room k (A.under (.builtin "type.__call__" ⟨.ref C :: us,kw⟩)) :=
 ⟨r.hd,by have:=r.dp;rw [sD];lia,by have:=r.un;rw [sL];lia⟩
theorem Room.depth {k:Nat} {A:Around} (r:Room k A):A.depth<recursionLimit:=by have:=r.dp;lia
theorem Room.units {k:Nat} {A:Around} (r:Room k A):A.units+64<cLine:=by have:=r.un;lia
noncomputable def nT:TA:=λ_ H Q=>Q [] H
noncomputable def fv (ta:TE) (tr:TA):TA:=fun σ H Q=>ta σ H λx H1=>tr σ H1 λxs H2=>Q (x :: xs) H2
section
variable {X:Cx} {e:Expr} {es:List Expr} {te:TE} {t:TA} {pos:Pos}
theorem gF:PA X [] nT:=λ_ _ _ _ H Q I h=>Calls.spliced_nil ⟨[],H,I,.nil,h⟩
theorem b5 (ha:PE X e te) (hr:PA X es t) (hs:starEach (e :: es) X.env=(false,eval e X.env) :: starEach es X.env:=by rfl):PA X (e :: es) (fv te t):=by
 intro pos pins s σ H Q I h;rw [hs];show wpAny _ _ (spliced ((false,eval e X.env) :: backTo pos (starEach es X.env))) _ _ s
 refine Calls.spliced_cons (thn (ha pins s σ H _ I h) λu s1 ⟨x,H1,I1,r1,q1⟩=>?_)
 exact thn (hr pos pins s1 σ H1 _ I1 q1) λus s2 ⟨xs,H2,I2,r2,q2⟩=>⟨x :: xs,H2,I2,.cons r1 r2,q2⟩
noncomputable def zW (t:TA):TE:=fun σ H Q=>t σ H λxs H1=>xs.length<=sizeLine/\∀p,H1 p=none->Q (.ref p) (upd H1 p (.tup xs))
noncomputable def HQ (t:TA):TE:=fun σ H Q=>t σ H λxs H1=>xs.length<=sizeLine/\∀p,H1 p=none->Q (.ref p) (upd H1 p (.lst xs))
theorem wR {x1} (h:PA X es t):PE X (.Tuple es x1 pos) (zW t):=by
 intro pins s σ H Q I hq;refine wpAny_Tuple_spliced (thn (h pos pins s σ H _ I hq) λus s1 ⟨xs,H1,I1,r,z,q⟩=>⟨by rw [<-r.length];exact z,?_⟩)
 have hf:H1 s1.heap.objs.size=none:=I1.hok.fresh (Zn _);refine ⟨.ref s1.heap.objs.size,upd H1 s1.heap.objs.size (.tup xs),I1.laid (t':=s1.toks) (λb u e=>Heap.get?_push_of_some _ e) (Zn _) ?_,rfl,q _ hf⟩
 exact ⟨z,us,r,⟨_,Heap.get?_push_size _ rfl,rfl,_,rfl⟩⟩
theorem wa (h:PA X es t):PE X (.List es pos) (HQ t):=by
 intro pins s σ H Q I hq;refine wpAny_List_spliced (thn (h pos pins s σ H _ I hq) λus s1 ⟨xs,H1,I1,r,z,q⟩=>⟨by rw [<-r.length];exact z,?_⟩)
 have hf:H1 s1.heap.objs.size=none:=I1.hok.fresh (Zn _);refine ⟨.ref s1.heap.objs.size,upd H1 s1.heap.objs.size (.lst xs),I1.laid (t':=s1.toks) (λb u e=>Heap.get?_push_of_some _ e) (Zn _) ?_,rfl,q _ hf⟩
 exact ⟨z,us,0,r,Heap.get?_push_size _ rfl⟩
end
noncomputable abbrev Sp:=List V->Hp->VK->XK->Prop
noncomputable abbrev CXT:=List Env->Hp->Shared->XK->Value->Shared->Prop
structure Env0 (P:Program) (w:World) (K:PySem.W.Frag) (mg:Str->Option Value) (base:Heap) (A:Around) (outer:List Env) (s:Shared) (H:Hp):Prop where
 frames:A.frames=some outer
 mod:Mod K mg base
 bs:∀b o,base.get? b=some o->s.heap.get? b=some o/\H b=none
 bsz:base.objs.size<=s.heap.objs.size
 funs:s.heap.FunFrames base outer
 frf:∀b∈frs outer,H b=none
 hok:HOk P w H s.heap
 bare:AllBare s.gens
noncomputable def CE (outer:List Env) (P:Program) (w:World) (H:Hp) (s:Shared) (Q:VK) (u:Value) (s':Shared):Prop :=
 ∃v H',s'.os=s.os/\AllBare s'.gens/\Un (frs outer) [] H H' s.heap s'.heap/\HOk P w H' s'.heap/\RelV v u/\Q v H'
noncomputable def CR (CX:CXT) (outer:List Env) (P:Program) (w:World) (H:Hp) (s:Shared) (Q:VK) (E:XK) (r:Result) (s':Shared):Prop :=
 match r with
 |.ok (.ret u)=>CE outer P w H s Q u s'
 |.ok _=>False
 |.error e=>CX outer H s E e s'
structure FnOk (P:Program) (w:World) (K:PySem.W.Frag) (mg:Str->Option Value) (base:Heap) (CX:CXT) (k:Nat) (f:Addr) (fd:FuncData) (ps:List Str) (sp:Sp):Prop where
 len:∀vs H Q E,sp vs H Q E->vs.length=ps.length
 run:∀(A:Around) (outer:List Env) (s:Shared) (H:Hp) (args:Args) (us:List Value) (vs:List V) (Q:VK) (E:XK),Room k A->Env0 P w K mg base A outer s H->BindsTo s fd args (ps.zip us)->Vals vs us->sp vs H Q E ->
  codeAny (model P w) A (.call (.ref f) args) (CR CX outer P w H s Q E) s
theorem FnOk.mono {P:Program} {w:World} {K:PySem.W.Frag} {mg:Str->Option Value} {base:Heap} {CX:CXT} {j k:Nat} {f:Addr} {fd:FuncData} {ps:List Str} {sp:Sp} (F:FnOk P w K mg base CX j f fd ps sp) (h:j<=k) :
  FnOk P w K mg base CX k f fd ps sp:=⟨F.len,λA outer s H args us vs Q E hr=>F.run A outer s H args us vs Q E (hr.mono h)⟩
theorem FnOk.imp {P:Program} {w:World} {K:PySem.W.Frag} {mg:Str->Option Value} {base:Heap} {CX:CXT} {k:Nat} {f:Addr} {fd:FuncData} {ps:List Str} {sp sp':Sp} (F:FnOk P w K mg base CX k f fd ps sp)
  (h:∀vs H Q E,sp' vs H Q E->sp vs H Q E):FnOk P w K mg base CX k f fd ps sp' :=
 ⟨λvs H Q E q=>F.len vs H Q E (h _ _ _ _ q),λA outer s H args us vs Q E hr he hb hv hs=>F.run A outer s H args us vs Q E hr he hb hv (h _ _ _ _ hs)⟩
theorem Env0.make {P:Program} {w:World} {K:PySem.W.Frag} {mg:Str->Option Value} {base:Heap} {A:Around} {outer:List Env} {s:Shared} {H:Hp} (e:Env0 P w K mg base A outer s H) (C:Addr) (us:List Value) (kw:List (Str×Value)) :
  Env0 P w K mg base (A.under (.builtin "type.__call__" ⟨.ref C :: us,kw⟩)) outer s H:=⟨by first | exact e.frames | (simpa [Around.under,Code.envs,Code.isFrame,pushEnvs]using e.frames),e.mod,e.bs,e.bsz,e.funs,e.frf,e.hok,e.bare⟩
section
variable {X:Cx} {pins:List (Addr×Obj)} {σ:St} {H:Hp} {s s':Shared}
theorem Inv.kK (I:Inv X pins σ H s):Env0 X.prog X.w X.K X.mg X.base X.A X.stack s H :=
 ⟨I.ok.frames,I.ok.mod,I.bs,ZG I.ok.bsz I.sz,I.stack,I.stkFree,I.hok,I.bare⟩
theorem Inv.after {Q:VK} {u:Value} (I:Inv X pins σ H s) (h:CE X.stack X.prog X.w H s Q u s'):EP X pins σ Q u s':=by
 obtain ⟨v,H',os,bare,un,hok,r,q⟩:=h;obtain ⟨hh,g,d,t,os'⟩:=s';obtain rfl:os'=s.os:=os;exact ⟨v,H',I.call (h':=hh) (g':=g) (d':=d) (t':=t) (ch:=[]) un hok bare (λb z=>absurd z (by simp)),r,q⟩
end
noncomputable def mI (sp:Sp) (dvs:List V) (E:XK) (t:TA):TE:=fun σ H Q=>t σ H λvs H1=>sp (vs++dvs) H1 Q E
noncomputable def By (C:Addr) (sp:Sp) (dvs:List V) (E:XK) (t:TA):TE:=fun σ H Q=>t σ H λvs H1=>∀x dx,H1 x=none->H1 dx=none->dx≠x ->
 sp (.ref x :: (vs++dvs)) (upd (upd H1 dx (.own x)) x (.ins C dx [])) (λv H2=>v=.non/\Q (.ref x) H2) E
noncomputable def Binds (K:PySem.W.Frag) (fd:FuncData) (ps:List Str) (ds:List Value):Prop :=
 ∀(s:Shared) (us:List Value),K.In s.heap->(us++ds).length=ps.length->BindsTo s fd ⟨us,[]⟩ (ps.zip (us++ds))
theorem Binds.all {K:PySem.W.Frag} {fd:FuncData} {ps:List Str} (h:∀us:List Value,us.length=ps.length->bindArgs fd ⟨us,[]⟩=pure (ps.zip us)):Binds K fd ps []:=λs us _ hl=>by
 rw [Zx]at hl ⊢;exact .of_eq (h us hl)
noncomputable def Passes (CX:CXT) (X:Cx) (E:XK):Prop:=∀(pins:List (Addr×Obj)) (σ:St) (H:Hp) (s:Shared) (e:Value) (s':Shared),Inv X pins σ H s->CX X.stack H s E e s'->X.xe e s'
section
variable {X:Cx} {CX:CXT} {k:Nat} {f C:Addr} {fd:FuncData} {ps:List Str} {sp:Sp} {dvs:List V} {ds:List Value} {E:XK} {x m:Str} {p pos apos:Pos} {e o:Expr} {es:List Expr} {ta:TE} {t:TA}
theorem sE {pins:List (Addr×Obj)} {σ:St} {H:Hp} {s:Shared} {Q:VK} {us:List Value} {vs:List V} (F:FnOk X.prog X.w X.K X.mg X.base CX k f fd ps sp) (hr:Room k X.A) (hb:Binds X.K fd ps ds) (hd:Vals dvs ds) (hx:Passes CX X E)
  (I:Inv X pins σ H s) (r:Vals vs us) (h:sp (vs++dvs) H Q E):wpAny (model X.prog X.w) X.A (call (.ref f) us) (EP X pins σ Q) X.xe s:=by
 have r2:Vals (vs++dvs) (us++ds):=r.append hd;have hl:(us++ds).length=ps.length:=by rw [<-r2.length];exact F.len _ _ _ _ h
 refine wpAny_call (codeAny_mono (F.run X.A X.stack s H ⟨us,[]⟩ (us++ds) (vs++dvs) Q E hr I.kK (hb s us I.kIn hl) r2 h) λr s' hq=>?_)
 cases r with
 |error e=>exact hx pins σ H s e s' I hq
 |ok fl =>
  cases fl with
  |ret u=>exact I.after hq
  |next=>exact False.elim hq
  |brk=>exact False.elim hq
  |cont=>exact False.elim hq
theorem qj (F:FnOk X.prog X.w X.K X.mg X.base CX k f fd ps sp) (hr:Room k X.A) (hg:Gl X x) (hm:X.mg x=some (.ref f)) (hk:PySem.W.keepIn X.K (.ref f)=true) (hb:Binds X.K fd ps ds) (hd:Vals dvs ds) (hx:Passes CX X E)
  (ha:PA X (e :: es) t) (hdb:(x == ("__debug__" : Str))=false:=by decide) (he:starEach (e :: es) X.env=(false,eval e X.env) :: starEach es X.env:=by rfl) (hpl:(backTo pos (starEach es X.env)).any (·.1)=false:=by rfl) :
  PE X (.Call (.Name x p) (e :: es) [] pos) (mI sp dvs E t):=by
 intro pins s σ H Q I h;refine wpAny_Call_Name_kw (jq I hg hm ?_ hdb);refine PySem.W.callWith_K (h₀:=X.base) I.ok.mod.kin hk (thn (ha pos pins s σ H _ I h) λus s1 ⟨vs,H1,I1,r,q⟩=>⟨I1.kIn,?_⟩) he hpl
 exact sE F hr hb hd hx I1 r q
structure Mk (K:PySem.W.Frag) (C f:Addr):Prop where
 makes:PySem.W.makesIn K C=true
 init:PySem.W.findIn K (.ref C) "__init__" = some (some (.ref f))
 fn:PySem.W.isFn K (.ref f)=true
 kp:PySem.W.keepIn K (.ref C)=true
theorem xc {pins:List (Addr×Obj)} {σ:St} {H:Hp} {s:Shared} {Q:VK} {us:List Value} {vs:List V} (M:Mk X.K C f) (F:FnOk X.prog X.w X.K X.mg X.base CX k f fd ps sp) (hr:Room (k+1) X.A) (hb:Binds X.K fd ps ds) (hd:Vals dvs ds)
  (hx:Passes CX X E) (I:Inv X pins σ H s) (r:Vals vs us)
  (h:∀x dx,H x=none->H dx=none->dx≠x->sp (.ref x :: (vs++dvs)) (upd (upd H dx (.own x)) x (.ins C dx [])) (λv H2=>v=.non/\Q (.ref x) H2) E) :
  wpAny (model X.prog X.w) X.A (call (.ref C) us) (EP X pins σ Q) X.xe s:=by
 have hq:=h (s.heap.objs.size+1) s.heap.objs.size (I.hok.fresh (Nat.le_succ _)) (I.hok.fresh (Zn _)) (Nat.ne_of_lt (Nat.lt_succ_self _));have I2:=Inv.made (C:=C) I;have r2:Vals (V.ref (s.heap.objs.size+1) :: (vs++dvs)) (Value.ref (s.heap.objs.size+1) :: (us++ds)):=.cons rfl (r.append hd);have hl:(Value.ref (s.heap.objs.size+1) :: us++ds).length=ps.length:=by
  have e:=r2.length;rw [F.len _ _ _ _ hq]at e;exact e.symm
 refine wpAny_call (yR (f:=f) I.kIn M.makes M.init (beq_iff_eq.mp M.fn) (codeAny_mono (F.run _ X.stack _ _ ⟨Value.ref (s.heap.objs.size+1) :: us,[]⟩ (Value.ref (s.heap.objs.size+1) :: (us++ds)) _ _ E (hr.make C us [])
  (I2.kK.make C us []) (hb _ (Value.ref (s.heap.objs.size+1) :: us) I2.kIn hl) r2 hq) λr s' hq'=>?_))
 cases r with
 |error e=>exact hx pins σ _ _ e s' I2 hq'
 |ok fl =>
  cases fl with
  |ret u =>
   obtain ⟨v,H',I3,rv,ev,q3⟩:=I2.after hq';subst ev;exact ⟨rv,⟨V.ref (s.heap.objs.size+1),H',I3,rfl,q3⟩⟩
  |next=>exact False.elim hq'
  |brk=>exact False.elim hq'
  |cont=>exact False.elim hq'
theorem AV (M:Mk X.K C f) (F:FnOk X.prog X.w X.K X.mg X.base CX k f fd ps sp) (hr:Room (k+1) X.A) (hg:Gl X x) (hm:X.mg x=some (.ref C)) (hb:Binds X.K fd ps ds) (hd:Vals dvs ds) (hx:Passes CX X E)
  (ha:PA X (e :: es) t) (hdb:(x == ("__debug__" : Str))=false:=by decide) (he:starEach (e :: es) X.env=(false,eval e X.env) :: starEach es X.env:=by rfl) (hpl:(backTo pos (starEach es X.env)).any (·.1)=false:=by rfl) :
  PE X (.Call (.Name x p) (e :: es) [] pos) (By C sp dvs E t):=by
 intro pins s σ H Q I h;refine wpAny_Call_Name_kw (jq I hg hm ?_ hdb);refine PySem.W.callWith_K (h₀:=X.base) I.ok.mod.kin M.kp (thn (ha pos pins s σ H _ I h) λus s1 ⟨vs,H1,I1,r,q⟩=>⟨I1.kIn,?_⟩) he hpl
 exact xc M F hr hb hd hx I1 r q
end
section
variable {X:Cx} {CX:CXT} {k:Nat} {f C:Addr} {fd:FuncData} {ps ks:List Str} {sp:Sp} {E:XK} {x m:Str} {p pos apos kpos:Pos} {e o:Expr} {es:List Expr} {kws:List Keyword} {te ta:TE} {t tk:TA} {nm:Option Str}
structure KBinds (K:PySem.W.Frag) (fd:FuncData) (ps ks:List Str) (g:List Value->List Value->List Value) (gV:List V->List V->List V):Prop where
 to:∀(s:Shared) (us ws:List Value),K.In s.heap->(g us ws).length=ps.length->BindsTo s fd ⟨us,ks.zip ws⟩ (ps.zip (g us ws))
 rel:∀{vs:List V} {us:List Value} {zs:List V} {ws:List Value},Vals vs us->Vals zs ws->Vals (gV vs zs) (g us ws)
variable {g:List Value->List Value->List Value} {gV:List V->List V->List V}
end
structure FnScope (N P:List Str) (sc:Scope):Prop where
 kind:sc.kind=.function
 co:sc.isCoroutine=false
 gen:sc.isGenerator=false
 nd:N.Nodup
 pre:N.take P.length=P
 par:∀x∈P,sc.names.lookup x=some .local\/sc.names.lookup x=some .cell
 nofree:∀y∈sc.names,y.2≠.free
theorem oS {kindOf:Str->Option NameKind} {x:Str}:∀{binds:List (Str×Value)} {m:Str->Option Value},(∀v,(x,v)∉binds)->bindL kindOf binds m x=m x
 |[],_,_=>rfl
 | (n,v) :: r,m,h=>by
  unfold bindL;rw [oS λw hw=>h w (Ze _ hw)]
  split
  ·have:x≠n:=by rintro rfl;exact h v Zf
   simp [this]
  ·rfl
theorem oU {kindOf:Str->Option NameKind} {x:Str}:∀{binds:List (Str×Value)} {m:Str->Option Value},(∀v,(x,v)∉binds)->bindC kindOf binds m x=m x
 |[],_,_=>rfl
 | (n,v) :: r,m,h=>by
  unfold bindC;rw [oU λw hw=>h w (Ze _ hw)]
  split
  ·rfl
  ·have:x≠n:=by rintro rfl;exact h v Zf
   simp [this]
theorem oP {kindOf:Str->Option NameKind} {x:Str} {v:Value}:∀{P:List Str} {vs:List Value} {i:Nat} {m:Str->Option Value},P.Nodup->P[i]?=some x->vs[i]?=some v->kindOf x=some .local ->
  bindL kindOf (P.zip vs) m x=some v
 |[],_,_,_,_,h,_,_=>by simp at h
 |_ :: _,[],_,_,_,_,h,_=>by simp at h
 |p :: P,w :: vs,0,m,nd,h1,h2,hk=>by
  simp at h1 h2;subst h1;subst h2
  show bindL kindOf ((p,w) :: P.zip vs) m p=_
  unfold bindL;rw [oS λv hv=>(List.nodup_cons.mp nd).1 (List.of_mem_zip hv).1,if_pos hk]
  simp
 |p :: P,w :: vs,i+1,m,nd,h1,h2,hk=>by
  show bindL kindOf ((p,w) :: P.zip vs) m x=_
  unfold bindL;exact oP (i:=i) (List.nodup_cons.mp nd).2 (by simpa using h1) (by simpa using h2) hk
theorem oO {kindOf:Str->Option NameKind} {x:Str} {v:Value}:∀{P:List Str} {vs:List Value} {i:Nat} {m:Str->Option Value},P.Nodup->P[i]?=some x->vs[i]?=some v->kindOf x≠some .local ->
  bindC kindOf (P.zip vs) m x=some v
 |[],_,_,_,_,h,_,_=>by simp at h
 |_ :: _,[],_,_,_,_,h,_=>by simp at h
 |p :: P,w :: vs,0,m,nd,h1,h2,hk=>by
  simp at h1 h2;subst h1;subst h2
  show bindC kindOf ((p,w) :: P.zip vs) m p=_
  unfold bindC;rw [oU λv hv=>(List.nodup_cons.mp nd).1 (List.of_mem_zip hv).1,if_neg hk]
  simp
 |p :: P,w :: vs,i+1,m,nd,h1,h2,hk=>by
  show bindC kindOf ((p,w) :: P.zip vs) m x=_
  unfold bindC;exact oO (i:=i) (List.nodup_cons.mp nd).2 (by simpa using h1) (by simpa using h2) hk
noncomputable def start (N:List Str) (vs:List V):St:=vs.map some++List.replicate (N.length-vs.length) none
noncomputable def nN (CX:CXT) (P:Program) (w:World) (K:PySem.W.Frag) (mg:Str->Option Value) (base:Heap) (N:List Str) (qual:Str) (scope:Scope) (f:Addr) (cd:Value) (A:Around) (outer:List Env) (s:Shared) (H:Hp) (E:XK):Cx where
 prog:=P
 w:=w
 K:=K
 mg:=mg
 base:=base
 A:=A.deeper (envOfC qual scope s.heap.objs.size f cd)
 N:=N
 s₀:=s
 H₀:=H
 env:=envOfC qual scope s.heap.objs.size f cd
 outer:=outer
 stack:=envOfC qual scope s.heap.objs.size f cd :: outer
 ex:=[]
 calm:=true
 fn:=λ_=>true
 pn:=[]
 xe:=λe s'=>wpAny (model P w) (A.deeper (envOfC qual scope s.heap.objs.size f cd)) (leaving (envOfC qual scope s.heap.objs.size f cd) e) (λ_ s''=>CX outer H s E e s'') (λe' s''=>CX outer H s E e' s'') s'
theorem rG {sc:Scope} {n:Nat} {x:Str} (h:sc.names.lookup x=some .cell):∃c,(cellsFrom n sc.names []).lookup x=some c:=by
 have q:=PySem.W.cellsFrom_some sc.names n [] (.inl h);exact Option.isSome_iff_exists.mp q
theorem vc {CX:CXT} {P:Program} {w:World} {K:PySem.W.Frag} {mg:Str->Option Value} {base:Heap} {N ps:List Str} {qual:Str} {scope:Scope} {f:Addr} {cd:Value} {A:Around} {outer:List Env} {s s1:Shared} {H:Hp} {E:XK} {us:List Value} {vs:List V}
  (S:FnScope N ps scope) (hd:A.handled=none) (e0:Env0 P w K mg base A outer s H) (hl:vs.length=ps.length) (r:Vals vs us)
  (x:InCallC s s.heap.objs.size (bindL (envOfC qual scope s.heap.objs.size f cd).kindOf (ps.zip us) λ_=>none) (cellsFrom (s.heap.objs.size+1) scope.names []) (bindC (envOfC qual scope s.heap.objs.size f cd).kindOf (ps.zip us) λ_=>none) s1) :
  Inv (nN CX P w K mg base N qual scope f cd A outer s H E) [] (start N vs) H s1:=by
 have hpl:ps.length<=N.length:=by have:=congrArg List.length S.pre;rw [ZE]at this;lia
 obtain ⟨h1,tk,rfl,hk⟩:=x.done;have noA:∀b:Addr,b∉(nN CX P w K mg base N qual scope f cd A outer s H E).ex:=λb z=>absurd (show b∈([]:List Addr) from z) (by simp)
 refine ⟨⟨e0.mod,S.kind,rfl,rfl,Zn _,λy z c h1 h2=>?_,λy hy=>?_,λy c _ h=>?_,λ_=>hd,Around.frames_deeper e0.frames,.inr ⟨rfl,rfl⟩,λb z=>absurd z (noA b),e0.bs,e0.bsz,λb _ _=>noA b,λb z=>absurd z (noA b),e0.funs,e0.frf⟩,
  rfl,e0.bare,Un.kept hk,⟨_,x.toInCall.ns,λi y v h1 h2 h3=>?_⟩,λy c h=>⟨_,x.cell y c h⟩,e0.hok.fresh (Zn _),λy c h=>?_,λp hp=>absurd (show p∈([]:List (Addr×Obj)) from hp) (by simp),e0.hok.kept hk,?_⟩
 ·exact name_of_addr x.apart (PySem.mem_of_lookup h1) (PySem.mem_of_lookup h2)
 ·have hy:scope.names.lookup y=some .cell\/scope.names.lookup y=some .free:=hy
  rcases hy with hy | hy
  ·exact rG hy
  ·exact absurd rfl (S.nofree _ (PySem.mem_of_lookup hy))
 ·exact Nat.le_of_lt (x.above y c (PySem.mem_of_lookup h))
 ·have hi:i<vs.length:=by
   unfold start at h2;by_cases hi:i<vs.length
   ·exact hi
   ·rw [List.getElem?_append_right (by simpa using hi)]at h2
    rw [List.getElem?_replicate]at h2;split at h2 <;> cases h2
  have ha:vs[i]?=some v:=by
   unfold start at h2;rw [List.getElem?_append_left (by simpa using hi),Za]at h2
   cases e:vs[i]? with
   |none=>rw [e]at h2;cases h2
   |some a=>rw [e]at h2;cases h2;rfl
  obtain ⟨u,hu,rv⟩:=r.get ha;have hp:ps[i]?=some y:=by
   rw [<-S.pre,List.getElem?_take_of_lt (by lia)];exact h1
  have ndP:ps.Nodup:=by rw [<-S.pre];exact S.nd.sublist (List.take_sublist _ _)
  refine ⟨u,rv,?_⟩;rcases S.par y (ZB hp) with k | k
  ·exact .inl ⟨k,oP ndP hp hu k⟩
  ·obtain ⟨c,e⟩:=rG (n:=s.heap.objs.size+1) k
   refine .inr ⟨.inl k,c,e,?_⟩;have q:=x.cell y c e;rw [oO ndP hp hu (by show scope.names.lookup y≠_;rw [k];decide)]at q
   exact q
 ·exact e0.hok.fresh (Nat.le_of_lt (x.above y c (PySem.mem_of_lookup h)))
 ·unfold start
  show _=N.length
  rw [Zd,Zc,List.length_replicate]
  lia
theorem BD {CX:CXT} {P:Program} {w:World} {K:PySem.W.Frag} {mg:Str->Option Value} {base:Heap} {k:Nat} {f:Addr} {name qual:Str} {params:Arguments} {body:List Stmt} {scope:Scope} {dV kV doc pm cdv ct oc:Value} {an od:Option Addr}
  {osl:Array (Option Value)} {N ps:List Str} {sp:Sp} (lk:K.lookup f=some ⟨oc,od,.func (PySem.W.fnOf name qual params body scope dV kV doc pm an cdv ct),osl⟩) (hcd:PySem.W.codeIn K cdv qual=true) (S:FnScope N ps scope)
  (len:∀vs H Q E,sp vs H Q E->vs.length=ps.length)
  (hbody:∀(A:Around) (outer:List Env) (s:Shared) (H:Hp) (vs:List V) (Q:VK) (E:XK),Room k (A.deeper (envOfC qual scope s.heap.objs.size f cdv))->sp vs H Q E ->
   ∃t,PSs (nN CX P w K mg base N qual scope f cdv A outer s H E) body t/\t { nx:=λ_ H'=>Q .non H',rt:=Q } (start N vs) H) :
  FnOk P w K mg base CX (k+1) f (PySem.W.fnOf name qual params body scope dV kV doc pm an cdv ct) ps sp:=by
 refine ⟨len,λA outer s H args us vs Q E hr e0 hb r hsp=>?_⟩
 have hl:=len _ _ _ _ hsp;have KX:K.In s.heap:=e0.mod.kin.keeps λb o e=>(e0.bs b o e).1
 have lim:s.heap.NoLimit:=e0.mod.nolimit.keeps λb o e=>(e0.bs b o e).1
 have hkind:∀y∈ps.zip us,scope.names.lookup y.1=some .local\/(scope.names.lookup y.1=some .cell/\((cellsFrom (s.heap.objs.size+1) scope.names []).lookup y.1).isSome=true):=λ⟨n,v⟩ hy=>by
  rcases S.par n (List.of_mem_zip hy).1 with q | q
  ·exact .inl q
  ·exact .inr ⟨q,PySem.W.cellsFrom_some _ _ _ (.inl q)⟩
 refine codeAny_call_function hr.depth (KX _ _ lk) rfl S.co S.gen rfl (PySem.W.codeRec_of KX hcd) (hb _ _ _ _ ?_);refine wpAny_newFunctionEnv_cells S.kind hkind λenv he s1 x=>?_
 subst he;refine ⟨lim.keeps x.toInCall.keep,codeAny_func ?_⟩;obtain ⟨t,ht,hq⟩:=hbody A outer s H vs Q E (hr.deeper _) hsp;have I:Inv (nN CX P w K mg base N qual scope f cdv A outer s H E) [] (start N vs) H s1:=vc S hr.hd e0 hl r x;refine wpAny_mono (ht [] s1 (start N vs) H _ I hq) (λfl s' hs=>?_) λe s' hs=>hs
 have fin:∀{σ':St} {H':Hp} {v:V} {u:Value},Inv (nN CX P w K mg base N qual scope f cdv A outer s H E) [] σ' H' s'->RelV v u->Q v H'->CE outer P w H s Q u s' :=
  fun {σ' H' v u} J rv q=>⟨v,H',J.os,J.bare,J.base,J.hok,rv,q⟩
 cases fl with
 |ret u =>
  obtain ⟨v,σ',H',J,rv,q⟩:=hs;exact fin J rv q
 |next =>
  obtain ⟨σ',H',J,q⟩:=hs;exact fin (v:=V.non) (u:=Value.none) J rfl q
 |brk =>
  obtain ⟨_,_,_,q⟩:=hs;exact False.elim q
 |cont =>
  obtain ⟨_,_,_,q⟩:=hs;exact False.elim q
section
variable {X:Cx} {x:Str} {p pos:Pos} {e:Expr} {es:List Expr} {t:TA} {id T:String} {r:List V->Hp->VK->Prop}
noncomputable def tCB (r:List V->Hp->VK->Prop) (t:TA):TE:=fun σ H Q=>t σ H λvs H1=>r vs H1 Q
theorem j8 (hc:eV X (.builtin id) r) (hg:Gl X x) (hm:X.mg x=none) (hv:bootBuiltins x=some (.builtin id)) (ha:PA X (e :: es) t) (hn:x ≠ "__name__" := by decide) (hdb:(x == ("__debug__" : Str))=false:=by decide)
  (he:starEach (e :: es) X.env=(false,eval e X.env) :: starEach es X.env:=by rfl) (hpl:(backTo pos (starEach es X.env)).any (·.1)=false:=by rfl):PE X (.Call (.Name x p) (e :: es) [] pos) (tCB r t):=by
 intro pins s σ H Q I h;refine wpAny_Call_Name_kw (iD I hg hm hv ?_ hn hdb);exact PyProof.Rows.callWith_builtin1 (thn (ha pos pins s σ H _ I h) λus s1 ⟨vs,H1,I1,r1,q1⟩=>hc pins s1 σ H1 vs us Q I1 r1 q1) he hpl
theorem uF (hc:eV X (.type T) r) (hg:Gl X x) (hm:X.mg x=none) (hv:bootBuiltins x=some (.type T)) (ha:PA X (e :: es) t) (hn:x ≠ "__name__" := by decide) (hdb:(x == ("__debug__" : Str))=false:=by decide)
  (he:starEach (e :: es) X.env=(false,eval e X.env) :: starEach es X.env:=by rfl) (hpl:(backTo pos (starEach es X.env)).any (·.1)=false:=by rfl):PE X (.Call (.Name x p) (e :: es) [] pos) (tCB r t):=by
 intro pins s σ H Q I h;refine wpAny_Call_Name_kw (iD I hg hm hv ?_ hn hdb);exact PyProof.Rows.callWith_type1 (thn (ha pos pins s σ H _ I h) λus s1 ⟨vs,H1,I1,r1,q1⟩=>hc pins s1 σ H1 vs us Q I1 r1 q1) he hpl
end
end L2
namespace HT
open PySem PyProof.Rows
section
open PySem.SeqAt
open PySem.AutoSeq1 (wpAny_loadPart')
open PySem.MeetsSeq PySem.MeetsSeq2 PySem.MeetsSeq3
end
section
variable {prog:Program} {w:World} {A:Around} {E:Value->Shared->Prop} {s:Shared}
noncomputable def sIx (n d:Nat):Option Int->Nat
 |none=>d
 |some v=>if v<0 then (v+(n:Int)).toNat else min v.toNat n
theorem xX (n d:Nat):sIx n d none=d:=rfl
theorem zV (n d k:Nat):sIx n d (some (k:Int))=min k n:=by
 show (if (k:Int)<0 then ((k:Int)+(n:Int)).toNat else min (k:Int).toNat n)=min k n
 rw [if_neg (by lia),Int.toNat_natCast]
theorem Co (n d:Nat) (hd:d<=n) (o:Option Int):sIx n d o<=n:=by
 cases o with
 |none=>exact hd
 |some v =>
  show (if v<0 then (v+(n:Int)).toNat else min v.toNat n)<=n
  by_cases hv:v<0
  ·rw [if_pos hv];lia
  ·rw [if_neg hv];exact Nat.min_le_right _ _
theorem uB (v:Int) (n d:Nat):(if v<0 then max (v+(n:Int)) 0 else min v (n:Int))=((sIx n d (some v):Nat):Int):=by
 show (if v<0 then max (v+(n:Int)) 0 else min v (n:Int))=(((if v<0 then (v+(n:Int)).toNat else min v.toNat n):Nat):Int)
 by_cases hv:v<0
 ·simp only [if_pos hv];lia
 ·simp only [if_neg hv];lia
theorem sM (lo hi:Option Int) (n:Nat):Builtin.Slice.sliceAdjust lo hi 1 (n:Int)=(((sIx n 0 lo:Nat):Int),((sIx n n hi:Nat):Int)):=by
 have h1:¬((1:Int)<0):=by lia
 unfold Builtin.Slice.sliceAdjust;simp only [h1,if_false];refine Prod.ext ?_ ?_
 ·cases lo with
  |none=>rfl
  |some v=>exact uB v n 0
 ·cases hi with
  |none=>rfl
  |some v=>exact uB v n n
theorem sN (i j:Nat):Builtin.Slice.slicePlaces (i:Int) (j:Int) 1=j-i:=by
 unfold Builtin.Slice.slicePlaces;have h1:(1:Int) > 0:=by lia
 simp only [h1,if_true,Int.ediv_one];split <;> lia
theorem m8 {v:Value} {o:Option Int} {Q:Option Int->Shared->Prop} (p:IsPart v o) (h:Q o s):wpAny (model prog w) A (Builtin.Slice.slicePartIndex v) Q E s:=by
 cases p with
 |none=>exact slicePart_none h
 |int i t=>exact slicePart_int h
theorem kU {sl:Addr} {vl vu:Value} {lo hi:Option Int} {n:Nat} {Q:Int×Int×Nat->Shared->Prop} (hs:s.heap.IsSliceOf sl vl vu .none) (pl:IsPart vl lo) (pu:IsPart vu hi)
  (h:Q (((sIx n 0 lo:Nat):Int),1,sIx n n hi-sIx n 0 lo) s):wpAny (model prog w) A (Builtin.Slice.sliceApplied (.ref sl) (pure (n:Int))) Q E s:=by
 obtain ⟨os,hos,hcs,hds⟩:=id hs;unfold Builtin.Slice.sliceApplied Builtin.Slice.sliceFields;refine wpAny_bind (wpAny_bind (wpAny_field hos hds (x:=vl) rfl (wpAny_bind (wpAny_field hos hds (x:=vu) rfl (wpAny_bind (wpAny_field hos hds (x:=.none) rfl (wpAny_pure ?_)))))));refine wpAny_bind (slicePart_none ?_);show wpAny _ _ (if ((1:Int) == 0)=true then _ else _) _ _ s
 rw [if_neg (by decide)]
 refine wpAny_bind (m8 pl (wpAny_bind (m8 pu (wpAny_bind (wpAny_pure ?_)))));show wpAny _ _ (match Builtin.Slice.sliceAdjust lo hi 1 (n:Int) with | (lo,hi)=>pure (lo,(1:Int),Builtin.Slice.slicePlaces lo hi 1)) _ _ s
 rw [sM lo hi n];show wpAny _ _ (pure (((sIx n 0 lo:Nat):Int),(1:Int),Builtin.Slice.slicePlaces ((sIx n 0 lo:Nat):Int) ((sIx n n hi:Nat):Int) 1)) _ _ s
 rw [sN];exact wpAny_pure h
theorem xm (xs:Array Value) (i k:Nat):((List.range k).filterMap λ(m:Nat)=>xs[((i:Int)+(m:Int) * 1).toNat]?).toArray=((xs.toList.drop i).take k).toArray:=by
 have e:(λ(m:Nat)=>xs[((i:Int)+(m:Int) * 1).toNat]?)=λm=>xs[i+m]?:=by
  funext m
  have:((i:Int)+(m:Int) * 1).toNat=i+m:=by lia
  rw [this]
 rw [e];have:=pick_run xs i k;rw [List.filterMap_map]at this;have e2:((λx=>xs[x]?) ∘ λx=>i+x)=λm=>xs[i+m]?:=rfl
 rw [e2]at this;rw [this]
theorem kF {t sl:Addr} {items:Array Value} {vl vu:Value} {lo hi:Option Int} {Q:Value->Shared->Prop} (ht:IsTup s.heap t items) (hs:s.heap.IsSliceOf sl vl vu .none) (pl:IsPart vl lo) (pu:IsPart vu hi)
  (hw:¬(sIx items.size 0 lo=0/\sIx items.size items.size hi=items.size))
  (h:Q (.ref s.heap.objs.size) { s with heap:=s.heap.push { cls:=.type "tuple",data:=.seq ((items.toList.drop (sIx items.size 0 lo)).take (sIx items.size items.size hi-sIx items.size 0 lo)).toArray } })
  (hsz:items.size<=sizeLine):wpAny (model prog w) A (getItem (.ref t) (.ref sl)) Q E s:=by
 have htake:sizeOk (.seq ((items.toList.drop (sIx items.size 0 lo)).take (sIx items.size items.size hi-sIx items.size 0 lo)).toArray):=by
  show ((items.toList.drop (sIx items.size 0 lo)).take (sIx items.size items.size hi-sIx items.size 0 lo)).toArray.size<=sizeLine
  rw [ZA,ZE,ZF,Array.length_toList]
  lia
 have hj:sIx items.size items.size hi<=items.size:=Co _ _ (Zn _) hi;obtain ⟨os,hos,hcs,hds⟩:=id hs;have hTs:s.TypeIs (.ref sl) "slice" := ⟨os,hos,hcs⟩;unfold getItem
 try with_reducible refine wpAny_holding ?_
 first | refine wpAny_bind (wpAny_pure ?_) | skip
 refine wpAny_bind (wpAny_sequenceKey ht.typeIs (by decide) ?_)
 refine wpAny_bind (wpAny_callSpecial?_slot (name:=Str.ofString "__getitem__") ht.typeIs PyProof.Rows.slot_tuple_getitem
  (wpAny_call_entry PyProof.Rows.slot_tuple_getitem ht.typeIs entry_tuple_getitem ?_ (args_tuple_getitem _ _)))
 show wpAny _ _ (Builtin.Tuple.tupleItemsOf (.ref t) >>= _) _ _ s
 refine wpAny_bind (tupleItemsOf_ ht ?_);refine wpAny_bind (wpAny_typeOf hTs ?_);rw [if_pos (by decide)]
 refine wpAny_bind (kU hs pl pu ?_);have hno:¬((((sIx items.size 0 lo:Nat):Int) == 0 && (1:Int) == 1 && (sIx items.size items.size hi-sIx items.size 0 lo) == items.size)=true):=by
  intro q;rw [Zv,Zv]at q;have q1:((sIx items.size 0 lo:Nat):Int)=0:=eq_of_beq q.1.1;have q2:sIx items.size items.size hi-sIx items.size 0 lo=items.size:=eq_of_beq q.2;exact hw ⟨by lia,by lia⟩
 show wpAny _ _ (if (((sIx items.size 0 lo:Nat):Int) == 0 && (1:Int) == 1 && (sIx items.size items.size hi-sIx items.size 0 lo) == items.size)=true then _ else _) _ _ s
 rw [if_neg hno,xm]
 first
  |exact wpAny_bind (m:=Builtin.Tuple.tupleExact _) (wpAny_newObj_type (wpAny_pure ⟨_,rfl,wpAny_pure h⟩) htake)
  |exact wpAny_bind (m:=Builtin.Tuple.tupleExact _) (wpAny_newObj_type (wpAny_bind (wpAny_pure (wpAny_pure ⟨_,rfl,wpAny_pure h⟩))) htake)
  |exact wpAny_bind (wpAny_bind (m:=Builtin.Tuple.tupleExact _) (wpAny_newObj_type (wpAny_pure (wpAny_pure ⟨_,rfl,wpAny_pure h⟩)) htake))
  |exact wpAny_bind (wpAny_bind (m:=Builtin.Tuple.tupleExact _) (wpAny_newObj_type (wpAny_pure ⟨_,rfl,wpAny_pure h⟩) htake))
end
end HT
namespace L2
open PySem PySem.Spec PyProof.Rows
noncomputable abbrev TO:=St->Hp->(Option Int->Hp->Prop)->Prop
noncomputable def PO (X:Cx) (e:Option Expr) (t:TO):Prop :=
 ∀(pins:List (Addr×Obj)) (s:Shared) (σ:St) (H:Hp) (Q:Option Int->Hp->Prop),Inv X pins σ H s->t σ H Q ->
  wpAny (model X.prog X.w) X.A (evalPart e X.env) (λu s'=>∃o H',Inv X pins σ H' s'/\IsPart u o/\Q o H') X.xe s
noncomputable def uk:TO:=λ_ H Q=>Q none H
noncomputable def Be (t:TE):TO:=fun σ H Q=>t σ H λx H1=>∃i,x=.int i/\Q (some i) H1
theorem intsAre_of {ns:List Int}:∀{us:List Value},Vals (ns.map V.int) us->IntsAre us ns:=by
 induction ns with
 |nil=>intro us r;rw [List.map_nil]at r;cases r;exact .nil
 |cons n ns ih =>
  intro us r;rw [Zk]at r;cases r with
  |cons r1 r2 =>
   obtain ⟨t,e⟩:=r1;subst e;exact .cons n t (ih r2)
section
variable {X:Cx} {e:Expr} {te:TE} {lo hi:Option Expr} {tl th:TO} {pos p2:Pos}
theorem zd:PO X none uk:=by
 intro pins s σ H Q I h;rw [evalPart_none];exact wpAny_pure ⟨none,H,I,.none,h⟩
theorem Aj (h:PE X e te):PO X (some e) (Be te):=by
 intro pins s σ H Q I hw;rw [evalPart_some];refine thn (h pins s σ H _ I hw) λu s1 ⟨x,H1,I1,r1,q1⟩=>?_
 obtain ⟨i,rfl,q⟩:=q1;obtain ⟨t,rfl⟩:=r1;exact ⟨some i,H1,I1,.int i t,q⟩
noncomputable def SlR (X:Cx) (r:V->Option Int->Option Int->Hp->VK->Prop):Prop :=
 ∀(pins:List (Addr×Obj)) (s:Shared) (σ:St) (H:Hp) (x:V) (v vl vu:Value) (lo hi:Option Int) (sl:Addr) (Q:VK),Inv X pins σ H s->RelV x v->s.heap.IsSliceOf sl vl vu .none->IsPart vl lo->IsPart vu hi->r x lo hi H Q ->
  ∃T id,typeLookup (.type T) "__getitem__" = pure (some (.builtin id))/\s.TypeIs v T/\wpAny (model X.prog X.w) X.A (getItem v (.ref sl)) (EP X pins σ Q) X.xe s
noncomputable def tSl (r:V->Option Int->Option Int->Hp->VK->Prop) (te:TE) (tl th:TO):TE:=fun σ H Q=>te σ H λx H1=>tl σ H1 λl H2=>th σ H2 λu H3=>r x l u H3 Q
theorem xW {r:V->Option Int->Option Int->Hp->VK->Prop} (hr:SlR X r) (he:PE X e te) (hl:PO X lo tl) (hu:PO X hi th):PE X (.Subscript e (.Slice lo hi none p2) pos) (tSl r te tl th):=by
 intro pins s σ H Q I h;refine Subscript_ (thn (he pins s σ H _ I h) λv s1 ⟨x,H1,I1,r1,q1⟩=>?_)
 refine wpAny_Slice (thn (hl pins s1 σ H1 _ I1 q1) λvl s2 ⟨l,H2,I2,pl,q2⟩=>thn (hu pins s2 σ H2 _ I2 q2) λvu s3 ⟨u,H3,I3,pu,q3⟩=>?_)
 rw [evalPart_none];refine wpAny_pure ?_;have I4:Inv X pins σ H3 { s3 with heap:=s3.heap.push { cls:=.type "slice",data:=.fields #[vl,vu,.none] } }:=I3.kept (t':=s3.toks) λb ob q=>Heap.get?_push_of_some _ q
 obtain ⟨T,id,hT,ht,hg⟩:=hr pins { s3 with heap:=s3.heap.push { cls:=.type "slice",data:=.fields #[vl,vu,.none] } } σ H3 x v vl vu l u s3.heap.objs.size Q I4 r1 (Heap.IsSliceOf.new ..) pl pu q3
 show wpAny (model X.prog X.w) X.A (subscriptTail e (.Slice lo hi none p2) v (.ref s3.heap.objs.size)) (EP X pins σ Q) X.xe { s3 with heap:=s3.heap.push { cls:=.type "slice",data:=.fields #[vl,vu,.none] } }
 exact tail_any (ops:=[.ref s3.heap.objs.size,v]) ht hT hg (by with_unfolding_all rfl)
noncomputable def rb (xs:List V) (lo hi:Option Int):List V:=(xs.drop (HT.sIx xs.length 0 lo)).take (HT.sIx xs.length xs.length hi-HT.sIx xs.length 0 lo)
theorem lF (xs:List V) (lo hi:Option Int):(rb xs lo hi).length<=xs.length:=by
 unfold rb;rw [ZE,ZF]
 lia
noncomputable def Fl (K:PySem.W.Frag):V->Option Int->Option Int->Hp->VK->Prop:=λx lo hi H Q=>∃a xs,x=.ref a/\SqT K H a xs /\
 ¬(HT.sIx xs.length 0 lo=0/\HT.sIx xs.length xs.length hi=xs.length)/\∀p,H p=none->Q (.ref p) (upd H p (.tup (rb xs lo hi)))
theorem Ce:SlR X (Fl X.K):=by
 intro pins s σ H x v vl vu lo hi sl Q I rx hs pl pu h;obtain ⟨a,xs,rfl,hx,hw,q⟩:=h;cases rx;obtain ⟨its,r,ht,hz⟩:=I.tuple hx;have hlen:its.toArray.size=xs.length:=by rw [ZA];exact r.length.symm
 refine ⟨"tuple",_,PyProof.Rows.slot_tuple_getitem.lookup,ht.typeIs,?_⟩;refine HT.kF ht hs pl pu (by rw [hlen];exact hw) ?_ (by rw [hlen];exact hz)
 rw [hlen];refine ⟨.ref s.heap.objs.size,_,I.laid (t':=s.toks) (o:=.tup (rb xs lo hi)) (λb ob q=>Heap.get?_push_of_some _ q) (Zn _) ?_,rfl,q _ (I.hok.fresh (Zn _))⟩
 exact ⟨ZG (lF xs lo hi) hz,_,(r.drop (HT.sIx xs.length 0 lo)).take (HT.sIx xs.length xs.length hi-HT.sIx xs.length 0 lo),IsTup.new _ _⟩
end
noncomputable def ixN (n:Nat) (i:Int):Option Nat:=if 0<=i then (if i<n then some i.toNat else none) else if -(n:Int)<=i then some (i+n).toNat else none
noncomputable def atI {α:Type} (xs:List α) (i:Int):Option α:=(ixN xs.length i).bind λj=>xs[j]?
theorem uw {n:Nat} {i:Int} {j:Nat} (h:ixN n i=some j):seqIndex? i n=some j/\j<n/\-(n:Int)<=i/\i<n:=by
 unfold ixN at h;by_cases h0:0<=i
 ·rw [if_pos h0]at h
  by_cases h1:i<n
  ·rw [if_pos h1]at h
   have e:i.toNat=j:=Zz h;exact ⟨by rw [seqIndex_of h0 h1,e],by lia,by lia,h1⟩
  ·rw [if_neg h1]at h;cases h
 ·rw [if_neg h0]at h
  by_cases h1:-(n:Int)<=i
  ·rw [if_pos h1]at h
   have e:(i+n).toNat=j:=Zz h;exact ⟨by rw [seqIndex_neg (by lia) h1,e],by lia,h1,by lia⟩
  ·rw [if_neg h1]at h;cases h
theorem pW {α:Type} {xs:List α} {i:Int} {v:α} (h:atI xs i=some v):∃j,seqIndex? i xs.length=some j/\xs[j]?=some v/\j<xs.length/\-(xs.length:Int)<=i/\i<xs.length:=by
 unfold atI at h;cases e:ixN xs.length i with
 |none=>rw [e]at h;cases h
 |some j =>
  rw [e]at h;obtain ⟨h1,h2,h3,h4⟩:=uw e;exact ⟨j,h1,h,h2,h3,h4⟩
theorem dj {α:Type} {xs:List α} {j:Nat} {v:α} (h:xs[j]?=some v):atI xs (j:Int)=some v:=by
 have hj:j<xs.length:=(Zb.mp h).1;have e:ixN xs.length (j:Int)=some j:=by
  unfold ixN;rw [if_pos (by lia),if_pos (by lia)];simp
 unfold atI;rw [e];exact h
theorem yl {α:Type} (xs:List α) (v:α):atI (xs++[v]) (-1)=some v:=by
 have hl:(xs++[v]).length=xs.length+1:=by simp
 have e:ixN (xs++[v]).length (-1)=some xs.length:=by
  unfold ixN;rw [hl,if_neg (by decide),if_pos (by lia)]
  congr 1
  lia
 unfold atI;rw [e];show (xs++[v])[xs.length]?=some v
 simp
noncomputable def kN (b:Expr):Prop:=∀o i,subscripted b false o i=operate [o,i] (getItem o i)
noncomputable def IxR (X:Cx) (r:R2):Prop :=
 ∀(value slice:Expr) (pins:List (Addr×Obj)) (s:Shared) (σ:St) (H:Hp) (x y:V) (v u:Value) (Q:VK),Inv X pins σ H s->RelV x v->RelV y u->r x y H Q ->
  subscripted slice false v u=operate [v,u] (getItem v u)->wpAny (model X.prog X.w) X.A (subscriptTail value slice v u) (EP X pins σ Q) X.xe s
noncomputable def MtR (X:Cx) (id:String) (r:V->List V->Hp->VK->Prop):Prop :=
 ∀(pins:List (Addr×Obj)) (s:Shared) (σ:St) (H:Hp) (x:V) (xs:List V) (v:Value) (us:List Value) (Q:VK),Inv X pins σ H s->RelV x v->Vals xs us->r x xs H Q ->
  wpAny (model X.prog X.w) X.A (call (.builtin id) (v :: us)) (EP X pins σ Q) X.xe s
section
variable {X:Cx} {a b:Expr} {ta tb:TE} {pos:Pos}
theorem IxR.or {r r':R2} (h:IxR X r) (h':IxR X r'):IxR X (λx y H Q=>r x y H Q\/r' x y H Q):=by
 intro value slice pins s σ H x y v u Q I rx ry q hs;rcases q with q | q
 ·exact h value slice pins s σ H x y v u Q I rx ry q hs
 ·exact h' value slice pins s σ H x y v u Q I rx ry q hs
theorem tW {r:R2} (hr:IxR X r) (ha:PE X a ta) (hb:PE X b tb) (hs:kN b):PE X (.Subscript a b pos) (tOp r ta tb):=by
 intro pins s σ H Q I h;exact Subscript_ (CK ha hb I h λv u s2 x y H2 I2 rx ry q=>hr a b pins s2 σ H2 x y v u Q I2 rx ry q (hs _ _))
noncomputable def yx (K:PySem.W.Frag):R2:=λx y H Q=>∃p xs i v,x=.ref p/\y=.int i/\SqL K H p xs/\atI xs i=some v/\Q v H
noncomputable def Gw (K:PySem.W.Frag):R2:=λx y H Q=>∃p xs i v,x=.ref p/\y=.int i/\SqT K H p xs/\atI xs i=some v/\Q v H
noncomputable def FI:R2:=λx y H Q=>∃z i c,x=.str z/\y=.int i/\z.length<=sizeLine/\atI z.cps.toList i=some c/\Q (.str ⟨#[c]⟩) H
theorem s_:IxR X (yx X.K):=by
 intro value slice pins s σ H x y v u Q I rx ry h hs;obtain ⟨p,xs,i,z,rfl,rfl,hq,he,q⟩:=h;cases rx;obtain ⟨t,rfl⟩:=ry;obtain ⟨its,r,pl,hz⟩:=I.list hq;obtain ⟨j,h1,h2,h3,h4,h5⟩:=pW he;obtain ⟨w,ew,rw'⟩:=r.get h2;have hl:=r.length;have hn:=iT;have fin:EP X pins σ Q w s:=⟨z,H,I,rw',q⟩;by_cases h0:0<=i
 ·have hj:i.toNat=j:=by
   rw [seqIndex_of h0 h5]at h1;exact Zz h1
  exact item_listR pl.isList h0 (by lia) (by rw [hj];simpa using ew) fin hs
 ·have hj:(i+(its.toArray.size:Int)).toNat=j:=by
   rw [seqIndex_neg (by lia) h4]at h1
   rw [ZA,<-hl];exact Zz h1
  exact subscriptTail_builtinR (x:=w) pl.isList.typeIs slot_list_getitem.lookup
   (wpAny_getItem_list_neg (Q:=λr s'=>r=w/\EP X pins σ Q r s') pl.isList (by lia) (by rw [ZA] <;> lia) (by lia) (by rw [hj];simpa using ew) ⟨rfl,fin⟩) hs
theorem Dm:IxR X (Gw X.K):=by
 intro value slice pins s σ H x y v u Q I rx ry h hs;obtain ⟨p,xs,i,z,rfl,rfl,hq,he,q⟩:=h;cases rx;obtain ⟨t,rfl⟩:=ry;obtain ⟨its,r,pl,hz⟩:=I.tuple hq;obtain ⟨j,h1,h2,h3,h4,h5⟩:=pW he;obtain ⟨w,ew,rw'⟩:=r.get h2;have hl:=r.length;have hn:=iT;have fin:EP X pins σ Q w s:=⟨z,H,I,rw',q⟩;exact subscriptTail_builtinR (x:=w) pl.typeIs slot_tuple_getitem.lookup
  (getItem_tuple (j:=j) (Q:=λr s'=>r=w/\EP X pins σ Q r s') pl (by lia) (by lia) (by rw [ZA,<-hl];exact h1) (by simpa using ew) ⟨rfl,fin⟩) hs
theorem C4:IxR X FI:=by
 intro value slice pins s σ H x y v u Q I rx ry h hs;obtain ⟨z,i,c,rfl,rfl,hz,he,q⟩:=h;obtain ⟨t,rfl⟩:=rx;obtain ⟨t',rfl⟩:=ry;obtain ⟨j,h1,h2,h3,h4,h5⟩:=pW he;have hl:z.cps.toList.length=z.length:=by simp [Str.length]
 rw [hl]at h1 h4 h5;have hn:=iT;exact tail_any (typeIs_str s z t) slot_str_getitem.lookup (getItem_str (c:=c) (by
  have e1:decide (i < -(2 ^ 63:Int))=false:=decide_eq_false (by lia)
  have e2:decide (i ≥ 2 ^ 63)=false:=decide_eq_false (by lia)
  rw [e1,e2,Bool.or_false]) (by rw [h1];simpa using h2) ⟨.str ⟨#[c]⟩,H,I.tok _,⟨_,rfl⟩,q⟩) hs
noncomputable def rIx (K:PySem.W.Frag):R2:=λx y H Q=>yx K x y H Q\/Gw K x y H Q\/FI x y H Q
theorem ax:IxR X (rIx X.K):=s_.or (Dm.or C4)
theorem rX (its:List Value) (n j:Nat) (u:Value):Obj.mapSeq (·.setIfInBounds j u) { cls:=.type "list",data:=.seq its.toArray n }={ cls:=.type "list",data:=.seq (its.set j u).toArray n }:=by
 simp [Obj.mapSeq]
theorem Inv.lst {pins:List (Addr×Obj)} {σ:St} {H:Hp} {s:Shared} {p:Addr} {xs:List V} (I:Inv X pins σ H s) (h:H p=some (.lst xs)) :
  ∃(its:List Value) (n:Nat),Vals xs its/\s.heap.get? p=some { cls:=.type "list",data:=.seq its.toArray n }/\xs.length<=sizeLine:=by
 obtain ⟨z,its,n,r,e⟩:=I.hok p _ h;exact ⟨its,n,r,e,z⟩
theorem Inv.lstUpd {pins:List (Addr×Obj)} {σ:St} {H:Hp} {s:Shared} {p:Addr} {xs ys:List V} {its its':List Value} {n n':Nat} {f:Obj->Obj} (I:Inv X pins σ H s) (h:H p=some (.lst xs))
  (ho:s.heap.get? p=some { cls:=.type "list",data:=.seq its.toArray n }) (hf:f { cls:=.type "list",data:=.seq its.toArray n }={ cls:=.type "list",data:=.seq its'.toArray n' }) (r:Vals ys its') (hz:ys.length<=sizeLine) (t:Nat) :
  Inv X pins σ (upd H p (.lst ys)) { s with heap:=s.heap.update p f,toks:=t }:=by
 have e:(s.heap.update p f).get? p=some { cls:=.type "list",data:=.seq its'.toArray n' }:=by
  rw [Heap.get?_update_self f ho (by rw [hf] <;> rfl),hf]
 refine I.write (x:=p) (e:=p) (by rw [h];trivial) (.inl rfl) (λb u hb q=>(Heap.get?_update_other _ _ (Ne.symm hb)).trans q) ⟨_,e⟩ ?_
 exact ⟨hz,its',n',r,e⟩
noncomputable def yX:V->V->V->Hp->(Hp->Prop)->Prop:=λo i v H Q=>∃p xs k j,o=.ref p/\i=.int k/\H p=some (.lst xs)/\ixN xs.length k=some j/\Q (upd H p (.lst (xs.set j v)))
theorem set_list:GS X yX:=by
 intro pins s σ H o i v ov iv u Q I ro ri rv h;obtain ⟨p,xs,k,j,rfl,rfl,hp,hj,q⟩:=h;cases ro;obtain ⟨t,rfl⟩:=ri;obtain ⟨its,n,r,ho,hz⟩:=I.lst hp;obtain ⟨h1,h2,h3,h4⟩:=uw hj;have hl:=r.length;have hn:=iT;have I':Inv X pins σ (upd H p (.lst (xs.set j v))) { s with heap:=s.heap.update p (Obj.mapSeq (·.setIfInBounds j u)) } :=
  I.lstUpd hp ho (rX its n j u) (r.set rv j) (by rw [ZJ];exact hz) s.toks
 by_cases h0:0<=k
 ·have hk:k.toNat=j:=by
   rw [seqIndex_of h0 h4]at h1;exact Zz h1
  exact PySem.W.ki_setAt ho h0 (by lia) (by rw [ZA,<-hl];exact h4) (by rw [hk];exact ⟨_,I',q⟩)
 ·have hk:(k+(its.toArray.size:Int)).toNat=j:=by
   rw [seqIndex_neg (by lia) h3]at h1
   rw [ZA,<-hl];exact Zz h1
  exact PySem.W.ki_setBack ho (by lia) (by rw [ZA,<-hl];exact h3) (by lia) (by rw [hk];exact ⟨_,I',q⟩)
theorem pD (lo hi:Option Int) (n:Nat):(sliceBounds lo hi none n).1=((HT.sIx n 0 lo:Nat):Int)/\(sliceBounds lo hi none n).2.1=((HT.sIx n n hi:Nat):Int)/\(sliceBounds lo hi none n).2.2=1:=by
 refine ⟨?_,?_,rfl⟩
 ·cases lo with
  |none=>simp [sliceBounds,HT.sIx]
  |some i =>
   simp only [sliceBounds,HT.sIx,Option.getD_none,show (1:Int) > 0 by decide,if_true]
   by_cases h:i<0
   ·simp only [h,if_true] <;> lia
   ·simp only [h,if_false] <;> lia
 ·cases hi with
  |none=>simp [sliceBounds,HT.sIx]
  |some i =>
   simp only [sliceBounds,HT.sIx,Option.getD_none,show (1:Int) > 0 by decide,if_true]
   by_cases h:i<0
   ·simp only [h,if_true] <;> lia
   ·simp only [h,if_false] <;> lia
theorem oj (its:List Value) (lo hi:Option Int):slicePick its.toArray lo hi none=((its.drop (HT.sIx its.length 0 lo)).take (HT.sIx its.length its.length hi-HT.sIx its.length 0 lo)).toArray:=by
 obtain ⟨h1,h2,h3⟩:=pD lo hi its.toArray.size;unfold slicePick;rw [h1,h2,h3];simp only [sliceRange_one,pick_run,ZA] <;> rfl
noncomputable def Hl (K:PySem.W.Frag):V->Option Int->Option Int->Hp->VK->Prop:=λx lo hi H Q=>∃a xs,x=.ref a/\SqL K H a xs/\∀p,H p=none->Q (.ref p) (upd H p (.lst (rb xs lo hi)))
theorem tU:SlR X (Hl X.K):=by
 intro pins s σ H x v vl vu lo hi sl Q I rx hs pl pu h;obtain ⟨a,xs,rfl,hx,q⟩:=h;cases rx;obtain ⟨its,r,ht,hz⟩:=I.list hx;have hlen:=r.length;refine ⟨"list",_,slot_list_getitem.lookup,ht.isList.typeIs,?_⟩;refine wpAny_getItem_list_slice ht.isList hs pl pu .none (by simp) ?_ (by rw [ZA] <;> lia)
 rw [oj,<-hlen];refine ⟨.ref s.heap.objs.size,_,I.laid (t':=s.toks) (o:=.lst (rb xs lo hi)) (λb ob q=>Heap.get?_push_of_some _ q) (Zn _) ?_,rfl,q _ (I.hok.fresh (Zn _))⟩
 exact ⟨ZG (lF xs lo hi) hz,_,0,(r.drop (HT.sIx xs.length 0 lo)).take (HT.sIx xs.length xs.length hi-HT.sIx xs.length 0 lo),Heap.get?_push_size _ rfl⟩
noncomputable def kg:V->Bool
 |.non=>true
 |.bl _=>true
 |.int _=>true
 |.str _=>true
 |_=>false
noncomputable def eqV:V->V->Bool
 |.non,.non=>true
 |.bl a,.bl b=>a == b
 |.bl a,.int b=>(if a then 1 else 0) == b
 |.int a,.bl b=>a == (if b then 1 else 0)
 |.int a,.int b=>a == b
 |.str a,.str b=>a == b
 |_,_=>false
theorem Cd {A:Around} {s:Shared} {y x:V} {u v:Value} (ry:RelV y u) (rx:RelV x v) (fy:kg y=true) (fx:kg x=true):SeqAt.EqAt A s u v (eqV y x):=by
 cases y with
 |non =>
  cases ry;cases x with
  |non=>cases rx;exact SeqAt.EqAt.same _
  |bl b=>cases rx;exact SeqAt.EqAt.none_bool b
  |int b=>obtain ⟨t,rfl⟩:=rx;exact SeqAt.EqAt.none_int b t
  |str b=>obtain ⟨t,rfl⟩:=rx;exact SeqAt.EqAt.none_str b t
  |_=>exact absurd (show false=true from fx) Zm
 |bl a =>
  cases ry;cases x with
  |non=>cases rx;exact SeqAt.EqAt.bool_none a
  |bl b=>cases rx;exact SeqAt.EqAt.bool_bool a b
  |int b=>obtain ⟨t,rfl⟩:=rx;exact SeqAt.EqAt.bool_int a b t
  |str b=>obtain ⟨t,rfl⟩:=rx;exact SeqAt.EqAt.bool_str a b t
  |_=>exact absurd (show false=true from fx) Zm
 |int a =>
  obtain ⟨t',rfl⟩:=ry;cases x with
  |non=>cases rx;exact SeqAt.EqAt.int_none a t'
  |bl b=>cases rx;exact SeqAt.EqAt.int_bool a t' b
  |int b=>obtain ⟨t,rfl⟩:=rx;exact SeqAt.EqAt.int_int a t' b t
  |str b=>obtain ⟨t,rfl⟩:=rx;exact SeqAt.EqAt.int_str a t' b t
  |_=>exact absurd (show false=true from fx) Zm
 |str a =>
  obtain ⟨t',rfl⟩:=ry;cases x with
  |non=>cases rx;exact SeqAt.EqAt.str_none a t'
  |bl b=>cases rx;exact SeqAt.EqAt.str_bool a t' b
  |int b=>obtain ⟨t,rfl⟩:=rx;exact SeqAt.EqAt.str_int a t' b t
  |str b=>obtain ⟨t,rfl⟩:=rx;exact SeqAt.EqAt.str_str a t' b t
  |_=>exact absurd (show false=true from fx) Zm
 |_=>exact absurd (show false=true from fy) Zm
noncomputable def eqU (x:V) (u:Value):Bool:=match u with
 |.none=>eqV .non x
 |.bool b=>eqV (.bl b) x
 |.int i _=>eqV (.int i) x
 |.str z _=>eqV (.str z) x
 |_=>false
theorem xJ {x y:V} {u:Value} (r:RelV y u) (f:kg y=true):eqU x u=eqV y x:=by
 cases y with
 |non=>cases r;rfl
 |bl b=>cases r;rfl
 |int i=>obtain ⟨t,rfl⟩:=r;rfl
 |str z=>obtain ⟨t,rfl⟩:=r;rfl
 |_=>exact absurd (show false=true from f) Zm
theorem kh {x:V}:∀{xs:List V} {us:List Value},Vals xs us->xs.all kg=true->us.any (eqU x)=xs.any λy=>eqV y x
 |_,_,.nil,_=>rfl
 |y :: xs,u :: us,.cons r t,f=>by
  rw [List.all_cons,Zv]at f;rw [List.any_cons,List.any_cons,xJ r f.1,kh t f.2]
theorem i7 {A:Around} {s:Shared} {x:V} {v:Value} (rx:RelV x v) (fx:kg x=true):∀{xs:List V} {us:List Value},Vals xs us->xs.all kg=true->∀u∈us,SeqAt.EqAt A s u v (eqU x u)
 |_,_,.nil,_=>λu hu=>by cases hu
 |y :: xs,u :: us,.cons r t,f=>λu' hu=>by
  rw [List.all_cons,Zv]at f;rcases Zo.mp hu with rfl | hu
  ·rw [xJ r f.1];exact Cd r rx f.1 fx
  ·exact i7 rx fx t f.2 u' hu
noncomputable def inV (x:V) (xs:List V):Bool:=xs.any λy=>eqV y x
noncomputable def rIn (K:PySem.W.Frag) (neg:Bool):R2:=λx y H Q=>∃p xs,y=.ref p/\(SqL K H p xs\/SqT K H p xs)/\kg x=true/\xs.all kg=true/\Q (.bl (if neg then !inV x xs else inV x xs)) H
theorem ie:OpR X (compareOp .In) (rIn X.K false):=by
 intro pins s σ H x y v u Q I rx ry h;obtain ⟨p,xs,rfl,hq,fx,fs,q⟩:=h;cases ry;rcases hq with hq | hq
 ·obtain ⟨its,r,pl,hz⟩:=I.list hq
  refine SeqAt.in_listAt (eqU x) pl.isList (λw hw=>i7 rx fx r fs w (by simpa using hw)) ⟨.bl _,H,I,rfl,?_⟩
  rw [show its.toArray.any (eqU x)=its.any (eqU x) by simp,kh r fs]
  exact q
 ·obtain ⟨its,r,pl,hz⟩:=I.tuple hq
  refine SeqAt.in_tupleAt (eqU x) pl (λw hw=>i7 rx fx r fs w (by simpa using hw)) ⟨.bl _,H,I,rfl,?_⟩
  rw [show its.toArray.any (eqU x)=its.any (eqU x) by simp,kh r fs]
  exact q
theorem gq:OpR X (compareOp .NotIn) (rIn X.K true):=by
 intro pins s σ H x y v u Q I rx ry h;obtain ⟨p,xs,rfl,hq,fx,fs,q⟩:=h;cases ry;rcases hq with hq | hq
 ·obtain ⟨its,r,pl,hz⟩:=I.list hq
  refine SeqAt.notIn_listAt (eqU x) pl.isList (λw hw=>i7 rx fx r fs w (by simpa using hw)) ⟨.bl _,H,I,rfl,?_⟩
  rw [show its.toArray.any (eqU x)=its.any (eqU x) by simp,kh r fs]
  exact q
 ·obtain ⟨its,r,pl,hz⟩:=I.tuple hq
  refine SeqAt.notIn_tupleAt (eqU x) pl (λw hw=>i7 rx fx r fs w (by simpa using hw)) ⟨.bl _,H,I,rfl,?_⟩
  rw [show its.toArray.any (eqU x)=its.any (eqU x) by simp,kh r fs]
  exact q
theorem pk:eV X (.builtin "len") (λxs H Q=>∃p ys,xs=[.ref p]/\(SqL X.K H p ys\/SqT X.K H p ys)/\Q (.int ys.length) H):=by
 intro pins s σ H xs us Q I r h;obtain ⟨p,ys,rfl,hq,q⟩:=h;obtain ⟨u,rfl,rx⟩:=vals1 r;cases rx;have hn:=iT;rcases hq with hq | hq
 ·obtain ⟨its,r',pl,hz⟩:=I.list hq
  have hlen:=r'.length;exact Calls.call_len_list pl.isList (by simp only [ZA] <;> lia) ⟨.int ys.length,H,I.tok _,⟨s.toks+1,by rw [ZA,hlen]⟩,q⟩
 ·obtain ⟨its,r',pl,hz⟩:=I.tuple hq
  have hlen:=r'.length;exact len_tuple pl (by simp only [ZA] <;> lia) ⟨.int ys.length,H,I.tok _,⟨s.toks+1,by rw [ZA,hlen]⟩,q⟩
theorem qb:eV X (.builtin "len") (λxs H Q=>∃z,xs=[.str z]/\z.length<=sizeLine/\Q (.int z.length) H):=by
 intro pins s σ H xs us Q I r h;obtain ⟨z,rfl,hz,q⟩:=h;obtain ⟨u,rfl,t,rfl⟩:=vals1 r;have hn:=iT;exact len_str (by lia) ⟨.int z.length,H,I.tok _,⟨_,rfl⟩,q⟩
theorem eV.or {f:Value} {r r':List V->Hp->VK->Prop} (h:eV X f r) (h':eV X f r'):eV X f (λxs H Q=>r xs H Q\/r' xs H Q):=by
 intro pins s σ H xs us Q I rs q;rcases q with q | q
 ·exact h pins s σ H xs us Q I rs q
 ·exact h' pins s σ H xs us Q I rs q
theorem pv:eV X (.type "list") (λxs H Q=>∃p ys,xs=[.ref p]/\(SqL X.K H p ys\/SqT X.K H p ys)/\∀l,H l=none->Q (.ref l) (upd H l (.lst ys))):=by
 intro pins s σ H xs us Q I r h;obtain ⟨p,ys,rfl,hq,q⟩:=h;obtain ⟨u,rfl,rx⟩:=vals1 r;cases rx;have fin:∀(its:List Value),Vals ys its->ys.length<=sizeLine->∀(h':Heap) (c':Nat),(∀b o',s.heap.get? b=some o'->h'.get? b=some o') ->
   h'.get? s.heap.objs.size=some { cls:=.type "list",dict:=none,data:=.seq its.toArray c',slots:=#[] }->EP X pins σ Q (.ref s.heap.objs.size) { s with heap:=h' }:=λits r' hz h' c' kp e =>
  ⟨.ref s.heap.objs.size,_,I.laid (t':=s.toks) kp (Zn _) (show c9 X.prog X.w _ h' _ (.lst ys) from ⟨hz,its,c',r',e⟩),rfl,q _ (I.hok.fresh (Zn _))⟩
 rcases hq with hq | hq
 ·obtain ⟨its,r',pl,hz⟩:=I.list hq
  have hlen:=r'.length;obtain ⟨o,ho,hc,n,hd⟩:=pl.isList;exact call_list_seq p (.inl rfl) ho hc hd (λh' c' kp e=>fin its r' hz h' c' kp e) (by simp only [ZA] <;> lia)
 ·obtain ⟨its,r',pl,hz⟩:=I.tuple hq
  have hlen:=r'.length;obtain ⟨o,ho,hc,n,hd⟩:=pl;exact call_list_seq p (.inr rfl) ho hc hd (λh' c' kp e=>fin its r' hz h' c' kp e) (by simp only [ZA] <;> lia)
noncomputable def tyV (K:PySem.W.Frag) (T:String) (x:V) (H:Hp):Prop:=match x with
 |.str _=>T = "str"
 |.int _=>T = "int"
 |.ref p=>(T = "list" /\ ∃xs,SqL K H p xs)\/(T = "tuple" /\ ∃o,K.lookup p=some o/\o.cls=.type "tuple" /\ o.dict=none) \/
   (T = "dict" /\ ((∃kvs,H p=some (.dK kvs))\/∃kvs,H p=some (.dT kvs)))\/(T = "set" /\ ∃S n,H p=some (.set S n))
 |_=>False
theorem yb {pins:List (Addr×Obj)} {σ:St} {H:Hp} {s:Shared} {T:String} {x:V} {v:Value} (I:Inv X pins σ H s) (r:RelV x v) (ty:tyV X.K T x H) :
  s.TypeIs v T/\∀a,v=.ref a->∃ob,s.heap.get? a=some ob/\ob.dict=none:=by
 cases x with
 |str z =>
  obtain ⟨t,rfl⟩:=r;cases (show T = "str" from ty)
  exact ⟨typeIs_str s z t,λ_ e=>nomatch e⟩
 |int i =>
  obtain ⟨t,rfl⟩:=r;cases (show T = "int" from ty)
  exact ⟨typeIs_int s i t,λ_ e=>nomatch e⟩
 |ref p =>
  cases r;rcases ty with ⟨rfl,xs,hq⟩ | ⟨rfl,o,hk,hc,hd⟩ | ⟨rfl,hk⟩ | ⟨rfl,S,n,hk⟩
  ·obtain ⟨its,_,pl,_⟩:=I.list hq
   refine ⟨pl.isList.typeIs,λa e=>?_⟩
   cases e;obtain ⟨o,n,e,c,hd,_⟩:=pl;exact ⟨o,e,hd⟩
  ·refine ⟨⟨o,I.kIn p o hk,hc⟩,λa e=>?_⟩
   cases e;exact ⟨o,I.kIn _ o hk,hd⟩
  ·have z:∃o,s.heap.get? p=some o/\o.ExactDict:=by
    rcases hk with ⟨kvs,hk⟩ | ⟨kvs,hk⟩
    ·obtain ⟨_,_,_,_,o,_,_,e,ex,_⟩:=I.hok p _ hk
     exact ⟨o,e,ex⟩
    ·obtain ⟨_,_,_,_,o,_,_,e,ex,_⟩:=I.hok p _ hk
     exact ⟨o,e,ex⟩
   obtain ⟨o,e,ex⟩:=z;refine ⟨⟨o,e,ex.1⟩,λa e2=>?_⟩
   cases e2;exact ⟨o,e,ex.2.1⟩
  ·obtain ⟨o,_,_,_,e,ex,_⟩:=I.hok p _ hk
   refine ⟨⟨o,e,ex.1⟩,λa e2=>?_⟩
   cases e2;exact ⟨o,e,ex.2.1⟩
 |_=>exact False.elim ty
noncomputable def w_ (K:PySem.W.Frag) (T:String) (r:V->List V->Hp->VK->Prop) (to:TE):TE:=fun σ H Q=>to σ H λx H1=>tyV K T x H1/\r x [] H1 Q
noncomputable def tBM (K:PySem.W.Frag) (T:String) (r:V->List V->Hp->VK->Prop) (to:TE) (t:TA):TE:=fun σ H Q=>to σ H λx H1=>tyV K T x H1/\t σ H1 λxs H2=>r x xs H2 Q
variable {o e:Expr} {es:List Expr} {to:TE} {t:TA} {name:Str} {apos cpos:Pos} {T id:String} {r:V->List V->Hp->VK->Prop}
theorem yy (pa:PlainAttrs T) (slot:Slot T name id) (hty:typeOf (.builtin id)=pure (.type "method_descriptor")) (hm:MtR X id r) (ho:PE X o to)
  (hbase:attributeBase o name X.env (eval o X.env)=eval o X.env:=by rfl) (hline:(apos.endLine == cpos.line)=true:=by rfl):PE X (.Call (.Attribute o name apos) [] [] cpos) (w_ X.K T r to):=by
 intro pins s σ H Q I h;refine wpAny_Call_method0_late hbase hline (thn (ho pins s σ H _ I h) λv s1 ⟨x,H1,I1,r1,ty,q1⟩=>?_)
 obtain ⟨h1,h2⟩:=yb I1 r1 ty;exact ⟨T,id,pa,slot,hty,h1,h2,Calls.callWith_builtin rfl (PySem.evalArgs_none (hm pins s1 σ H1 x [] v [] Q I1 r1 .nil q1))⟩
theorem sY (pa:PlainAttrs T) (slot:Slot T name id) (hty:typeOf (.builtin id)=pure (.type "method_descriptor")) (hm:MtR X id r) (ho:PE X o to) (ha:PA X (e :: es) t)
  (hbase:attributeBase o name X.env (eval o X.env)=eval o X.env:=by rfl)
  (hfew:((backTo cpos (starEach (e :: es) X.env)).all (λx=>!x.1) && (backToKw cpos (keywordEach [] X.env)).all (λx=>x.1.isSome)
   && decide ((e :: es).length+([]:List Keyword).length+(if ([]:List Keyword).isEmpty then 0 else 1)<30))=true:=by rfl)
  (hline:(apos.endLine == cpos.line)=true:=by rfl) (hs:starEach (e :: es) X.env=(false,eval e X.env) :: starEach es X.env:=by rfl) (hplain:(backTo cpos (starEach es X.env)).any (·.1)=false:=by rfl) :
  PE X (.Call (.Attribute o name apos) (e :: es) [] cpos) (tBM X.K T r to t):=by
 intro pins s σ H Q I h;refine wpAny_Call_method_late hbase hfew hline rfl (thn (ho pins s σ H _ I h) λv s1 ⟨x,H1,I1,r1,ty,q1⟩=>?_)
 obtain ⟨h1,h2⟩:=yb I1 r1 ty;refine ⟨T,id,pa,slot,hty,h1,h2,?_⟩;have hA:=ha cpos pins s1 σ H1 _ I1 q1;rw [hs]at hA ⊢;refine Calls.callWith_builtin (by show (false || (backTo cpos (starEach es X.env)).any (·.1))=false;rw [hplain] <;> rfl) (Calls.evalArgs_plain ?_)
 exact thn hA λus s2 ⟨vs,H2,I2,r2,q2⟩=>hm pins s2 σ H2 x vs v us Q I2 r1 r2 q2
end
noncomputable def MtM (X:Cx) (id:String) (r:V->List V->Hp->VK->Prop):Prop :=
 ∀(pins:List (Addr×Obj)) (s:Shared) (σ:St) (H:Hp) (x:V) (xs:List V) (v:Value) (us:List Value) (Q:VK),Inv X pins σ H s->RelV x v->Vals xs us->r x xs H Q ->
  wpAny (model X.prog X.w) X.A (call (.builtin id) (v :: us)) (EP X pins σ Q) X.xe s
theorem Vals.one {x:V} {us:List Value} (h:Vals [x] us):∃u,us=[u]/\RelV x u:=by
 cases h with
 |cons r t=>cases t;exact ⟨_,rfl,r⟩
theorem Vals.two {x y:V} {us:List Value} (h:Vals [x,y] us):∃u v,us=[u,v]/\RelV x u/\RelV y v:=by
 cases h with
 |cons r t=>obtain ⟨v,rfl,q⟩:=Vals.one t;exact ⟨_,v,rfl,r,q⟩
theorem Vals.zero:∀{us:List Value},Vals [] us->us=[]
 |_,.nil=>rfl
theorem Vals.dropLast {xs:List V} {us:List Value} (h:Vals xs us):Vals xs.dropLast us.dropLast:=by
 induction h with
 |nil=>exact .nil
 |cons r t ih =>
  cases t with
  |nil=>exact .nil
  |cons q t'=>exact .cons r ih
theorem Vals.reverse {xs:List V} {us:List Value} (h:Vals xs us):Vals xs.reverse us.reverse:=by
 induction h with
 |nil=>exact .nil
 |cons r t ih=>rw [List.reverse_cons,List.reverse_cons];exact Vals.append ih (.cons r .nil)
theorem Vals.rep {xs:List V} {us:List Value} (h:Vals xs us):∀k:Nat,Vals (List.replicate k xs).flatten (List.replicate k us).flatten
 |0=>.nil
 |k+1=>by
  rw [List.replicate_succ,List.replicate_succ,List.flatten_cons,List.flatten_cons];exact Vals.append h (Vals.rep h k)
theorem sr {α:Type} (l:List α):l.eraseIdx (l.length-1)=l.dropLast:=by
 induction l with
 |nil=>rfl
 |cons a r ih =>
  cases r with
  |nil=>rfl
  |cons b r =>
   have e:(a :: b :: r).length-1=((b :: r).length-1)+1:=by
    have h1:(a :: b :: r).length=r.length+2:=rfl;have h2:(b :: r).length=r.length+1:=rfl
    lia
   rw [e,List.eraseIdx_cons_succ,ih]
   all_goals rfl
theorem foldl_rep (its:List Value):∀(k:Nat) (acc:List Value),
  List.foldl (λx1 x2=>x1++x2) acc.toArray (List.replicate k its.toArray)=(acc++(List.replicate k its).flatten).toArray
 |0,acc=>by simp
 |k+1,acc=>by
  have e:acc.toArray++its.toArray=(acc++its).toArray:=by simp
  have e2:(acc++its)++(List.replicate k its).flatten=acc++(List.replicate (k+1) its).flatten:=by
   rw [List.replicate_succ,List.flatten_cons,ZD]
  rw [<-e2,<-foldl_rep its k (acc++its),<-e,List.replicate_succ,List.foldl_cons]
section
variable {X:Cx} {pins:List (Addr×Obj)} {σ:St} {H:Hp} {s:Shared} {l b:Addr} {xs ys zs:List V}
theorem Inv.lset {its its':List Value} {n:Nat} {f:Array Value->Array Value} {t':Nat} (I:Inv X pins σ H s) (hH:H l=some (.lst xs))
  (e:s.heap.get? l=some { cls:=.type "list",data:=.seq its.toArray n }) (hf:f its.toArray=its'.toArray) (hv:Vals ys its') (hz:ys.length<=sizeLine) :
  Inv X pins σ (upd H l (.lst ys)) { s with heap:=s.heap.update l (Obj.mapSeq f),toks:=t' }:=by
 have q:=PySem.IsL.update e f;rw [hf]at q;refine I.write (x:=l) (e:=l) (by rw [hH];exact trivial) (.inl rfl) (λb' u hb hu=>(Heap.get?_update_other s.heap (Obj.mapSeq f) (Ne.symm hb)).trans hu) ⟨_,q⟩ ?_
 exact ⟨hz,its',_,hv,q⟩
theorem Inv.lnew {its:List Value} {t':Nat} (I:Inv X pins σ H s) (hv:Vals ys its) (hz:ys.length<=sizeLine) :
  Inv X pins σ (upd H s.heap.objs.size (.lst ys)) { s with heap:=s.heap.push { cls:=.type "list",data:=.seq its.toArray },toks:=t' } :=
 I.laid (λ_ _ q=>Heap.get?_push_of_some _ q) (Zn _) ⟨hz,its,0,hv,Heap.get?_push_size _ rfl⟩
theorem Inv.fresh (I:Inv X pins σ H s):H s.heap.objs.size=none:=I.hok.fresh (Zn _)
theorem Inv.lstM (I:Inv X pins σ H s) (hH:H l=some (.lst xs)):xs.length<=sizeLine/\∃(its:List Value) (n:Nat),Vals xs its/\xs.length=its.length/\s.heap.get? l=some { cls:=.type "list",data:=.seq its.toArray n }:=by
 obtain ⟨z,its,n,r,e⟩:=I.hok l _ hH;exact ⟨z,its,n,r,r.length,e⟩
theorem yQ {n:Nat} (h:n<=sizeLine):Builtin.List.listTooLong n=false:=by
 unfold Builtin.List.listTooLong;exact decide_eq_false (by lia)
end
section
variable {X:Cx}
noncomputable def l7:V->List V->Hp->VK->Prop:=λx vs H Q=>∃l xs y,x=.ref l/\vs=[y]/\H l=some (.lst xs)/\xs.length<sizeLine/\Q .non (upd H l (.lst (xs++[y])))
theorem jl:MtM X "list.append" l7:=by
 intro pins s σ H x vs v us Q I rx rv h;obtain ⟨l,xs,y,rfl,rfl,hH,hz,q⟩:=h;cases rx;obtain ⟨u,rfl,ru⟩:=rv.one;obtain ⟨z,its,n,r,hl,e⟩:=I.lstM hH;refine call_meets F.slot_list_append ⟨_,e,rfl⟩ F.entry_list_append (F.args_list_append_2 _ _) (PySem.list_append l its.toArray n u (by rw [ZA];lia)) ⟨e,?_⟩
 refine ⟨.non,_,I.lset (its':=its++[u]) hH e (by simp) (r.append (.cons ru .nil)) ?_,rfl,q⟩
 rw [Zd,List.length_singleton]
 lia
noncomputable def GH:V->List V->Hp->VK->Prop:=λx vs H Q=>∃l xs y,x=.ref l/\vs=[]/\H l=some (.lst xs)/\xs[xs.length-1]?=some y/\Q y (upd H l (.lst xs.dropLast))
theorem Ec:MtM X "list.pop" GH:=by
 intro pins s σ H x vs v us Q I rx rv h;obtain ⟨l,xs,y,rfl,rfl,hH,hy,q⟩:=h;cases rx;have hus:=rv.zero;subst hus;obtain ⟨z,its,n,r,hl,e⟩:=I.lstM hH;obtain ⟨u,hu,ru⟩:=r.get hy;have hy':its.toArray[its.toArray.size-1]?=some u:=by
  show its.toArray[its.length-1]?=some u
  rw [<-Array.getElem?_toList,<-hl];exact hu
 refine call_meets F.slot_list_pop ⟨_,e,rfl⟩ F.entry_list_pop (F.args_list_pop_1 _) (MeetsSeq.list_pop_last l its.toArray n u hy' (by rw [ZA];lia)) ⟨e,?_⟩
 refine ⟨y,_,I.lset (its':=its.dropLast) hH e ?_ r.dropLast ?_,ru,q⟩
 ·show its.toArray.eraseIdxIfInBounds (its.toArray.size-1)=its.dropLast.toArray
  rw [ZA,List.eraseIdxIfInBounds_toArray,sr]
 ·rw [List.length_dropLast]
  lia
noncomputable def rM:V->List V->Hp->VK->Prop:=λx vs H Q=>∃l xs,x=.ref l/\vs=[]/\H l=some (.lst xs)/\Q .non (upd H l (.lst []))
theorem rz:MtM X "list.clear" rM:=by
 intro pins s σ H x vs v us Q I rx rv h;obtain ⟨l,xs,rfl,rfl,hH,q⟩:=h;cases rx;have hus:=rv.zero;subst hus;obtain ⟨z,its,n,r,hl,e⟩:=I.lstM hH;refine call_meets F.slot_list_clear ⟨_,e,rfl⟩ F.entry_list_clear (F.args_list_clear_1 _) (AutoSeq1.list_clear_list_0 l its.toArray n (by rw [ZA];lia)) ⟨e,?_⟩
 exact ⟨.non,_,I.lset (its':=[]) (ys:=[]) hH e rfl .nil (Nat.zero_le _),rfl,q⟩
theorem len_rep {α:Type} (xs:List α) (k:Nat):(List.replicate k xs).flatten.length=k * xs.length:=by
 induction k with
 |zero=>simp
 |succ k ih=>rw [List.replicate_succ,List.flatten_cons,Zd,ih,Nat.succ_mul,Nat.add_comm]
end
section
variable {prog:Program} {w:World} {A:Around} {E:Value->Shared->Prop} {s:Shared}
set_option maxRecDepth 100000 in
end
section
variable {X:Cx}
end
end L2
namespace Att
open PySem PySem.W PySem.Calls PyProof.Rows
theorem lQ {P:Params} {h:Heap}:∀(ns:List Int) (vs:List Value),WellAll P h vs (ns.map WData.int)->IntsAre vs ns:=by
 intro ns
 induction ns with
 |nil =>
  intro vs w;rw [List.map_nil]at w;cases w;exact .nil
 |cons n ns ih =>
  intro vs w;rw [Zk]at w;cases w with
  |cons a b =>
   cases a;exact .cons _ _ (ih _ b)
theorem vO {l:OpenLaw} {n:Nat} (hn:l.most=some n) {P:Params} {h:Heap} {args:List WData} {vals:List Value}
  (hpre:l.row.toRowW.claim.pre args=true) (hwl:WellAll P h vals args) :
  ∃a vs ns,vals=[Value.ref a]/\args=[WData.list (ns.map WData.int)]/\h.get? a=some { cls:=.type "list",data:=.seq vs.toArray }/\IntsAre vs ns/\ns.length<=n:=by
 have hsh:WShape.hasAll [] args [.list .int]=true:=(pre_splitW hpre).1;have hc:l.pre.holds [] { args:=args }=true:=(pre_splitW hpre).2;obtain ⟨d,r,rfl,h1,h2⟩:=hasAllW_cons hsh;obtain rfl:=hasAllW_nil h2;obtain ⟨xs,rfl,h3⟩:=hasW_list h1;obtain ⟨ns,rfl⟩:=items_int h3;have hlen:ns.length<=n:=by
  unfold OpenLaw.pre at hc;have h4:(WTm.not (.lt (.lit (.int (n:Int))) (.len (.arg 0)))).holds [] { args:=[.list (ns.map .int)] }=true:=by
   have h4:=(holds_andW hc).1;rw [hn]at h4;exact h4
  have h5:=condW_of h4 (w_not (w_lt w_lit (w_len_list (w_arg rfl))));rw [Zc]at h5;refine Nat.le_of_not_lt λq=>?_
  have q':(n:Int)<((ns.length:Nat):Int):=by lia
  first
   | (rw [decide_eq_true q']at h5;exact absurd h5 (by decide))
   | (simp at h5;lia)
 cases hwl with
 |cons w1 w2 =>
  cases w2;cases w1 with
  |list ho hall=>exact ⟨_,_,ns,rfl,rfl,ho,lQ ns _ hall,hlen⟩
theorem uK (l:OpenLaw) (args:List WData):l.row.toRowW.claim.post args (.bool true) args=true :=
 postW_of (r:=l.row.toRowW) (X:=(true == true))
  (show WShape.has [] (.bool true) .bool=true by first | rfl | decide | simp [WShape.has,WShape.arms,WShape.armsAll])
  (show (WTm.eq .res (.lit (.bool true))).value [] { args:=args,res:=some (.bool true),after:=args }=some (.bool (true == true)) from w_eq_bool (w_res rfl) w_lit) rfl
theorem lE {l:OpenLaw} {n:Nat} {q:Program} {loose:List Str} {XP:(Str->Option Value)->Heap->Prop} {YP:World->Heap->Prop} {d:DefRec}
  (hn:l.most=some n) (hdf:d.params.defaults=[])
  (call:∀(w:World) (s₀ s₁:Shared) (mg mb:Str->Option Value) (fa:Addr) (o:Obj) (pm cd doc:Value) (a:Addr) (vs:List Value) (ns:List Int),
   Ground q loose [] XP w s₀ mg mb s₁.heap->YP w s₁.heap ->
   s₁.heap.get? fa=some o->o.data=.func (docDef d.name d.params d.body d.scope pm cd doc)->s₁.heap.CodeRec cd d.name->mg d.name=some (.ref fa) ->
   s₁.heap.get? a=some { cls:=.type "list",data:=.seq vs.toArray }->IntsAre vs ns->ns.length<=n->s₁.gens=#[] ->
   codeAny (model l.prog w) callerA (.call (.ref fa) ⟨[.ref a],[]⟩) (λr s'=>r=.ok (.ret (.bool true))/\OldK s₁.heap s'.heap/\s'.os=s₁.os/\AllBare s'.gens) s₁) :
  WalkO q loose XP YP l.row.toRowW d [] (λf vs=>PySem.call f vs):=by
 intro w s₀ s₁ mg mb G Y fa o pm cd doc dV kV ho hd hcd hD hmg hg args vals as hpre hlay hrd hwl hlo;obtain rfl:dV=.none:=Dflts.none hD hdf;obtain rfl:kV=.none:=Dflts.noKw hD;obtain ⟨a,vs,ns,rfl,rfl,hobj,hints,hlen⟩:=vO hn hpre hwl;refine enter_call (codeAny_mono (call w s₀ s₁ mg mb fa o pm cd doc a vs ns G Y ho (fd_plain hd) hcd hmg hobj hints hlen hg) λr s' hq=>?_)
 obtain ⟨rfl,h2,h3,h4⟩:=hq;exact ⟨.inl ⟨.bool true,.bool true,[],rfl,λ_=>rfl,.bool true,uK l _,λ_=>⟨List.Pairwise.nil,λ_ hm=>(nomatch hm)⟩⟩,h2,h3,h4⟩
section
variable {prog:Program} {w:World} {A:Around} {E:Value->Shared->Prop} {s:Shared} {K:Frag}
noncomputable def ledger (h:Heap) (L d:Addr):List (Addr×Obj):=(List.range h.objs.size).filterMap λa=>if a=L\/a=d then none else (h.get? a).map λo=>(a,o)
end
end Att
namespace L2
open PySem PySem.Spec PyProof.Rows
theorem gE:∀{vs:List Value} {ns:List Int},IntsAre vs ns->Vals (ns.map V.int) vs
 |_,_,.nil=>.nil
 |_,_,.cons n t h=>.cons ⟨t,rfl⟩ (gE h)
noncomputable def uZ (H:Hp):Prop:=∀b,H b=none\/∃o xs,H b=some (.frz o (.lst xs))
theorem wL {P:Program} {w:World} {K:PySem.W.Frag} {mg mb:Str->Option Value} {CX:CXT} {k:Nat} {fa a:Addr} {fd:FuncData} {x:Str} {sp:Sp} {s₁:Shared} {vs:List Value} {ns:List Int}
  (KX:K.In s₁.heap) (hns:s₁.heap.Ns mainGlobals mg) (hb:s₁.heap.Ns builtinsNs mb) (hbb:∀x:Str,x ≠ "__name__" -> mb x=bootBuiltins x) (hlim:s₁.heap.NoLimit) (hg:s₁.gens=#[])
  (ha:s₁.heap.get? a=some { cls:=.type "list",data:=.seq vs.toArray }) (hi:IntsAre vs ns) (hl:ns.length<=sizeLine) (hr:Room k callerA)
  (F:∀base:Heap,K.In base->base.Ns mainGlobals mg->FnOk P w K mg base CX k fa fd [x] sp) (hbind:∀(s:Shared) (u:Value),BindsTo s fd ⟨[u],[]⟩ [(x,u)])
  (hsp:∀H:Hp,uZ H->SqL K H a (ns.map V.int)->sp [.ref a] H (λv _=>v=.bl true) λ_ _ _=>False)
  (hCX:∀H e s',CX [] H s₁ (λ_ _ _=>False) e s'->False) :
  codeAny (model P w) callerA (.call (.ref fa) ⟨[.ref a],[]⟩) (λr s'=>r=.ok (.ret (.bool true))/\OldK s₁.heap s'.heap/\s'.os=s₁.os/\AllBare s'.gens) s₁:=by
 have rv:=gE hi;have lenV:=hi.length;have core:∀H:Hp,uZ H->SqL K H a (ns.map V.int)->HOk P w H s₁.heap->(∀b,H b≠none->b=a)->(H a≠none->K.lookup a=none) ->
   codeAny (model P w) callerA (.call (.ref fa) ⟨[.ref a],[]⟩) (λr s'=>r=.ok (.ret (.bool true))/\OldK s₁.heap s'.heap/\s'.os=s₁.os/\AllBare s'.gens) s₁:=by
  intro H hO hS hok hA hK;have base_of:∀{b:Addr} {o:Obj},s₁.heap.get? b=some o->H b=none->(kI s₁.heap H).get? b=some o:=λe n=>qS e n
  have noA:∀{b:Addr} {o:Obj} {es:Array DictEntry} {ep:Nat},s₁.heap.get? b=some o->o.data=.dict es ep->H b=none:=fun {b o es ep} e d=>by
   cases q:H b with
   |none=>rfl
   |some u =>
    have e':b=a:=hA b (by rw [q];simp)
    subst e';rw [ha]at e;cases e;have d':Data.seq vs.toArray _=Data.dict es ep:=d;cases d'
  have nsK:∀{b:Addr} {m:Str->Option Value},s₁.heap.Ns b m->(kI s₁.heap H).Ns b m:=fun {b m} ⟨o,es,ep,e,d,r⟩=>⟨o,es,ep,base_of e (noA e d),d,r⟩
  have hKb:K.In (kI s₁.heap H):=λb o e=>base_of (KX b o e) (by
   cases q:H b with
   |none=>rfl
   |some u =>
    have e':b=a:=hA b (by rw [q];simp)
    subst e';rw [hK (by rw [q];simp)]at e;cases e)
  have hM:Mod K mg (kI s₁.heap H):=⟨hKb,nsK hns,⟨mb,nsK hb,hbb⟩,let ⟨mc,h1,h2⟩:=hlim;⟨mc,nsK h1,h2⟩⟩;have e0:Env0 P w K mg (kI s₁.heap H) callerA [] s₁ H:=⟨rfl,hM,λb o e=>um e,Nat.le_of_eq (oZ _ _),trivial,λb hb=>absurd (show b∈([]:List Addr) from hb) (by simp),hok,.of_eq hg⟩
  refine codeAny_mono ((F _ hKb (nsK hns)).run callerA [] s₁ H ⟨[.ref a],[]⟩ [.ref a] [.ref a] _ _ hr e0 (hbind s₁ (.ref a)) (.cons rfl .nil) (hsp H hO hS)) λr s' h=>?_
  cases r with
  |error e=>exact (hCX H e s' h).elim
  |ok fl =>
   cases fl with
   |next=>exact False.elim h
   |brk=>exact False.elim h
   |cont=>exact False.elim h
   |ret u =>
    obtain ⟨v,H',os,bare,un,hok',r',q⟩:=h;have q':v=.bl true:=q;subst q';obtain rfl:u=Value.bool true:=r';refine ⟨rfl,OldK.of_keep λb o e=>?_,os,bare⟩
    cases q:H b with
    |none=>exact un.keep b o e q (by intro z;exact absurd (show b∈([]:List Addr) from z) (by simp)) (by simp)
    |some u =>
     rcases hO b with z | ⟨ob,xs,z⟩
     ·rw [q]at z;cases z
     ·have z2:=un.frzs b ob _ z
      obtain ⟨e1,_⟩:=hok b _ z;obtain ⟨e2,_⟩:=hok' b _ z2;rw [e]at e1;cases e1;exact e2
 cases hk:K.lookup a with
 |some o =>
  have e:=KX a o hk;rw [ha]at e;cases e;refine core (λ_=>none) (λ_=>.inl rfl) (.inr ⟨_,vs.toArray,_,hk,rfl,rfl,rfl,by rw [ZA,lenV];exact hl,by simpa using rv⟩) (λb u z=>by have z':(none:Option HO)=some u:=z;cases z') (λb z=>absurd rfl z) λz=>absurd rfl z
 |none =>
  refine core (λb=>if b=a then some (.frz { cls:=.type "list",data:=.seq vs.toArray } (.lst (ns.map V.int))) else none) (λb=>?_) (.inl (.inr ⟨{ cls:=.type "list",data:=.seq vs.toArray },if_pos rfl⟩)) (λb u z=>?_) (λb z=>?_) λ_=>hk
  ·by_cases hb:b=a
   ·exact .inr ⟨_,_,if_pos hb⟩
   ·exact .inl (if_neg hb)
  ·by_cases hb:b=a
   ·have z':=(if_pos hb).symm.trans z
    cases z';subst hb;exact ⟨ha,by rw [Zc];exact hl,vs,_,rv,ha⟩
   ·have z':=(if_neg hb).symm.trans z
    cases z'
  ·by_cases hb:b=a
   ·exact hb
   ·exact absurd (if_neg hb) z
noncomputable abbrev KOf {K:PySem.W.Frag} {h:Heap} (_:K.In h):PySem.W.Frag:=K
theorem Iy {l:PySem.W.OpenLaw} {n k:Nat} {q:Program} {loose:List Str} {XP:(Str->Option Value)->Heap->Prop} {YP:World->Heap->Prop} {d:DefRec} {K:Params->PySem.W.Frag} {CX:World->CXT} {sp:World->Sp} {x:Str}
  (hn:l.most=some n) (hn2:n<=sizeLine) (hdf:d.params.defaults=[]) (hr:Room k callerA)
  (hY:∀(w:World) (h:Heap),YP w h->(K w.params).In h)
  (F:∀(w:World) (mg:Str->Option Value) (fa:Addr) (h:Heap),(K w.params).In h->h.Ns mainGlobals mg->mg d.name=some (.ref fa) ->
   ∃fd:FuncData,(∀(s:Shared) (u:Value),BindsTo s fd ⟨[u],[]⟩ [(x,u)]) /\
    ∀base:Heap,(K w.params).In base->base.Ns mainGlobals mg->FnOk l.prog w (K w.params) mg base (CX w) k fa fd [x] (sp w))
  (hsp:∀(w:World) (H:Hp) (a:Addr) (ns:List Int),ns.length<=n->uZ H->SqL (K w.params) H a (ns.map V.int)->sp w [.ref a] H (λv _=>v=.bl true) λ_ _ _=>False)
  (hCX:∀(w:World) (H:Hp) (s:Shared) (e:Value) (s':Shared),CX w [] H s (λ_ _ _=>False) e s'->False) :
  PySem.W.WalkO q loose XP YP l.row.toRowW d [] (λf vs=>PySem.call f vs):=by
 refine Att.lE hn hdf λw s₀ s₁ mg mb fa o pm cd doc a vs ns G Y ho hd hcd hmg hobj hints hlen hg=>?_
 have KX:=hY w _ Y;obtain ⟨fd,hb,hF⟩:=F w mg fa _ KX G.T.g hmg;exact wL KX G.T.g G.T.b G.T.builtins G.T.nolimit hg hobj hints (ZG hlen hn2) hr hF hb (λH hO hS=>hsp w H a ns hlen hO hS) λH e s'=>hCX w H s₁ e s'
noncomputable def aQ (s:Stmt):Arguments:=match s with
 |.FunctionDef _ a _ _ _ _ _ _ _ _=>a
 |_=>{ posonlyargs:=[],args:=[],vararg:=none,kwonlyargs:=[],kw_defaults:=[],kwarg:=none,defaults:=[] }
noncomputable def aI (s:Stmt):List Stmt:=match s with
 |.FunctionDef _ _ b _ _ _ _ _ _ _=>b
 |_=>[]
noncomputable def aj (s:Stmt):Scope:=match s with
 |.FunctionDef _ _ _ _ _ _ sc _ _ _=>sc
 |_=>{ kind:=.function,names:=[],isGenerator:=false,isCoroutine:=false }
noncomputable abbrev CX0:CXT:=λ_ _ _ _ _ _=>False
structure Fun (K:PySem.W.Frag) (x qual:Str) (st:Stmt) (f:Addr) (fd:FuncData):Prop where
 ex:∃(oc:Value) (od:Option Addr) (kV doc pm:Value) (an:Option Addr) (cdv ct:Value) (osl:Array (Option Value)),
  fd=PySem.W.fnOf x qual (aQ st) (aI st) (aj st) .none kV doc pm an cdv ct/\K.lookup f=some ⟨oc,od,.func fd,osl⟩/\PySem.W.codeIn K cdv qual=true
 kp:PySem.W.keepIn K (.ref f)=true
section
variable {P:Program} {w:World} {K:PySem.W.Frag} {mg:Str->Option Value} {base:Heap}
theorem Fun.ok {x qual:Str} {st:Stmt} {f:Addr} {fd:FuncData} {N ps:List Str} {k:Nat} {sp:Sp} (F:Fun K x qual st f fd) (S:FnScope N ps (aj st)) (len:∀vs H Q E,sp vs H Q E->vs.length=ps.length)
  (hbody:∀(cdv:Value) (A:Around) (outer:List Env) (s:Shared) (H:Hp) (vs:List V) (Q:VK) (E:XK),Room k (A.deeper (envOfC qual (aj st) s.heap.objs.size f cdv))->sp vs H Q E ->
   ∃t,PSs (nN CX0 P w K mg base N qual (aj st) f cdv A outer s H E).nox (aI st) t/\t { nx:=λ_ H'=>Q .non H',rt:=Q } (start N vs) H):FnOk P w K mg base CX0 (k+1) f fd ps sp:=by
 obtain ⟨oc,od,kV,doc,pm,an,cdv,ct,osl,rfl,lk,hcd⟩:=F.ex;refine BD lk hcd S len λA outer s H vs Q E hr hsp=>?_
 obtain ⟨t,h,q⟩:=hbody cdv A outer s H vs Q E hr hsp;exact ⟨t,h.nox,q⟩
theorem Fun.binds {x qual:Str} {st:Stmt} {f:Addr} {fd:FuncData} {ps:List Str} (F:Fun K x qual st f fd)
  (h:∀(kV doc pm:Value) (an:Option Addr) (cdv ct:Value) (us:List Value),us.length=ps.length->bindArgs (PySem.W.fnOf x qual (aQ st) (aI st) (aj st) .none kV doc pm an cdv ct) ⟨us,[]⟩=pure (ps.zip us)):Binds K fd ps []:=by
 obtain ⟨oc,od,kV,doc,pm,an,cdv,ct,osl,rfl,lk,hcd⟩:=F.ex;exact .all (h kV doc pm an cdv ct)
theorem bz {x qual:Str} {st:Stmt} {f:Addr} {oc:Value} {od an:Option Addr} {osl:Array (Option Value)} {kV doc pm cdv ct:Value} (l:K.lookup f=some ⟨oc,od,.func (PySem.W.fnOf x qual (aQ st) (aI st) (aj st) .none kV doc pm an cdv ct),osl⟩)
  (c:PySem.W.codeIn K cdv qual=true) (k:PySem.W.keepIn K (.ref f)=true):Fun K x qual st f (PySem.W.fnOf x qual (aQ st) (aI st) (aj st) .none kV doc pm an cdv ct):=⟨⟨oc,od,kV,doc,pm,an,cdv,ct,osl,rfl,l,c⟩,k⟩
end
section
variable {X:Cx}
end
noncomputable def aB (H H':Hp):Prop:=∀b o,H b=some o->H' b=some o
theorem aB.refl (H:Hp):aB H H:=λ_ _ h=>h
theorem aB.trans {H H1 H2:Hp} (a:aB H H1) (b:aB H1 H2):aB H H2:=λc o h=>b c o (a c o h)
theorem aB.free {H H':Hp} (e:aB H H') {l:Addr} (h:H' l=Option.none):H l=Option.none:=by
 cases q:H l with
 |none=>rfl
 |some o =>
  rw [e l o q]at h;cases h
theorem aB.seq {K:PySem.W.Frag} {H H':Hp} {a:Addr} {xs:List V} (e:aB H H') (h:SqL K H a xs):SqL K H' a xs:=by
 rcases h with (h | ⟨o,h⟩) | h
 ·exact .inl (.inl (e _ _ h))
 ·exact .inl (.inr ⟨o,e _ _ h⟩)
 ·exact .inr h
end L2
set_option maxHeartbeats 4000000
namespace L2
open PySem PySem.Spec PyProof.Rows
noncomputable def frees (env:Env):List (Str×NameKind)->List (Str×Addr)->List (Str×Addr)
 |[],cs=>cs
 | (n,k) :: r,cs=>if (k == NameKind.free)=true then frees env r ((n,(env.cells.lookup n).getD 0) :: cs) else frees env r cs
theorem kZ {env:Env} {x:Str} {c:Addr}:∀(l:List (Str×NameKind)) (cs:List (Str×Addr)),(∀y∈l,y.2=.free->∃c,env.cells.lookup y.1=some c) ->
  (∀c,cs.lookup x=some c->env.cells.lookup x=some c)->(frees env l cs).lookup x=some c->env.cells.lookup x=some c
 |[],cs,_,hc,e=>hc c e
 | (n,k) :: r,cs,hl,hc,e=>by
  unfold frees at e;by_cases hk:(k == NameKind.free)=true
  ·rw [if_pos hk]at e
   obtain ⟨d,hd⟩:=hl (n,k) Zf (by simpa using hk)
   have hd':env.cells.lookup n=some d:=hd;refine kZ r _ (λy hy=>hl y (Ze _ hy)) (λc' e'=>?_) e
   rw [List.lookup_cons]at e';cases hx:x == n with
   |true =>
    rw [hx]at e';have hxn:x=n:=by simpa using hx
    rw [hd']at e';rw [hxn,hd'];exact e'
   |false =>
    rw [hx]at e';exact hc c' e'
  ·rw [if_neg hk]at e
   exact kZ r cs (λy hy=>hl y (Ze _ hy)) hc e
theorem ju {env:Env} {x:Str}:∀(l:List (Str×NameKind)) (cs:List (Str×Addr)),((x,NameKind.free)∈l\/∃c,cs.lookup x=some c)->∃c,(frees env l cs).lookup x=some c
 |[],cs,h=>by
  rcases h with h | h
  ·cases h
  ·exact h
 | (n,k) :: r,cs,h=>by
  unfold frees;by_cases hk:(k == NameKind.free)=true
  ·rw [if_pos hk]
   refine ju r _ ?_;rcases h with h | ⟨c,h⟩
   ·rcases Zo.mp h with e | e
    ·cases e
     exact .inr ⟨(env.cells.lookup x).getD 0,by rw [List.lookup_cons,beq_self_eq_true]⟩
    ·exact .inl e
   ·refine .inr ?_
    rw [List.lookup_cons];cases hx:x == n with
    |true=>exact ⟨_,rfl⟩
    |false=>exact ⟨c,h⟩
  ·rw [if_neg hk]
   refine ju r _ ?_;rcases h with h | h
   ·rcases Zo.mp h with e | e
    ·cases e
     exact absurd rfl hk
    ·exact .inl e
   ·exact .inr h
theorem tY {env:Env} {x:Str} {k':NameKind}:∀{names:List (Str×NameKind)},((names.map λ(n,k)=>if (k == NameKind.free && env.scope.kind == .function && env.kindOf n == some .cell) then (n,NameKind.cell) else (n,k)).lookup x=some k') ->
  ∃k,names.lookup x=some k/\(k'=k\/(k=.free/\k'=.cell))
 |[],h=>by simp at h
 | (n,k) :: r,h=>by
  rw [Zk]at h
  dsimp only at h
  rw [List.lookup_cons];by_cases hc:(k == NameKind.free && env.scope.kind == .function && env.kindOf n == some .cell)=true
  ·rw [if_pos hc,List.lookup_cons]at h
   cases hx:x == n with
   |true =>
    rw [hx]at h;cases h;have hk:k=.free:=by
     rw [Zv,Zv]at hc
     simpa using hc.1.1
    exact ⟨k,rfl,.inr ⟨hk,rfl⟩⟩
   |false =>
    rw [hx]at h;exact tY h
  ·rw [if_neg hc,List.lookup_cons]at h
   cases hx:x == n with
   |true =>
    rw [hx]at h;cases h;exact ⟨_,rfl,.inl rfl⟩
   |false =>
    rw [hx]at h;exact tY h
theorem jL {env:Env} {x:Str}:∀{names:List (Str×NameKind)},names.lookup x=some .free ->
  (names.map λ(n,k)=>if (k == NameKind.free && env.scope.kind == .function && env.kindOf n == some .cell) then (n,NameKind.cell) else (n,k)).lookup x=some .cell \/
  (names.map λ(n,k)=>if (k == NameKind.free && env.scope.kind == .function && env.kindOf n == some .cell) then (n,NameKind.cell) else (n,k)).lookup x=some .free
 |[],h=>by simp at h
 | (n,k) :: r,h=>by
  rw [Zk]
  dsimp only
  rw [List.lookup_cons]at h;by_cases hc:(k == NameKind.free && env.scope.kind == .function && env.kindOf n == some .cell)=true
  ·rw [if_pos hc,List.lookup_cons]
   cases hx:x == n with
   |true=>exact .inl rfl
   |false =>
    rw [hx]at h;exact jL h
  ·rw [if_neg hc,List.lookup_cons]
   cases hx:x == n with
   |true =>
    rw [hx]at h;cases h;exact .inr rfl
   |false =>
    rw [hx]at h;exact jL h
theorem gb {x:Str} {k:NameKind}:∀{l:List (Str×NameKind)},l.lookup x=some k->(x,k)∈l
 | (n,j) :: r,h=>by
  rw [List.lookup_cons]at h;cases hx:x == n with
  |true =>
   rw [hx]at h;cases h;have:x=n:=by simpa using hx
   rw [this];exact Zf
  |false =>
   rw [hx]at h;exact Ze _ (gb h)
theorem nM {scope:Scope} {env:Env} (h:∀x∈scope.names,x.2=.free->∃c,env.cells.lookup x.1=some c):closureFor scope env=pure (frees env scope.names []):=by
 unfold closureFor;have key:∀(l:List (Str×NameKind)) (cs:List (Str×Addr)),(∀x∈l,x.2=.free->∃c,env.cells.lookup x.1=some c) ->
  (forIn l cs λ(x:Str×NameKind) (r:List (Str×Addr))=>if (x.2 == NameKind.free)=true then do let a <-cellOf env x.1;pure (ForInStep.yield ((x.1,a) :: r)) else pure (ForInStep.yield r):Sem (List (Str×Addr)))=pure (frees env l cs):=by
  intro l
  induction l with
  |nil=>intro cs _;rfl
  |cons x r ih =>
   intro cs hx;obtain ⟨n,k⟩:=x;rw [List.forIn_cons]
   dsimp only
   have hr:=λcs=>ih cs λy hy=>hx y (Ze _ hy)
   by_cases hk:(k == NameKind.free)=true
   ·obtain ⟨c,hc⟩:=hx (n,k) Zf (by simpa using hk)
    have hc':env.cells.lookup n=some c:=hc;rw [if_pos hk];unfold frees;rw [if_pos hk];have e1:cellOf env n=pure c:=by unfold cellOf;rw [hc']
    rw [e1,hc',<-hr];rfl
   ·rw [if_neg hk]
    unfold frees;rw [if_neg hk,<-hr];rfl
 have:=key scope.names [] h;simp only [bind_pure];exact this
section
variable {prog:Program} {w:World} {A:Around} {R:Result->Shared->Prop} {s:Shared}
noncomputable def xZ (ifs:List Expr) (env:Env):Sem Bool:=forIn ifs true λc r=>if r=true then do let ok <-isTrue c env (eval c env);pure (ForInStep.yield ok) else pure (ForInStep.yield r)
theorem pJ {elt tg iter:Expr} {ifs:List Expr} {scope:Scope} {pos:Pos} {it acc:Value} {env:Env} (J:Nat->Shared->Prop)
  (turn:∀n s,J n s->wpAny (model prog w) A (pyNext it) (λr s1=>match r with
   |none=>R (.ok .next) s1
   |some v=>wpAny (model prog w) A (letOwnedTupleGo tg it v) (λ_ s2=>wpAny (model prog w) A (assign tg env v) (λ_ s3=>wpAny (model prog w) A (xZ ifs env) (λok s4 =>
     if ok=true then wpAny (model prog w) A (eval elt env) (λx s5=>wpAny (model prog w) A (call (.builtin "list.append") [acc,x]) (λ_ s6=>∃m,m<n/\J m s6) (λ_ _=>False) s5) (λ_ _=>False) s4
     else ∃m,m<n/\J m s4) (λ_ _=>False) s3) (λ_ _=>False) s2) (λ_ _=>False) s1) (λ_ _=>False) s)
  (n:Nat) (h:J n s):codeAny (model prog w) A (.compLoop (.ListComp elt [⟨tg,iter,ifs,0⟩] scope pos) 0 it acc env) R s:=by
 refine codeAny_loop rfl J (λn s hJ=>?_) n h
 have no:∀(P:Value->Shared->Prop) (e:Value) (s':Shared),False->P e s':=λ_ _ _ f=>f.elim
 show wpAny _ A ((compTurn (.ListComp elt [⟨tg,iter,ifs,0⟩] scope pos) 0 it acc env).onRaise (λx=>do noteFrame x env;theTreesLotGoes x)) _ _ s
 refine wpAny_noted ?_;rw [compTurn_list];refine wpAny_bind (wpAny_standAt (wpAny_bind (wpAny_mono (turn n s hJ) (λr s1 h1=>?_) λe s' f=>f.elim)))
 cases r with
 |none=>exact wpAny_pure h1
 |some v =>
  refine wpAny_bind (wpAny_mono h1 (λ_ s2 h2=>?_) λe s' f=>f.elim)
  refine wpAny_bind (wpAny_mono h2 (λ_ s3 h3=>?_) λe s' f=>f.elim)
  refine wpAny_bind (wpAny_mono h3 (λok s4 h4=>?_) λe s' f=>f.elim)
  cases ok with
  |false=>exact wpAny_pure ⟨rfl,h4⟩
  |true =>
   refine wpAny_bind (wpAny_bind (wpAny_mono h4 (λx s5 h5=>?_) λe s' f=>f.elim))
   exact wpAny_bind (wpAny_mono h5 (λ_ s6 h6=>wpAny_pure (wpAny_pure ⟨rfl,h6⟩)) λe s' f=>f.elim)
end
noncomputable def cxB (X:Cx) (N:List Str) (scope:Scope) (s:Shared) (H:Hp) (C:Addr) (ex:List Addr) (pins:List (Addr×Obj)):Cx :=
 { X with N:=N,s₀:=s,H₀:=H,env:=compEnvC scope (frees X.env scope.names []) C X.env,outer:=X.stack,ex:=ex,fn:=λ_=>false,pn:=X.pn++pins,xe:=λ_ _=>False }
noncomputable def kS (X:Cx) (scope:Scope):List (Nat×Str)->Prop
 |[]=>True
 |p :: r=>(X.N[p.1]?=some p.2/\scope.names.lookup p.2=some .free)/\kS X scope r
theorem kS.get {X:Cx} {scope:Scope}:∀{outs:List (Nat×Str)} {j:Nat} {p:Nat×Str},kS X scope outs->outs[j]?=some p->X.N[p.1]?=some p.2/\scope.names.lookup p.2=some .free
 |[],_,_,_,e=>by simp at e
 |q :: r,0,p,h,e=>by
  simp at e
  subst e;exact h.1
 |q :: r,j+1,p,h,e=>kS.get (j:=j) h.2 (by simpa using e)
structure Blk (X:Cx) (sc scope:Scope) (outs:List (Nat×Str)):Prop where
 hsc:X.env.scope=sc
 kind:scope.kind=.function
 loc:∀x∈scope.names,x.2=.local->scope.names.lookup x.1=some .local
 nocell:∀x∈scope.names,x.2≠.cell
 fr:∀x∈scope.names,x.2=.free->sc.names.lookup x.1=some .cell\/sc.names.lookup x.1=some .free
 out:kS X scope outs
noncomputable def slots (k:Nat) (outs:List (Nat×Str)) (σ:St):St:=List.replicate k none++outs.map λp=>(σ[p.1]?).join
noncomputable def gO:St->St->Prop
 |[],[]=>True
 |none :: r,_ :: r'=>gO r r'
 |some v :: r,w :: r'=>w=some v/\gO r r'
 |_,_=>False
theorem gO.len:∀{σ σ':St},gO σ σ'->σ.length=σ'.length
 |[],[],_=>rfl
 |none :: r,_ :: r',h=>by
  have:=gO.len (σ:=r) (σ':=r') h;simp [this]
 |some v :: r,w :: r',h=>by
  have:=gO.len (σ:=r) (σ':=r') h.2;simp [this]
theorem gO.get:∀{σ σ':St} {i:Nat} {v:V},gO σ σ'->σ[i]?=some (some v)->σ'[i]?=some (some v)
 |[],_,_,_,_,e=>by simp at e
 |none :: r,w :: r',0,v,_,e=>by simp at e
 |none :: r,w :: r',i+1,v,h,e=>by
  have:=gO.get (σ:=r) (σ':=r') (i:=i) (v:=v) h (by simpa using e)
  simpa using this
 |some u :: r,w :: r',0,v,h,e=>by
  simp at e
  rw [h.1];simp [e]
 |some u :: r,w :: r',i+1,v,h,e=>by
  have:=gO.get (σ:=r) (σ':=r') (i:=i) (v:=v) h.2 (by simpa using e)
  simpa using this
noncomputable def PF (X:Cx) (ifs:List Expr) (t:TT):Prop :=
 ∀(pins:List (Addr×Obj)) (s:Shared) (σ:St) (H:Hp) (Q:Bool->Hp->Prop),Inv X pins σ H s->t σ H Q->wpAny (model X.prog X.w) X.A (xZ ifs X.env) (TP X pins σ Q) X.xe s
noncomputable def IT:TT:=λ_ H Q=>Q true H
theorem ES {X:Cx}:PF X [] IT:=λ_ _ _ H _ I h=>wpAny_tests_nil ⟨H,I,h⟩
theorem CW {X:Cx} {c:Expr} {t:TT} (h:PT X c t):PF X [c] t:=λpins s σ H Q I q=>wpAny_tests_one (h pins s σ H Q I q)
noncomputable abbrev IM (tc:TT) (te:TE) (σ0:St) (D:Addr) (acc:List V) (N:List V->Hp->Prop):St->Hp->Prop:=fun σ2 H3=>gO σ0 σ2/\tc σ2 H3 λb H4 =>
 if b=true then te σ2 H4 λy H5=>H5 D=some (.lst acc)/\acc.length<sizeLine/\N (acc++[y]) (upd H5 D (.lst (acc++[y]))) else N acc H4
noncomputable def Ir (J:It) (g:TG) (tc:TT) (te:TE) (σ0:St) (D:Addr) (H1:Hp) (Q:Hp->Prop):Prop :=
 ∃W:Nat->Nat->List V->Hp->Prop,(∃m,W 0 m [] (upd H1 D (.lst [])))/\∀i m acc H',W i m acc H' ->
  (J.stop i H'/\Q H')\/(J.go i H'/\∃N:List V->Hp->Prop,(∀acc' H2,N acc' H2->∃m',m'<m/\W (i+1) m' acc' H2)/\∀x H2,J.yld i H' x H2->g x σ0 H2 (IM tc te σ0 D acc N))
section
variable {X:Cx} {sc scope:Scope} {own:List Str} {outs:List (Nat×Str)} {elt tg iter:Expr} {ifs:List Expr} {pos:Pos} {g:TG} {tc:TT} {te:TE}
theorem mE (B:Blk X sc scope outs) {pins:List (Addr×Obj)} {σ:St} {H:Hp} {s:Shared} (I:Inv X pins σ H s):∀x∈scope.names,x.2=.free->∃c,X.env.cells.lookup x.1=some c:=λx hx hf=>by
 refine I.ok.has x.1 ?_;show X.env.scope.names.lookup x.1=_\/X.env.scope.names.lookup x.1=_
 rw [B.hsc];exact B.fr x hx hf
theorem Ad (B:Blk X sc scope outs) {pins:List (Addr×Obj)} {σ:St} {H:Hp} {s:Shared} {fp:List Addr} (I:Inv X pins σ H s) (f2:∀b∈fp,lP X pins H b) (fo:∀b∈fp,∃o,s.heap.get? b=some o)
  {h1:Heap} {m:Str->Option Value} {tk:Nat} (hn:h1.Ns (s.heap.objs.size+1) m) (old:∀b o,s.heap.get? b=some o->h1.get? b=some o)
  (hD:h1.get? s.heap.objs.size=some { cls:=.type "list",data:=.seq #[] 0 }) :
  Inv (cxB X (own++outs.map (·.2)) scope s H (s.heap.objs.size+1) fp pins) [] (slots own.length outs σ) (upd H s.heap.objs.size (.lst [])) { s with heap:=h1,toks:=tk }:=by
 have bf:=mE B I;have sub:∀x c,(frees X.env scope.names []).lookup x=some c->X.env.cells.lookup x=some c:=λx c e=>kZ _ _ bf (λc' e'=>by simp at e') e
 have clt:∀x c,X.env.cells.lookup x=some c->c<s.heap.objs.size:=λx c e=>(let ⟨v,q⟩:=I.cell x c e;q.lt)
 have flt:∀b∈fp,b<s.heap.objs.size:=λb hb=>(let ⟨o,e⟩:=fo b hb;Heap.lt_size e)
 have un:Un (cxB X (own++outs.map (·.2)) scope s H (s.heap.objs.size+1) fp pins).fs (cxB X (own++outs.map (·.2)) scope s H (s.heap.objs.size+1) fp pins).ex H (upd H s.heap.objs.size (.lst [])) s.heap h1:=Un.laid old (Zn _) I.fresh;have hok:HOk X.prog X.w (upd H s.heap.objs.size (.lst [])) h1:=I.hok.laid old (Zn _) ⟨Nat.zero_le _,[],0,.nil,hD⟩;refine ⟨⟨I.ok.mod,B.kind,I.ok.glob,I.ok.blt,Nat.le_succ _,λx y c e1 e2=>I.ok.inj x y c (sub x c e1) (sub y c e2),λx hx=>?_,λx c hf=>?_,I.ok.hd,I.ok.frames,.inl rfl,λb hb=>⟨?_,λx c e=>?_⟩,I.bs,?_,λb o e hb=>?_,λb hb z=>?_,I.stack,I.stkFree⟩,
  rfl,I.bare,un,⟨m,hn,λi x v e1 e2 e3=>?_⟩,λx c e=>?_,?_,λx c e=>?_,λp hp=>?_,hok,?_⟩
 ·obtain ⟨k,e,hk⟩:∃k,scope.names.lookup x=some k/\k=.free:=by
   rcases hx with hx | hx
   ·obtain ⟨k,e,hk⟩:=tY (show ((scope.names.map _).lookup x=some .cell) from hx)
    rcases hk with hk | hk
    ·exact absurd hk.symm (B.nocell _ (gb e))
    ·exact ⟨k,e,hk.1⟩
   ·obtain ⟨k,e,hk⟩:=tY (show ((scope.names.map _).lookup x=some .free) from hx)
    rcases hk with hk | hk
    ·exact ⟨k,e,hk.symm⟩
    ·exact ⟨k,e,hk.1⟩
  subst hk;exact ju _ _ (.inl (gb e))
 ·cases hf
 ·exact Nat.ne_of_lt (Nat.lt_succ_of_lt (flt b hb))
 ·exact (f2 b hb).2.2.2.2.1 x c (sub x c e)
 ·exact ZG I.ok.bsz I.sz
 ·rcases (f2 b hb).2.2.2.1 with z | z
  ·exact I.ok.noex b o e z
  ·exact absurd (ZI (Heap.lt_size e) (ZG I.ok.bsz z)) (Nat.lt_irrefl _)
 ·rcases Zo.mp (I.stkSub b z) with q | q
  ·exact (f2 b hb).2.1 q
  ·exact (f2 b hb).2.2.1 q
 ·
  have hi:own.length<=i:=by
   by_cases hi:own.length<=i
   ·exact hi
   ·have e2':(slots own.length outs σ)[i]?=some (some v):=e2
    unfold slots at e2';rw [List.getElem?_append_left (by simpa using Nat.lt_of_not_le hi),List.getElem?_replicate]at e2'
    split at e2' <;> cases e2'
  have e1':(own++outs.map (·.2))[i]?=some x:=e1;have e2':(slots own.length outs σ)[i]?=some (some v):=e2;unfold slots at e2';rw [List.getElem?_append_right hi,Za]at e1';rw [List.getElem?_append_right (by simpa using hi),List.length_replicate,Za]at e2'
  cases ep:outs[i-own.length]? with
  |none =>
   rw [ep]at e1';cases e1'
  |some p =>
   rw [ep]at e1' e2';have ex:p.2=x:=Zz e1';have ev:(σ[p.1]?).join=some v:=Zz e2';obtain ⟨o1,o2⟩:=B.out.get ep;have es:σ[p.1]?=some (some v):=by
    cases q:σ[p.1]? with
    |none =>
     rw [q]at ev;cases ev
    |some w =>
     rw [q]at ev;have ew:w=some v:=ev;rw [ew]
   rw [ex]at o1 o2;have hk:X.env.scope.names.lookup x=some .cell\/X.env.scope.names.lookup x=some .free:=by
    rw [B.hsc];exact B.fr (x,.free) (gb o2) rfl
   obtain ⟨m0,hn0,hl0⟩:=I.loc;obtain ⟨u,r,l⟩:=hl0 p.1 x v o1 es (hk.elim (λz=>.inr (.inl z)) λz=>.inr (.inr z))
   refine ⟨u,r,.inr ?_⟩;rcases l with ⟨hl,_⟩ | ⟨_,c,ec,hc⟩
   ·have hl':X.env.scope.names.lookup x=some .local:=hl
    rcases hk with z | z <;> (rw [z]at hl';cases hl')
   ·obtain ⟨c',ec'⟩:=ju (env:=X.env) (x:=x) scope.names [] (.inl (gb o2))
    have e3:=sub x c' ec';rw [ec]at e3;cases e3;obtain ⟨oc,q1,q2⟩:=hc;exact ⟨jL o2,c,ec',⟨oc,old _ _ q1,q2⟩⟩
 ·obtain ⟨v,oc,q1,q2⟩:=I.cell x c (sub x c e)
  exact ⟨v,oc,old _ _ q1,q2⟩
 ·show upd H s.heap.objs.size (.lst []) (s.heap.objs.size+1)=none
  rw [az (Nat.succ_ne_self _)];exact I.hok.fresh (Nat.le_succ _)
 ·rw [az (Nat.ne_of_lt (clt x c (sub x c e)))]
  exact I.freeC x c (sub x c e)
 ·have hp':p∈X.pn++pins:=by
   have:p∈(X.pn++pins)++[]:=hp
   simpa using this
  obtain ⟨q1,q2,q3,q4,q5⟩:=I.pin p hp';refine ⟨old _ _ q1,?_,Nat.ne_of_lt (Nat.lt_succ_of_lt (Heap.lt_size q1)),λz=>?_,q5⟩
  ·rw [az (Nat.ne_of_lt (Heap.lt_size q1))]
   exact q2
  ·rcases Zo.mp (I.stkSub p.1 z) with q | q
   ·exact q3 q
   ·exact q4 q
 ·show (slots own.length outs σ).length=(own++outs.map (·.2)).length
  unfold slots;simp
theorem tV (B:Blk X sc scope outs) (hcalm:X.calm=true)
  (hg:∀s H C ex pins,PG (cxB X (own++outs.map (·.2)) scope s H C ex pins) tg g) (hc:∀s H C ex pins,PF (cxB X (own++outs.map (·.2)) scope s H C ex pins) ifs tc) (he:∀s H C ex pins,PE (cxB X (own++outs.map (·.2)) scope s H C ex pins) elt te)
  {pins:List (Addr×Obj)} {σ:St} {H:Hp} {s:Shared} {it:Addr} {fp:List Addr} {tn:Nat->Heap->Prop} {J:It} (I:Inv X pins σ H s) (T:Turn X.prog X.w X.K tg J fp it tn) (st:tn 0 s.heap) (f2:∀b∈fp,lP X pins H b)
  {R0:Addr->Hp->Prop} (hW:∀D,H D=none->Ir J g tc te (slots own.length outs σ) D H (R0 D)) {RR:Value->Addr->Result->Shared->Prop} {E:Value->Shared->Prop}
  (fin:∀D C H' s' m,Inv X pins σ H' s'->lP X pins H' C->s'.heap.Ns C m->R0 D H'->RR (.ref D) C (.ok .next) s') :
  wpAny (model X.prog X.w) X.A (newList []) (λacc s3=>wpAny (model X.prog X.w) X.A (newFunctionEnv scope X.env.globals (frees X.env scope.names []) [] X.env.qual none .none (some X.env)) (λcenv s4 =>
   codeAny (model X.prog X.w) X.A (.compStart (.ListComp elt [⟨tg,iter,ifs,0⟩] scope pos) 0 (.ref it) acc { cenv with scope:=relabel scope X.env }) (RR acc cenv.locals) s4) E s3) E s:=by
 refine wpAny_newObj_type (wpAny_newFunctionEnv B.nocell (by intro y hy;simp at hy) (λh1 hn1 hs1=>?_) B.kind)
 dsimp only at hn1 hs1 ⊢
 have hz:(s.heap.push { cls:=.type "list",dict:=none,data:=.seq ([]:List Value).toArray }).objs.size=s.heap.objs.size+1:=Heap.size_push ..;rw [hz]at hn1 hs1;simp only [hz];have fo:∀b∈fp,∃o,s.heap.get? b=some o:=λb hb=>(let ⟨o,e,_⟩:=T.obj 0 _ st b hb;⟨o,e⟩)
 have old:∀b o,s.heap.get? b=some o->h1.get? b=some o:=λb o e =>
  hs1.extBut b o (Nat.ne_of_lt (Nat.lt_succ_of_lt (Heap.lt_size e))) (Heap.get?_push_of_some _ (Heap.get?_push_of_some _ e))
 have hD:h1.get? s.heap.objs.size=some { cls:=.type "list",data:=.seq #[] 0 }:=hs1.extBut _ _ (Nat.ne_of_lt (Nat.lt_succ_self _)) (Heap.get?_push_of_some _ (Heap.get?_push_size _ rfl));have I1:=Ad (own:=own) (tk:=s.toks+([]:List (Str×Value)).length) B I f2 fo hn1 old hD;have st1:tn 0 h1:=T.keep _ _ _ st λb _ o e=>old b o e
 obtain ⟨W,⟨m0,w0⟩,turn⟩:=hW _ I.fresh;have fpB:∀{H':Hp},(∀b∈fp,H' b=none)->∀b∈fp,lP (cxB X (own++outs.map (·.2)) scope s H (s.heap.objs.size+1) fp pins) [] H' b:=λhn b hb=>by
  obtain ⟨o,eo⟩:=fo b hb;refine ⟨hn b hb,Nat.ne_of_lt (Nat.lt_succ_of_lt (Heap.lt_size eo)),I1.ok.exfs b hb,.inl hb,λx c e=>(I1.ok.exf b hb).2 x c e,λp hp=>?_⟩
  have hp':p∈X.pn++pins:=by
   have:p∈(X.pn++pins)++[]:=hp
   simpa using this
  exact (f2 b hb).2.2.2.2.2 p hp'
 have loop:∀s0:Shared,s0={ s with heap:=h1,toks:=s.toks+([]:List (Str×Value)).length } ->
   codeAny (model X.prog X.w) X.A (.compLoop (.ListComp elt [⟨tg,iter,ifs,0⟩] scope pos) 0 (.ref it) (.ref s.heap.objs.size) (compEnvC scope (frees X.env scope.names []) (s.heap.objs.size+1) X.env)) (RR (.ref s.heap.objs.size) (s.heap.objs.size+1)) s0:=by
  rintro s0 rfl;refine pJ (λn s'=>∃i acc H',Inv (cxB X (own++outs.map (·.2)) scope s H (s.heap.objs.size+1) fp pins) [] (slots own.length outs σ) H' s'/\tn i s'.heap/\(∀b∈fp,H' b=none)/\W i n acc H') ?_ m0
   ⟨0,[],_,I1,st1,λb hb=>?_,w0⟩
  ·rintro n s3 ⟨i,acc,H3,I3,st3,fr3,w3⟩
   rcases turn i n acc H3 w3 with ⟨stop,q⟩ | ⟨go,N,hN,step⟩
   ·refine thn (T.done (cxB X (own++outs.map (·.2)) scope s H (s.heap.objs.size+1) fp pins) rfl rfl rfl hcalm i [] s3 _ H3 (λ_ _=>False) I3 (fpB fr3) st3 stop) λr s4 ⟨hr,I4⟩=>?_
    subst hr;have IX:Inv X pins σ H3 s4:=I.call' (ch:=fp) I4.os I4.base I4.hok I4.bare λb hb=>⟨(f2 b hb).2.2.2.1,(f2 b hb).2.1,(f2 b hb).2.2.2.2.1,(f2 b hb).2.2.2.2.2⟩
    obtain ⟨m4,hn4,_⟩:=I4.loc;exact fin _ _ H3 s4 m4 IX (I.fpOk (Nat.le_succ _) I4.free) hn4 q
   ·refine thn (T.item (cxB X (own++outs.map (·.2)) scope s H (s.heap.objs.size+1) fp pins) rfl rfl rfl hcalm i [] s3 _ H3 (λ_ _=>False) I3 (fpB fr3) st3 go) λr s4 ⟨u,hr,h4⟩=>?_
    subst hr;refine thn h4 λ_ s5 ⟨x,H5,I5,r5,y5,st5,fr5⟩=>?_
    have I5':=I5.pinned (fpB fr5) (T.obj _ _ st5);have back:∀{σ6:St} {H6:Hp} {s6:Shared} {acc':List V},Inv (cxB X (own++outs.map (·.2)) scope s H (s.heap.objs.size+1) fp pins) ([]++mF fp s5.heap) σ6 H6 s6->gO (slots own.length outs σ) σ6->N acc' H6 ->
      ∃m,m<n/\∃i acc H',Inv (cxB X (own++outs.map (·.2)) scope s H (s.heap.objs.size+1) fp pins) [] (slots own.length outs σ) H' s6/\tn i s6.heap/\(∀b∈fp,H' b=none)/\W i m acc H':=fun {σ6 H6 s6 acc'} I6 hs hn6=>by
     obtain ⟨m',hm,hw⟩:=hN acc' H6 hn6;refine ⟨m',hm,i+1,acc',H6,I6.unpinned.weak hs.len λj v e=>hs.get e,T.keep _ _ _ st5 λb hb o e=>(I6.pin (b,o) (Zq _ (Zq _ (iI hb e)))).1,λb hb=>?_,hw⟩
     obtain ⟨o,e,_⟩:=T.obj _ _ st5 b hb;exact (I6.pin (b,o) (Zq _ (Zq _ (iI hb e)))).2.1
    refine thn (hg s H _ fp pins _ s5 _ H5 x u _ I5' r5 (step x H5 y5)) λ_ s6 ⟨σ6,H6,I6,hs6,q6⟩=>?_
    refine thn (hc s H _ fp pins _ s6 σ6 H6 _ I6 q6) λb s7 ⟨H7,I7,q7⟩=>?_
    cases b with
    |false =>
     exact back I7 hs6 q7
    |true =>
     refine thn (he s H _ fp pins _ s7 σ6 H7 _ I7 q7) λyv s8 ⟨y,H8,I8,r8,hd8,hl8,hw⟩=>?_
     refine thn (jl _ s8 σ6 H8 (.ref s.heap.objs.size) [y] (.ref s.heap.objs.size) [yv] (λ_ H9=>H9=upd H8 s.heap.objs.size (.lst (acc++[y]))) I8 rfl (.cons r8 .nil) ⟨_,acc,y,rfl,rfl,hd8,hl8,rfl⟩) λz s9 ⟨zv,H9,I9,_,q9⟩=>?_
     subst q9;exact back I9 hs6 hw
  ·obtain ⟨o,eo⟩:=fo b hb
   rw [az (Nat.ne_of_lt (Heap.lt_size eo))];exact (f2 b hb).1
 exact codeAny_compStart_list (loop _ rfl) (T.self X.A 0 _ _ _ st1 (loop _ rfl))
noncomputable def xR (wi:TI) (g:TG) (tc:TT) (te:TE) (k:Nat) (outs:List (Nat×Str)):TE:=fun σ H Q=>wi σ H λJ H1=>∀D,H1 D=none->Ir J g tc te (slots k outs σ) D H1 λH'=>Q (.ref D) H'
theorem AB {wi:TI} (own:List Str) (B:Blk X sc scope outs) (hcalm:X.calm=true) (hi:PI X tg iter wi)
  (hg:∀s H C ex pins,PG (cxB X (own++outs.map (·.2)) scope s H C ex pins) tg g) (hc:∀s H C ex pins,PF (cxB X (own++outs.map (·.2)) scope s H C ex pins) ifs tc) (he:∀s H C ex pins,PE (cxB X (own++outs.map (·.2)) scope s H C ex pins) elt te)
  (hs:∀x,foldedSetIterable iter X.env x=pure x:=by intro _;rfl):PE X (.ListComp elt [⟨tg,iter,ifs,0⟩] scope pos) (xR wi g tc te own.length outs):=by
 intro pins s σ H Q I h;rw [eval_ListComp];refine wpAny_comprehension_free (use:=none) rfl hs (nM (mE B I)) B.kind B.loc ?_;refine thn (hi pins s σ H _ I h) λv s1 h1=>thn h1 λitv s2 h2=>?_
 obtain ⟨it,fp,tn,J,H2,e,I2,T,st2,f2,hW⟩:=h2;subst e;refine tV (RR:=λacc C=>compPost (model X.prog X.w) X.A X.xe none (EP X pins σ Q) acc C) B hcalm hg hc he I2 T st2 f2 hW ?_
 intro D C H' s' m I' hC hn q;refine ⟨m,hn,λh' hs'=>?_⟩
 obtain ⟨c0,c1,c2,c3,c4,c5⟩:=hC;exact ⟨.ref D,H',I'.turned (t':=s'.toks) (λb o hb e=>(hs'.2 b hb).trans e) c0 c1 c3 c4 c5,rfl,q⟩
theorem zy {wi:TI} {i:Nat} {x:Str} {pos' spos:Pos} (own:List Str) (hN:X.N.Nodup) (hix:X.N[i]?=some x) (hx:Loc X.env.scope x) (B:Blk X sc scope outs) (hcalm:X.calm=true) (hi:PI X tg iter wi)
  (hg:∀s H C ex pins,PG (cxB X (own++outs.map (·.2)) scope s H C ex pins) tg g) (hc:∀s H C ex pins,PF (cxB X (own++outs.map (·.2)) scope s H C ex pins) ifs tc) (he:∀s H C ex pins,PE (cxB X (own++outs.map (·.2)) scope s H C ex pins) elt te)
  (hsw:swapsWith (.ListComp elt [⟨tg,iter,ifs,0⟩] scope pos) (some (.Name x pos')) spos.line X.env=pure true:=by rfl)
  (hs:∀x,foldedSetIterable iter X.env x=pure x:=by intro _;rfl) (hf:X.fn x=true\/X.env.scope.names.lookup x=some .local:=by first | exact .inl rfl | exact .inr rfl | assumption) :
  PS X (.Assign [.Name x pos'] (.ListComp elt [⟨tg,iter,ifs,0⟩] scope pos) spos) (pQ (xR wi g tc te own.length outs) (oT i)):=by
 intro pins s σ H D0 I h;rw [exec_Assign_Name_used _ _ _ _ hsw];refine wpAny_bind (wpAny_standAt (wpAny_bind ?_));show wpAny _ X.A (do let _ <-comprehension (.ListComp elt [⟨tg,iter,ifs,0⟩] scope pos) scope X.env _ (newList []) false (eval iter X.env) (some (assign (.Name x pos') X.env))) _ _ s
 refine wpAny_bind (thn (wpAny_comprehension_free (use:=some (assign (.Name x pos') X.env)) (Q:=λ_ s'=>SP X pins D0 .next s') rfl hs (nM (mE B I)) B.kind B.loc ?_) λ_ s' hq=>wpAny_pure (wpAny_pure hq))
 refine thn (hi pins s σ H _ I h) λv s1 h1=>thn h1 λitv s2 h2=>?_
 obtain ⟨it,fp,tn,J,H2,e,I2,T,st2,f2,hW⟩:=h2;subst e;refine tV (RR:=λacc C=>compPost (model X.prog X.w) X.A X.xe (some (assign (.Name x pos') X.env)) (λ_ s'=>SP X pins D0 .next s') acc C) B hcalm hg hc he I2 T st2 f2 hW ?_
 intro D C H' s' m I' hC hn q;obtain ⟨c0,c1,c2,c3,c4,c5⟩:=hC;obtain ⟨oC,es,ep,hoC,hdC,hr⟩:=id hn;have IC:Inv X (pins++[(C,oC)]) σ H' s':=I'.pins_of λp hp=>(Zs.mp hp).elim (λz=>I'.pin p (Zq _ z)) λz=>by
  have ep:p=(C,oC):=by simpa using z
  subst ep;exact ⟨hoC,c0,c1,c2,λv z=>by rw [hdC]at z;cases z⟩
 show wpAny _ X.A (assign (.Name x pos') X.env (.ref D)) _ _ s'
 refine wpAny_assign_Name (je (v:=.ref D) IC hN hix hx rfl (λs3 I3=>?_) hf)
 have hC3:s3.heap.get? C=some oC:=(I3.pin (C,oC) (Zq _ (Zq _ (by simp)))).1
 refine ⟨m,⟨oC,es,ep,hC3,hdC,hr⟩,λh' hs'=>?_⟩
 exact ⟨_,H',I3.unpinned.turned (t':=s3.toks) (λb o hb e=>(hs'.2 b hb).trans e) c0 c1 c3 c4 c5,q⟩
end
theorem mB {X:Cx} {pins:List (Addr×Obj)} {σ:St} {H:Hp} {s:Shared} {ch:List Addr} {T:Addr} {o:HO} {h':Heap} {t':Nat} (I:Inv X pins σ H s) (hch:∀b∈ch,lP X pins H b) (k:∀b u,b∉ch->s.heap.get? b=some u->h'.get? b=some u)
  (hT:s.heap.objs.size<=T) (new:c9 X.prog X.w (upd H T o) h' T o):Inv X pins σ (upd H T o) { s with heap:=h',toks:=t' }:=by
 have hn:H T=none:=I.hok.fresh hT;have nch:∀b u,H b=some u->b∉ch:=λb u e z=>by
  rw [(hch b z).1]at e;cases e
 have lt:∀b u,s.heap.get? b=some u->b≠T:=λb u e=>Nat.ne_of_lt (ZI (Heap.lt_size e) hT)
 refine I.step (g':=s.gens) (d':=s.drawn) (ch:=ch) (λb hb=>?_) (λb u _ _ hc e _=>k b u hc e) (λb u _ _ hc e _=>⟨u.slots,k b u hc e⟩) (λb u _ e n=>by rw [az (lt b u e)];exact n)
  (λb u hc e=>⟨u,k b u hc e⟩) (λb xs e=>by rw [az (aU e hn)];exact e) (λb u v e=>by rw [az (aU e hn)];exact e) (λb ps e=>⟨#[],by rw [az (aU e hn),e];simp⟩) (λm hm=>?_) (λb u e=>?_) I.bare
 ·obtain ⟨f0,f1,f2,f3,f4,f5⟩:=hch b hb
  exact ⟨f3,f1,f4,f5⟩
 ·obtain ⟨oL,es,ep,ho,r⟩:=hm
  exact ⟨oL,es,ep,k _ oL (λz=>(hch _ z).2.1 rfl) ho,r⟩
 ·by_cases hb:b=T
  ·subst hb
   rw [aZ]at e;cases e;exact new
  ·rw [az hb]at e
   refine (I.hok b u e).stay (λc v hc q=>k c v ?_ q) (λc q=>by rw [az (aU q hn)];exact q) λc xs q=>by rw [az (aU q hn)];exact q
   rcases hc with z | z
   ·rw [z]
    exact nch b u e
   ·exact nch c _ z
theorem pH {X:Cx} {pins:List (Addr×Obj)} {σ:St} {H:Hp} {s:Shared} {ch:List Addr} {h':Heap} {t':Nat} (I:Inv X pins σ H s) (hch:∀b∈ch,lP X pins H b) (k:∀b u,b∉ch->s.heap.get? b=some u->h'.get? b=some u) :
  Inv X pins σ H { s with heap:=h',toks:=t' }:=by
 have nch:∀b u,H b=some u->b∉ch:=λb u e z=>by
  rw [(hch b z).1]at e;cases e
 refine I.step (g':=s.gens) (d':=s.drawn) (ch:=ch) (λb hb=>?_) (λb u _ _ hc e _=>k b u hc e) (λb u _ _ hc e _=>⟨u.slots,k b u hc e⟩) (λ_ _ _ _ n=>n)
  (λb u hc e=>⟨u,k b u hc e⟩) (λ_ _ e=>e) (λ_ _ _ e=>e) (λb ps e=>⟨#[],by rw [e];simp⟩) (λm hm=>?_) (λb u e=>?_) I.bare
 ·obtain ⟨f0,f1,f2,f3,f4,f5⟩:=hch b hb
  exact ⟨f3,f1,f4,f5⟩
 ·obtain ⟨oL,es,ep,ho,r⟩:=hm
  exact ⟨oL,es,ep,k _ oL (λz=>(hch _ z).2.1 rfl) ho,r⟩
 ·refine (I.hok b u e).stay (λc v hc q=>k c v ?_ q) (λ_ q=>q) λ_ _ q=>q
  rcases hc with z | z
  ·rw [z]
   exact nch b u e
  ·exact nch c _ z
noncomputable def Ite (K:PySem.W.Frag) (a:Addr):It :=
 ⟨λi H=>∃xs x,SqL K H a xs/\xs[i]?=some x,λi H x H'=>∃T y,H T=none/\x=.ref T/\H'=upd H T (.tup [.int i,y])/\∀xs,SqL K H a xs->xs[i]?=some y,λi H=>∃xs,SqL K H a xs/\xs.length<=i⟩
theorem vo {P:Program} {w:World} {K:PySem.W.Frag} {es:List Expr} {k:Nat} {pos:Pos} (a e it:Addr) (hne:e≠it) :
  Turn P w K (.Tuple es k pos) (Ite K a) [e,it] e (λi h=>(∃old,IsEnum h e it i old)/\h.IsListIter it a i) where
 mem:=by simp
 obj:=λi h st b hb=>by
  obtain ⟨⟨old,he⟩,o,eo,c,d⟩:=st;have hb':b=e\/b=it:=by simpa using hb
  rcases hb' with z | z
  ·subst z
   exact ⟨_,he,λv z=>by cases z⟩
  ·subst z
   exact ⟨o,eo,λv z=>by rw [d]at z;cases z⟩
 keep:=λi h h' st kp=>⟨(let ⟨old,he⟩:=st.1;⟨old,kp e (by simp) _ he⟩),st.2.at λo eo=>kp it (by simp) o eo⟩
 item:=by
  intro X hP hw hK hc i pins s σ H E I hf st hg;subst hP hw hK;obtain ⟨xs,x,hq,hx⟩:=hg;obtain ⟨⟨old,he⟩,hit⟩:=st;obtain ⟨its,rv,p,hz⟩:=I.list hq;obtain ⟨u,hu,ru⟩:=rv.get hx;have elt:e<s.heap.objs.size:=Heap.lt_size he;refine wpAny_pyNext_enum_item he hit p.isList (x:=u) (by simpa using hu) hne λh1 ho hit1 hT hsz hk=>?_
  refine ⟨_,rfl,wpAny_letOwnedTupleGo_enum ho λh2 he2 hs2=>?_⟩
  have kk:∀b v,b∉[e,it]->s.heap.get? b=some v->h2.get? b=some v:=λb v hb q=>by
   have h1':b≠e:=λz=>hb (by simp [z])
   have h2':b≠it:=λz=>hb (by simp [z])
   exact (hs2.2 b h1').trans (hk b v h1' h2' q)
  have hT2:h2.get? s.heap.objs.size=some { cls:=.type "tuple",data:=.seq #[.int i s.toks,u] }:=(hs2.2 _ (Nat.ne_of_gt elt)).trans hT;refine ⟨.ref s.heap.objs.size,upd H s.heap.objs.size (.tup [.int i,x]),mB (s:=s) (h':=h2) (t':=s.toks+1) I hf kk (Zn _) ?_,rfl,⟨_,x,I.fresh,rfl,rfl,λys hy=>by rw [I.list_inj hy hq];exact hx⟩,⟨⟨_,he2⟩,?_⟩,λb hb=>?_⟩
  ·exact ⟨by show 2<=sizeLine;decide,[.int i s.toks,u],.cons ⟨_,rfl⟩ (.cons ru .nil),_,hT2,rfl,_,rfl⟩
  ·exact hit1.at λo eo=>(hs2.2 it (Ne.symm hne)).trans eo
  ·obtain ⟨f0,f1,f2,f3,f4,f5⟩:=hf b hb
   have hb':b=e\/b=it:=by simpa using hb
   obtain ⟨oi,eoi,_⟩:=hit;have:b<s.heap.objs.size:=by
    rcases hb' with z | z
    ·rw [z];exact elt
    ·rw [z];exact Heap.lt_size eoi
   rw [az (Nat.ne_of_lt this)];exact f0
 done:=by
  intro X hP hw hK hc i pins s σ H E I hf st hg;subst hP hw hK;obtain ⟨xs,hq,hx⟩:=hg;obtain ⟨⟨old,he⟩,hit⟩:=st;obtain ⟨its,rv,p,hz⟩:=I.list hq;have hl:=rv.length;refine wpAny_pyNext_enum_end (I.ok.hd hc) he hit p.isList (by simp;lia) λh1 eb=>⟨rfl,pH (t':=s.toks) I hf λb v hb q=>eb b v (λz=>hb (by simp [z])) q⟩
 self:=λ_ _ _ _ _ st h=>(let ⟨old,he⟩:=st.1;wpAny_pyIter_enum he h)
noncomputable def Bf (K:PySem.W.Frag) (ta:TA):TI:=fun σ H R=>ta σ H λvs H1=>∃a,vs=[.ref a]/\(∃xs,SqL K H1 a xs)/\R (Ite K a) H1
theorem lV:bootBuiltins "enumerate" = some (.type "enumerate"):=by decide +kernel
theorem u6:bootBuiltins "zip" = some (.type "zip"):=by decide +kernel
theorem AS {X:Cx} {es:List Expr} {k:Nat} {a:Expr} {ta:TA} {p pos tpos:Pos} (hg:Gl X "enumerate") (hm:X.mg "enumerate" = none) (ha:PA X [a] ta) (hs:starEach [a] X.env=[(false,eval a X.env)]:=by rfl) :
  PI X (.Tuple es k tpos) (.Call (.Name "enumerate" p) [a] [] pos) (Bf X.K ta):=by
 intro pins s σ H R I h;refine Call_ (iD I hg hm lV (PyProof.Rows.callWith_type1 (thn (ha pos pins s σ H _ I h) λus s1 ⟨vs,H1,I1,r1,q1⟩=>?_) hs rfl))
 obtain ⟨l,e,⟨xs,hq⟩,q⟩:=q1;subst e;obtain ⟨u,rfl,ru⟩:=Vals.one r1;cases ru;obtain ⟨its,rv,pl,hz⟩:=I1.list hq;refine call_enumerate_list pl.isList λh1 he hit hsz hk=>?_
 refine wpAny_pyIter_enum he ?_;have I2:Inv X pins σ H1 { s1 with heap:=h1 }:=I1.kept (t':=s1.toks) hk
 refine ⟨s1.heap.objs.size+1,[s1.heap.objs.size+1,s1.heap.objs.size],_,Ite X.K l,H1,rfl,I2,vo l _ _ (Nat.succ_ne_self _),⟨⟨_,he⟩,hit⟩,λb hb=>?_,q⟩
 have hb':b=s1.heap.objs.size+1\/b=s1.heap.objs.size:=by simpa using hb
 rcases hb' with z | z
 ·subst z
  exact I1.fpOk (Nat.le_succ _) (I1.hok.fresh (Nat.le_succ _))
 ·subst z
  exact I1.fpOk (Zn _) (I1.hok.fresh (Zn _))
noncomputable def Itz (K:PySem.W.Frag) (a b:Addr):It :=
 ⟨λi H=>∃xs x ys y,SqL K H a xs/\xs[i]?=some x/\SqL K H b ys/\ys[i]?=some y,λi H v H'=>∃T x y,H T=none/\v=.ref T/\H'=upd H T (.tup [x,y])/\(∀xs,SqL K H a xs->xs[i]?=some x)/\∀ys,SqL K H b ys->ys[i]?=some y,
  λi H=>∃xs ys,SqL K H a xs/\SqL K H b ys/\(xs.length<=i\/ys.length<=i)⟩
theorem vU {P:Program} {w:World} {K:PySem.W.Frag} {es:List Expr} {k:Nat} {pos:Pos} (a b z TI TO i1 i2:Addr) (z1:z≠TI/\z≠TO/\z≠i1/\z≠i2) (z2:TI≠TO/\TI≠i1/\TI≠i2) (z3:TO≠i1/\TO≠i2) (z4:i1≠i2)
  (z5:a≠z/\a≠TO/\a≠i1/\a≠i2) (z6:b≠z/\b≠TO/\b≠i1/\b≠i2) :
  Turn P w K (.Tuple es k pos) (Itz K a b) [z,TI,TO,i1,i2] z (λi h=>IsZip h z TI TO .none/\IsPair h TI (.ref i1) (.ref i2)/\(∃u v,IsPair h TO u v)/\h.IsListIter i1 a i/\h.IsListIter i2 b i):=by
 have D:ZipApart z TI TO i1 i2 a b:=⟨Ne.symm z1.1,Ne.symm z1.2.1,Ne.symm z1.2.2.1,Ne.symm z1.2.2.2,z2.1,z2.2.1,z2.2.2,z3.1,z3.2,z4,z5.1,z5.2.1,z5.2.2.1,z5.2.2.2,z6.1,z6.2.1,z6.2.2.1,z6.2.2.2⟩;have mem5:∀c,c∈[z,TI,TO,i1,i2]->c=z\/c=TI\/c=TO\/c=i1\/c=i2:=λc hc=>by simpa using hc
 constructor
 ·simp
 ·intro i h st c hc
  obtain ⟨hz,hTI,⟨u,v,hTO⟩,⟨o1,e1,c1,d1⟩,o2,e2,c2,d2⟩:=st;rcases mem5 c hc with rfl | rfl | rfl | rfl | rfl
  ·exact ⟨_,hz,λv z=>by cases z⟩
  ·exact ⟨_,hTI,λv z=>by cases z⟩
  ·exact ⟨_,hTO,λv z=>by cases z⟩
  ·exact ⟨o1,e1,λv z=>by rw [d1]at z;cases z⟩
  ·exact ⟨o2,e2,λv z=>by rw [d2]at z;cases z⟩
 ·intro i h h' st kp
  obtain ⟨hz,hTI,⟨u,v,hTO⟩,h1,h2⟩:=st;exact ⟨kp z (by simp) _ hz,kp TI (by simp) _ hTI,⟨u,v,kp TO (by simp) _ hTO⟩,h1.at λo e=>kp i1 (by simp) o e,h2.at λo e=>kp i2 (by simp) o e⟩
 ·intro X hP hw hK hc i pins s σ H E I hf st hg
  subst hP hw hK;obtain ⟨xs,x,ys,y,hq,hx,hr,hy⟩:=hg;obtain ⟨hz,hTI,⟨u,v,hTO⟩,h1,h2⟩:=st;obtain ⟨its,rv,p,_⟩:=I.list hq;obtain ⟨its2,rv2,p2,_⟩:=I.list hr;obtain ⟨ux,hux,rux⟩:=rv.get hx;obtain ⟨uy,huy,ruy⟩:=rv2.get hy;refine wpAny_pyNext_zip_item D hz hTI hTO h1 h2 p.isList p2.isList (x:=ux) (y:=uy) (by simpa using hux) (by simpa using huy) λh3 a1 a2 a3 a4 a5 a6 hk=>?_
  have zlt:z<s.heap.objs.size:=Heap.lt_size hz;refine ⟨_,rfl,wpAny_letOwnedTupleGo_zip a1 λh4 hz4 hs4=>?_⟩
  have kk:∀c w',c∉[z,TI,TO,i1,i2]->s.heap.get? c=some w'->h4.get? c=some w':=λc w' hc q=>by
   have n1:c≠z:=λe=>hc (by simp [e])
   have n2:c≠TO:=λe=>hc (by simp [e])
   have n3:c≠i1:=λe=>hc (by simp [e])
   have n4:c≠i2:=λe=>hc (by simp [e])
   exact (hs4.2 c n1).trans (hk c w' n1 n2 n3 n4 q)
  have hT4:IsPair h4 s.heap.objs.size ux uy:=(hs4.2 _ (Nat.ne_of_gt zlt)).trans a5;have hTI4:IsPair h4 TI (.ref i1) (.ref i2):=(hs4.2 _ (Ne.symm z1.1)).trans (hk _ _ (Ne.symm z1.1) z2.1 z2.2.1 z2.2.2 hTI);refine ⟨.ref s.heap.objs.size,upd H s.heap.objs.size (.tup [x,y]),mB (s:=s) (h':=h4) (t':=s.toks) I hf kk (Zn _) ?_,rfl,⟨_,x,y,I.fresh,rfl,rfl,λzs hzs=>by rw [I.list_inj hzs hq];exact hx,λzs hzs=>by rw [I.list_inj hzs hr];exact hy⟩,
   ⟨hz4,hTI4,⟨ux,uy,(hs4.2 _ (Ne.symm z1.2.1)).trans a2⟩,a3.at λo e=>(hs4.2 _ (Ne.symm z1.2.2.1)).trans e,a4.at λo e=>(hs4.2 _ (Ne.symm z1.2.2.2)).trans e⟩,λc hc=>?_⟩
  ·exact ⟨by show 2<=sizeLine;decide,[ux,uy],.cons rux (.cons ruy .nil),_,hT4,rfl,_,rfl⟩
  ·have clt:c<s.heap.objs.size:=by
    obtain ⟨o1,e1,_⟩:=h1;obtain ⟨o2,e2,_⟩:=h2;rcases mem5 c hc with rfl | rfl | rfl | rfl | rfl
    ·exact zlt
    ·exact Heap.lt_size hTI
    ·exact Heap.lt_size hTO
    ·exact Heap.lt_size e1
    ·exact Heap.lt_size e2
   rw [az (Nat.ne_of_lt clt)];exact (hf c hc).1
 ·intro X hP hw hK hc i pins s σ H E I hf st hg
  subst hP hw hK;obtain ⟨xs,ys,hq,hr,hx⟩:=hg;obtain ⟨hz,hTI,⟨u,v,hTO⟩,h1,h2⟩:=st;obtain ⟨its,rv,p,_⟩:=I.list hq;obtain ⟨its2,rv2,p2,_⟩:=I.list hr;have l1:=rv.length;have l2:=rv2.length;refine wpAny_pyNext_zip_end (I.ok.hd hc) D hz hTI hTO h1 h2 p.isList p2.isList (by simp;lia) λh3 hk=>⟨rfl,pH (t':=s.toks) I hf λc w' hc q=>hk c w' (λe=>hc (by simp [e])) (λe=>hc (by simp [e])) (λe=>hc (by simp [e])) (λe=>hc (by simp [e])) q⟩
 ·intro A i s Q E st h
  exact wpAny_pyIter_zip st.1 h
mutual
inductive Rep (K:PySem.W.Frag) (H:Hp):V->PyData->Prop
 |non:Rep K H .non .none
 |bl (b:Bool):Rep K H (.bl b) (.bool b)
 |int (i:Int):Rep K H (.int i) (.int i)
 |str (x:Str):Rep K H (.str x) (.str x)
 |lst {a:Addr} {xs:List V} {ds:List PyData}:SqL K H a xs->RepAll K H xs ds->Rep K H (.ref a) (.list ds)
 |tup {a:Addr} {xs:List V} {ds:List PyData}:SqT K H a xs->RepAll K H xs ds->Rep K H (.ref a) (.tuple ds)
inductive RepAll (K:PySem.W.Frag) (H:Hp):List V->List PyData->Prop
 |nil:RepAll K H [] []
 |cons {v:V} {vs:List V} {d:PyData} {ds:List PyData}:Rep K H v d->RepAll K H vs ds->RepAll K H (v :: vs) (d :: ds)
end
theorem FV {K:PySem.W.Frag} {H H':Hp} {a:Addr} {xs:List V} (e:aB H H') (h:SqT K H a xs):SqT K H' a xs:=by
 rcases h with (h | ⟨o,h⟩) | h
 ·exact .inl (.inl (e _ _ h))
 ·exact .inl (.inr ⟨o,e _ _ h⟩)
 ·exact .inr h
mutual
theorem Rep.same {K:PySem.W.Frag} {H H':Hp} (e:aB H H') {v:V} {d:PyData}:Rep K H v d->Rep K H' v d
 |.non=>.non
 |.bl b=>.bl b
 |.int i=>.int i
 |.str x=>.str x
 |.lst h r=>.lst (e.seq h) (RepAll.same e r)
 |.tup h r=>.tup (FV e h) (RepAll.same e r)
theorem RepAll.same {K:PySem.W.Frag} {H H':Hp} (e:aB H H') {vs:List V} {ds:List PyData}:RepAll K H vs ds->RepAll K H' vs ds
 |.nil=>.nil
 |.cons h r=>.cons (Rep.same e h) (RepAll.same e r)
end
mutual
theorem Rep.reads {X:Cx} {pins:List (Addr×Obj)} {σ:St} {H:Hp} {s:Shared} (I:Inv X pins σ H s) {v:V} {d:PyData}:∀{u:Value},Rep X.K H v d->RelV v u->∃as,Reads s.heap u d as
 |_,.non,r=>by
  cases r;exact ⟨_,.none⟩
 |_,.bl b,r=>by
  cases r;exact ⟨_,.bool b⟩
 |_,.int i,r=>by
  obtain ⟨t,rfl⟩:=r;exact ⟨_,.int i t⟩
 |_,.str x,r=>by
  obtain ⟨t,rfl⟩:=r;exact ⟨_,.str x t⟩
 |_,.lst h ra,r=>by
  cases r;obtain ⟨its,rv,pl,hz⟩:=I.list h;obtain ⟨as,ha⟩:=RepAll.reads I ra rv;obtain ⟨o,e,c,n,dd⟩:=pl.isList;exact ⟨_,.list e c dd (by simpa using ha)⟩
 |_,.tup h ra,r=>by
  cases r;obtain ⟨its,rv,pl,hz⟩:=I.tuple h;obtain ⟨as,ha⟩:=RepAll.reads I ra rv;obtain ⟨o,e,c,n,dd⟩:=(show s.heap.IsTuple _ its.toArray from pl)
  exact ⟨_,.tuple e c dd (by simpa using ha)⟩
theorem RepAll.reads {X:Cx} {pins:List (Addr×Obj)} {σ:St} {H:Hp} {s:Shared} (I:Inv X pins σ H s) {vs:List V} {ds:List PyData}:∀{us:List Value},RepAll X.K H vs ds->Vals vs us->∃as,ReadsAll s.heap us ds as
 |_,.nil,.nil=>⟨_,.nil⟩
 |_,.cons h r,.cons q t=>by
  obtain ⟨as,ha⟩:=Rep.reads I h q;obtain ⟨bs,hb⟩:=RepAll.reads I r t;exact ⟨_,.cons ha hb⟩
end
noncomputable def GX (K:PySem.W.Frag):R2:=λx y H Q=>∃d e,Rep K H x d/\Rep K H y e/\SeqAt.shaped d=true/\SeqAt.shaped e=true/\Q (.bl (PyData.eqv d e)) H
noncomputable def G4 (K:PySem.W.Frag):R2:=λx y H Q=>∃d e,Rep K H x d/\Rep K H y e/\SeqAt.shaped d=true/\SeqAt.shaped e=true/\Q (.bl (!PyData.eqv d e)) H
theorem EN {X:Cx} (hu:X.A.units+64<cLine):OpR X (compareOp .Eq) (GX X.K):=by
 intro pins s σ H x y v u Q I rx ry h;obtain ⟨d,e,h1,h2,s1,s2,q⟩:=h;obtain ⟨as,r1⟩:=h1.reads I rx;obtain ⟨bs,r2⟩:=h2.reads I ry;exact eq_dataH r1 r2 s1 s2 hu ⟨.bl _,H,I,rfl,q⟩
theorem BU {X:Cx} (hu:X.A.units+64<cLine):OpR X (compareOp .NotEq) (G4 X.K):=by
 intro pins s σ H x y v u Q I rx ry h;obtain ⟨d,e,h1,h2,s1,s2,q⟩:=h;obtain ⟨as,r1⟩:=h1.reads I rx;obtain ⟨bs,r2⟩:=h2.reads I ry;exact ne_dataH r1 r2 s1 s2 hu ⟨.bl _,H,I,rfl,q⟩
theorem fB:bootBuiltins "isinstance" = some (.builtin "isinstance"):=by decide +kernel
theorem wZ {X:Cx}:MtR X "list.index" (λx vs H Q=>∃(a:Addr) (ns:List Int) (z:Int),x=.ref a/\vs=[.int z]/\SqL X.K H a (ns.map V.int)/\z∈ns/\Q (.int (ns.idxOf z:Nat)) H):=by
 intro pins s σ H x vs v us Q I rx rv h;obtain ⟨a,ns,z,rfl,rfl,hq,hm,q⟩:=h;cases rx;obtain ⟨u,rfl,t,rfl⟩:=Vals.one rv;obtain ⟨its,rs,pl,hz⟩:=I.list hq;have hi:IntsAre its ns:=intsAre_of rs;obtain ⟨⟨cls,dd,data,sl⟩,ho,hc,n,hd⟩:=pl.isList;simp only at hc hd;subst hc hd;have hlen:=hi.length;have hj:ns.idxOf z<ns.length:=List.idxOf_lt_length_iff.mpr hm;have hn:=iT;have hb:ns.length<=sizeLine:=by simpa using hz
 refine call_meets PySem.F.slot_list_index ⟨_,ho,rfl⟩ PySem.F.entry_list_index (PySem.F.args_list_index_2 _ _)
  (SeqAt.list_indexAt a its.toArray n dd sl (.int z t) (isInt z) (ns.idxOf z) (by simpa [hlen]using hj) (by lia) ?_ ?_) ⟨ho,λy hy=>(eq_isInt z t hi y (by simpa using hy)).at _ _,⟨.int _,H,I.tok _,⟨_,rfl⟩,q⟩⟩
 ·show isInt z its[ns.idxOf z]=true
  rw [isInt_at z hi _ (by lia) hj]
  simpa using List.getElem_idxOf hj
 ·intro j hjs hlt
  show isInt z its[j]=false
  rw [isInt_at z hi j (by simpa using hjs) (by lia)]
  exact ne_of_lt_idxOf hlt _
section
variable {g:TG} {tc:TT} {te:TE} {σ0:St} {D:Addr} {H1:Hp} {Q:Hp->Prop}
end
structure Def (K:PySem.W.Frag) (mg:Str->Option Value) (x:Str) (st:Stmt) (ps:List Str) (f:Addr) (fd:FuncData):Prop where
 F:Fun K x x st f fd
 g:mg x=some (.ref f)
 b:Binds K fd ps []
theorem aB.upd {H H':Hp} {a:Addr} {o:HO} (e:aB H H') (h:H a=none):aB H (L2.upd H' a o):=λb u q=>by
 rw [az (aU q h)];exact e b u q
section
variable {X:Cx}
theorem rA (K:PySem.W.Frag) (h:X.K=K):IxR X (yx K):=by
 subst h;exact s_
noncomputable def Ga (K:PySem.W.Frag):List V->Hp->VK->Prop:=λxs H Q=>∃p ys,xs=[.ref p]/\(SqL K H p ys\/SqT K H p ys)/\∀l,H l=none->Q (.ref l) (upd H l (.lst ys))
theorem jh (K:PySem.W.Frag) (h:X.K=K):eV X (.type "list") (Ga K):=by
 subst h;exact pv
end
end L2
namespace L2
open PySem PySem.Spec PyProof.Rows
section
variable {κ:Type} [DecidableEq κ]
noncomputable def nj (kvs:List (κ×V)) (k:κ):Option V:=(kvs.find? λkv=>decide (kv.1=k)).map (·.2)
noncomputable def putK (kvs:List (κ×V)) (k:κ) (v:V):List (κ×V) :=
 if (kvs.any λkv=>decide (kv.1=k))=true then kvs.map (λkv=>if kv.1=k then (kv.1,v) else kv) else kvs++[(k,v)]
theorem j7 {p:κ×V} {r:List (κ×V)} {k:κ} (e:p.1=k):nj (p :: r) k=some p.2:=by simp [nj,List.find?_cons,e]
theorem j_ {p:κ×V} {r:List (κ×V)} {k:κ} (e:¬p.1=k):nj (p :: r) k=nj r k:=by simp [nj,List.find?_cons,e]
theorem rJ (k:κ):∀kvs:List (κ×V),(kvs.any λkv=>decide (kv.1=k))=(nj kvs k).isSome
 |[]=>rfl
 |p :: r=>by
  rw [List.any_cons];by_cases e:p.1=k
  ·simp only [j7 e,decide_eq_true e,Bool.true_or,Option.isSome_some]
  ·rw [j_ e,decide_eq_false e,Bool.false_or];exact rJ k r
theorem iX (kvs:List (κ×V)) (k:κ) (v:V):(putK kvs k v).length<=kvs.length+1:=by
 unfold putK;split
 ·rw [Zc];lia
 ·rw [Zd,Zr,List.length_nil];lia
theorem jx.isSome_eq {o:Option V} {u:Option Value} (r:jx o u):o.isSome=u.isSome:=by
 cases o with
 |none=>cases u with
  |none=>rfl
  |some _=>exact (show False from r).elim
 |some _=>cases u with
  |none=>exact (show False from r).elim
  |some _=>rfl
theorem KV.val {kvs:List (κ×V)} {vs:List (κ×Value)} (r:KV kvs vs) (k:κ):jx (nj kvs k) (valueAt vs k):=by
 unfold KV at r
 induction r with
 |nil=>exact True.intro
 |@cons p q ps qs h t ih =>
  obtain ⟨h1,h2⟩:=h;by_cases e:p.1=k
  ·have e':q.1=k:=h1.symm.trans e
   have b:valueAt (q :: qs) k=some q.2:=by simp [valueAt,List.find?_cons,e']
   rw [j7 e,b];exact h2
  ·have e':¬q.1=k:=λz=>e (h1.trans z)
   have b:valueAt (q :: qs) k=valueAt qs k:=by simp [valueAt,List.find?_cons,e']
   rw [j_ e,b];exact ih
theorem KV.any {kvs:List (κ×V)} {vs:List (κ×Value)} (r:KV kvs vs) (k:κ):(kvs.any λkv=>decide (kv.1=k))=vs.any λkv=>decide (kv.1=k):=by
 unfold KV at r
 induction r with
 |nil=>rfl
 |cons h t ih=>rw [List.any_cons,List.any_cons,ih,h.1]
theorem KV.repl {kvs:List (κ×V)} {vs:List (κ×Value)} (r:KV kvs vs) (k:κ) {y:V} {u:Value} (ry:RelV y u) :
  KV (kvs.map λkv=>if kv.1=k then (kv.1,y) else kv) (vs.map λkv=>if kv.1=k then (kv.1,u) else kv):=by
 unfold KV at r ⊢
 induction r with
 |nil=>exact .nil
 |@cons p q ps qs h t ih =>
  rw [Zk,Zk];refine .cons ?_ ih;obtain ⟨h1,h2⟩:=h;by_cases e:p.1=k
  ·rw [if_pos e,if_pos (h1.symm.trans e)];exact ⟨h1,ry⟩
  ·rw [if_neg e,if_neg (λz=>e (h1.trans z))];exact ⟨h1,h2⟩
theorem KV.put {kvs:List (κ×V)} {vs:List (κ×Value)} (r:KV kvs vs) (k:κ) {y:V} {u:Value} (ry:RelV y u):KV (putK kvs k y) (stored vs k u):=by
 unfold putK stored;rw [r.any k];by_cases e:(vs.any λkv=>decide (kv.1=k))=true
 ·rw [if_pos e,if_pos e];exact r.repl k ry
 ·rw [if_neg e,if_neg e];exact Paired.snoc r ⟨rfl,ry⟩
theorem KV.keys {kvs:List (κ×V)} {vs:List (κ×Value)} (r:KV kvs vs):kvs.map (·.1)=vs.map (·.1):=by
 unfold KV at r
 induction r with
 |nil=>rfl
 |cons h t ih=>rw [Zk,Zk,ih,h.1]
theorem KV.length {kvs:List (κ×V)} {vs:List (κ×Value)} (r:KV kvs vs):kvs.length=vs.length:=Paired.length r
end
theorem uj {P:Program} {w:World} {k:Key} {u:Value} (r:RelV (kV k) u):(cT P w).is k u=true:=by
 cases k with
 |inl i=>obtain ⟨t,e⟩:=(show ∃t,u=Value.int i t from r);subst e;exact qY P w i t
 |inr x=>obtain ⟨t,e⟩:=(show ∃t,u=Value.str x t from r);subst e;exact rF P w x t
theorem oJ {P:Program} {w:World}:∀{ks:List Key} {us:List Value},Vals (ks.map kV) us->ItemsAre (cT P w) ks us
 |[],_,r=>by rw [List.map_nil]at r;cases r;exact .nil
 |k :: ks,_,r=>by
  rw [Zk]at r;cases r with
  |cons h t=>exact .cons (uj h) (oJ t)
noncomputable abbrev KT (H:Hp):List (List Key×V)->List (List Key×Addr×Value)->Prop:=Paired λp q=>p.1=q.1/\H q.2.1=some (.tup (p.1.map kV))/\RelV p.2 q.2.2
theorem KT.val {H:Hp} {kvs:List (List Key×V)} {xs:List (List Key×Addr×Value)} (r:KT H kvs xs) (k:List Key):jx (nj kvs k) ((atKey xs k).map (·.2)):=by
 induction r with
 |nil=>exact True.intro
 |@cons p q ps qs h t ih =>
  obtain ⟨h1,_,h2⟩:=h;by_cases e:p.1=k
  ·have e':q.1=k:=h1.symm.trans e
   have b:atKey (q :: qs) k=some q.2:=by simp [atKey,List.find?_cons,e']
   rw [j7 e,b];exact h2
  ·have e':¬q.1=k:=λz=>e (h1.trans z)
   have b:atKey (q :: qs) k=atKey qs k:=by simp [atKey,List.find?_cons,e']
   rw [j_ e,b];exact ih
theorem KT.repl {H:Hp} {kvs:List (List Key×V)} {xs:List (List Key×Addr×Value)} (r:KT H kvs xs) (k:List Key) {y:V} {u:Value} (ry:RelV y u) :
  KT H (kvs.map λkv=>if kv.1=k then (kv.1,y) else kv) (xs.map (putAt k u)):=by
 induction r with
 |nil=>exact .nil
 |@cons p q ps qs h t ih =>
  rw [Zk,Zk];refine .cons ?_ ih;obtain ⟨h1,h2,h3⟩:=h;unfold putAt;by_cases e:p.1=k
  ·rw [if_pos e,if_pos (h1.symm.trans e)];exact ⟨h1,h2,ry⟩
  ·rw [if_neg e,if_neg (λz=>e (h1.trans z))];exact ⟨h1,h2,h3⟩
theorem KT.put {H:Hp} {kvs:List (List Key×V)} {xs:List (List Key×Addr×Value)} (r:KT H kvs xs) (k:List Key) {b:Addr} {y:V} {u:Value} (hb:H b=some (.tup (k.map kV))) (ry:RelV y u) :
  KT H (putK kvs k y) (storedH xs k b u):=by
 have e:(kvs.any λkv=>decide (kv.1=k))=(atKey xs k).isSome:=by
  rw [rJ,(r.val k).isSome_eq,Option.isSome_map]
 unfold putK storedH;rw [e];by_cases q:(atKey xs k).isSome=true
 ·rw [if_pos q,if_pos q];exact r.repl k ry
 ·rw [if_neg q,if_neg q];exact Paired.snoc r ⟨rfl,hb,ry⟩
theorem KT.keeps {H H':Hp} {kvs:List (List Key×V)} {xs:List (List Key×Addr×Value)} (r:KT H kvs xs) (ht:∀b ys,H b=some (.tup ys)->H' b=some (.tup ys)):KT H' kvs xs :=
 Paired.mapP r λ_ _ z=>⟨z.1,ht _ _ z.2.1,z.2.2⟩
section
variable {P:Program} {w:World} {H:Hp} {h:Heap} {a:Addr}
theorem Br {u:HO} (ok:HOk P w H h) (e:Rd H a u):c9 P w H h a u:=e.ok ok
theorem yK {kvs:List (Key×V)} (ok:HOk P w H h) (e:Rd H a (.dK kvs)):kvs.length<=sizeLine/\(a == sysModules)=false/\∃vs,KV kvs vs/\h.DictOf (cT P w) a vs :=
 show c9 P w H h a (.dK kvs) from Br ok e
theorem Bi {kvs:List (Key×V)} (ok:HOk P w H h) (e:H a=some (.dK kvs)):kvs.length<=sizeLine/\(a == sysModules)=false/\∃vs,KV kvs vs/\h.DictOf (cT P w) a vs:=yK ok (.inl e)
theorem jK {ks:List Key} (ok:HOk P w H h) (e:H a=some (.tup (ks.map kV))):(tupleKind (cT P w)).is h ks a:=by
 obtain ⟨_,its,r,o,h1,h2,n,h3⟩:=(show c9 P w H h a (.tup (ks.map kV)) from ok a _ e)
 exact ⟨o,its.toArray,n,h1,h2,h3,by simpa using oJ r⟩
theorem xx {kvs:List (List Key×V)} (ok:HOk P w H h) (e:Rd H a (.dT kvs)):kvs.length<=sizeLine/\(a == sysModules)=false /\
  ∃xs,KT H kvs xs/\h.DictOfH (tupleKind (cT P w)) a xs:=by
 obtain ⟨z,y,xs,r,o,es,ep,h1,h2,h3,h4,h5⟩:=(show c9 P w H h a (.dT kvs) from Br ok e)
 refine ⟨z,y,xs,r,o,es,ep,h1,h2,h3,h4,λx hx=>?_,h5⟩
 have all:∀{l:List (List Key×V)} {m:List (List Key×Addr×Value)},KT H l m->∀x∈m,(tupleKind (cT P w)).is h x.1 x.2.1:=by
  intro l m q
  induction q with
  |nil=>intro x hx;exact nomatch hx
  |@cons p q ps qs hq t ih =>
   intro x hx;rcases Zo.mp hx with e | hx
   ·subst e
    exact jK ok (by rw [<-hq.1];exact hq.2.1)
   ·exact ih x hx
 exact all r x hx
theorem HG {kvs:List (List Key×V)} (ok:HOk P w H h) (e:H a=some (.dT kvs)):kvs.length<=sizeLine/\(a == sysModules)=false /\
  ∃xs,KT H kvs xs/\h.DictOfH (tupleKind (cT P w)) a xs:=xx ok (.inl e)
end
noncomputable def AN (H:Hp) (a:Addr) (y:V) (r:Option V):Prop :=
 (∃kvs k,Rd H a (.dK kvs)/\y=kV k/\r=nj kvs k)\/∃kvs k b,Rd H a (.dT kvs)/\y=.ref b/\H b=some (.tup (k.map kV))/\r=nj kvs k
noncomputable def FG (H:Hp) (a:Addr) (y v:V) (H':Hp):Prop :=
 (∃kvs k,H a=some (.dK kvs)/\y=kV k/\kvs.length<sizeLine/\H'=upd H a (.dK (putK kvs k v))) \/
 ∃kvs k b,H a=some (.dT kvs)/\y=.ref b/\H b=some (.tup (k.map kV))/\kvs.length<sizeLine/\H'=upd H a (.dT (putK kvs k v))
section
variable {X:Cx} {pins:List (Addr×Obj)} {σ:St} {H:Hp} {s:Shared} {a:Addr} {y v:V} {u r:Value} {o:Option V} {A:Around} {E:Value->Shared->Prop}
theorem Inv.big (I:Inv X pins σ H s):sysModules<s.heap.objs.size:=by
 have h:mainGlobals<s.heap.objs.size:=(I.mod.glob.keeps I.bk).lt;exact Nat.lt_trans (by decide) h
theorem vm {Q:Value->Shared->Prop} (hu:A.units+1<cLine) (I:Inv X pins σ H s) (g:AN H a y (some v)) (ry:RelV y u) (h:∀w' s',Inv X pins σ H s'->RelV v w'->Q w' s') :
  wpAny (model X.prog X.w) A (getItem (.ref a) u) Q E s:=by
 rcases g with ⟨kvs,k,e,ey,l⟩ | ⟨kvs,k,b,e,ey,eb,l⟩
 ·subst ey
  obtain ⟨z,hd,vs,rel,dd⟩:=yK I.hok e;obtain ⟨w',hw,rw'⟩:=jx.some_of (v:=v) (o:=valueAt vs k) (by rw [l];exact rel.val k)
  exact wpAny_getItem_of (uj ry) dd.mapOf hw (h w' _ (I.tok _) rw')
 ·subst ey
  cases (show u=Value.ref b from ry)
  obtain ⟨z,hd,xs,rel,dd⟩:=xx I.hok e;obtain ⟨w',hw,rw'⟩:=jx.some_of (v:=v) (o:=(atKey xs k).map (·.2)) (by rw [l];exact rel.val k)
  obtain ⟨p,hp,hp2⟩:=Zp.mp hw;refine wpAny_getItem_heap (tupleKind_room_in1 hu) (jK I.hok eb) dd hp ?_;rw [hp2];exact h w' _ (I.tok _) rw'
theorem p8 {h':Heap} {t':Nat} {ob:HO} (I:Inv X pins σ H s) (mu:Mut (H a)) (hs:Heap.SameBut a s.heap h') (he:∃q,h'.get? a=some q) (new:c9 X.prog X.w (upd H a ob) h' a ob) :
  Inv X pins σ (upd H a ob) { s with heap:=h',toks:=t' } :=
 I.write (x:=a) (e:=a) mu (.inl rfl) (λb q hb z=>(hs.2 b hb).trans z) he new
theorem xl {P:Program} {w:World} {H':Hp} {h':Heap} {kvs:List (Key×V)} {vs:List (Key×Value)} (z:kvs.length<=sizeLine) (hd:(a == sysModules)=false) (rel:KV kvs vs) (dd:h'.DictOf (cT P w) a vs) :
  c9 P w H' h' a (.dK kvs):=⟨z,hd,vs,rel,dd⟩
theorem vA {H':Hp} {Q:Unit->Shared->Prop} (hu:A.units+1<cLine) (I:Inv X pins σ H s) (g:FG H a y v H') (ry:RelV y u) (rv:RelV v r) (h:∀s',Inv X pins σ H' s'->Q () s') :
  wpAny (model X.prog X.w) A (setItem (.ref a) u r) Q E s:=by
 rcases g with ⟨kvs,k,e,ey,l,eH⟩ | ⟨kvs,k,b,e,ey,eb,l,eH⟩
 ·subst ey eH
  obtain ⟨z,hd,vs,rel,dd⟩:=Bi I.hok e;have hz:vs.length<=sizeLine:=by rw [<-rel.length];exact z
  have hl:(putK kvs k v).length<=sizeLine:=by have:=iX kvs k v;lia
  refine wpAny_setItem_pairs (hsz:=hz) (uj ry) dd λh' dd' hs=>h _ ?_
  have he:∃q,h'.get? a=some q:=let ⟨q,_,_,hq,_⟩:=dd';⟨q,hq⟩;exact p8 I (by rw [e];exact True.intro) hs he (xl hl hd (rel.put k rv) dd')
 ·subst ey eH
  cases (show u=Value.ref b from ry)
  obtain ⟨z,hd,xs,rel,dd⟩:=HG I.hok e;have hz:xs.length<=sizeLine:=by rw [<-Paired.length rel];exact z
  have hl:(putK kvs k v).length<=sizeLine:=by have:=iX kvs k v;lia
  refine wpAny_setItem_heap (hsz:=hz) (tupleKind_room_in1 hu) (jK I.hok eb) dd λh' dd' hs=>h _ ?_
  obtain ⟨q,es,ep,hq,h2,h3,h4,_,h5⟩:=dd';refine p8 I (by rw [e];exact True.intro) hs ⟨q,hq⟩ ⟨hl,hd,_,(rel.put k eb rv).keeps λc ys ec=>?_,q,es,ep,hq,h2,h3,h4,h5⟩
  rw [az (FZ ec e (λz=>nomatch z))]
  exact ec
end
section
variable {X:Cx} {pins:List (Addr×Obj)} {σ:St} {H:Hp} {s:Shared} {a:Addr} {kvs:List (Key×V)} {k:Key} {u:Value} {A:Around} {E:Value->Shared->Prop}
end
noncomputable def B5 (i:Expr):Prop:=∀ov iv,subscripted i false ov iv=operate [ov,iv] (getItem ov iv)
theorem zZ {prog:Program} {w:World} {A:Around} {E:Value->Shared->Prop} {s:Shared} {env:Env} {value slice:Expr} {pos:Pos} {T id:String} {Q:Value->Shared->Prop}
  (hl:typeLookup (.type T) "__getitem__" = pure (some (.builtin id))) (hs:B5 slice)
  (h:wpAny (model prog w) A (eval value env) (λo s₁=>wpAny (model prog w) A (eval slice env) (λi s₂=>s₂.TypeIs o T/\wpAny (model prog w) A (getItem o i) Q E s₂) E s₁) E s) :
  wpAny (model prog w) A (eval (.Subscript value slice pos) env) Q E s:=by
 refine Subscript_ (wpAny_mono h (λo s₁ h₁=>wpAny_mono h₁ (λi s₂ h₂=>?_) λ_ _ x=>x) λ_ _ x=>x)
 obtain ⟨hT,h₂⟩:=h₂;unfold subscriptTail;refine wpAny_bind ?_;rw [getitemInPython_of_ne hT.not_modules];refine wpAny_bind (wpAny_specialOf hT hl ?_);have fin:wpAny (model prog w) A (subscripted slice false o i) (λr s₃=>wpAny (model prog w) A (letTemporaryGo value o r >>= λ_=>pure r) Q E s₃) E s₂:=by
  rw [hs o i];exact wpAny_operating (wpAny_mono h₂ (λr s₃ h₃=>wpAny_bind (wpAny_letTemporaryGo (wpAny_pure h₃))) λ_ _ x=>x)
 first
  |exact wpAny_pure (wpAny_bind fin)
  |exact wpAny_bind (wpAny_pure (wpAny_bind fin))
  |exact wpAny_bind fin
theorem q0 {X:Cx} {pins:List (Addr×Obj)} {σ:St} {H:Hp} {s:Shared} {a:Addr} {y:V} {o:Option V} (I:Inv X pins σ H s) (g:AN H a y o):s.TypeIs (.ref a) "dict" := by
 rcases g with ⟨kvs,k,e,_,_⟩ | ⟨kvs,k,b,e,_,_,_⟩
 ·obtain ⟨_,_,vs,_,dd⟩:=yK I.hok e
  exact dd.typeIs
 ·obtain ⟨_,_,xs,_,dd⟩:=xx I.hok e
  exact dd.typeIs
noncomputable def Ia (td ty:TE):TE:=fun σ H Q=>td σ H λx H1=>ty σ H1 λy H2=>∃a v,x=.ref a/\AN H2 a y (some v)/\Q v H2
noncomputable def Bd (td ty tv:TE):TS:=λD σ H=>tv σ H λv H1=>td σ H1 λx H2=>ty σ H2 λy H3=>∃a H4,x=.ref a/\FG H3 a y v H4/\D.nx σ H4
section
variable {X:Cx} {o i e value:Expr} {pos pos' tpos:Pos} {td ty tv:TE}
theorem zU (hu:X.A.units+1<cLine) (ho:PE X o td) (hi:PE X i ty) (hs:B5 i):PE X (.Subscript o i pos) (Ia td ty):=by
 intro pins s σ H Q I h;refine zZ PySem.F.slot_dict_getitem.lookup hs (thn (ho pins s σ H _ I h) λu s1 ⟨x,H1,I1,rx,q1⟩=>thn (hi pins s1 σ H1 _ I1 q1) λiv s2 ⟨y,H2,I2,ry,a,v,ex,g,q2⟩=>?_)
 subst ex;obtain rfl:u=Value.ref a:=rx;exact ⟨q0 I2 g,vm hu I2 g ry λw' s3 I3 rw'=>⟨v,H2,I3,rw',q2⟩⟩
theorem zh (hu:X.A.units+1<cLine) (ho:PE X o td) (hi:PE X i ty) (hv:PE X value tv) (hs:swapsWith value (some (.Subscript o i pos')) pos.line X.env=pure false) :
  PS X (.Assign [.Subscript o i pos'] value pos) (Bd td ty tv):=by
 intro pins s σ H D I h;refine wpAny_Assign_Subscript (thn (hv pins s σ H _ I h) λr s1 ⟨v,H1,I1,rv,q1⟩=>thn (ho pins s1 σ H1 _ I1 q1) λu s2 ⟨x,H2,I2,rx,q2⟩=>thn (hi pins s2 σ H2 _ I2 q2) λiv s3 ⟨y,H3,I3,ry,a,H4,ex,g,q3⟩=>?_) hs
 subst ex;obtain rfl:u=Value.ref a:=rx;exact vA hu I3 g ry rv λs4 I4=>⟨σ,H4,I4,q3⟩
end
theorem qJ {P:Program} {w:World} {H:Hp} (h:Heap) (hb:sysModules<h.objs.size):c9 P w H (h.push { cls:=.type "dict",data:=.dict #[] }) h.objs.size (.dK []) :=
 ⟨Nat.zero_le _,beq_eq_false_iff_ne.mpr (Ne.symm (Nat.ne_of_lt hb)),[],.nil,Heap.DictOf.new h⟩
noncomputable def we:TE:=λ_ H Q=>∀p,H p=none->Q (.ref p) (upd H p (.dK []))
section
variable {X:Cx} {pos:Pos}
theorem xV:PE X (.Dict [] [] pos) we:=λpins s σ H Q I h =>
 wpAny_Dict_empty ⟨.ref s.heap.objs.size,_,I.laid (a:=s.heap.objs.size) (o:=.dK []) (t':=s.toks) (λ_ _ q=>Heap.get?_push_of_some _ q) (Zn _) (qJ s.heap I.big),rfl,h _ (I.hok.fresh (Zn _))⟩
end
noncomputable def sQ:List (TE×TE)->St->Hp->(List (V×V)->Hp->Prop)->Prop
 |[],_,H,Q=>Q [] H
 | (tk,tv) :: r,σ,H,Q=>tk σ H λx H1=>tv σ H1 λy H2=>sQ r σ H2 λps H3=>Q ((x,y) :: ps) H3
noncomputable abbrev VV:List (V×V)->List (Value×Value)->Prop:=Paired λp q=>RelV p.1 q.1/\RelV p.2 q.2
noncomputable def PPs (X:Cx) (pos:Pos) (keys:List (Option Expr)) (values:List Expr) (trs:List (TE×TE)):Prop :=
 ∀(pins:List (Addr×Obj)) (s:Shared) (σ:St) (H:Hp) (Q:List (V×V)->Hp->Prop),Inv X pins σ H s->sQ trs σ H Q ->
  wpAny (model X.prog X.w) X.A (evalPairs (pairTrees keys values X.env pos)) (λvs s'=>∃ps H',Inv X pins σ H' s'/\VV ps vs/\Q ps H') X.xe s
theorem zN {X:Cx} {pos:Pos}:PPs X pos [] [] []:=λpins s σ H Q I h=>pairTrees_nil_walk ⟨[],H,I,.nil,h⟩
theorem yu {X:Cx} {pos:Pos} {k v:Expr} {ks:List (Option Expr)} {vs:List Expr} {tk tv:TE} {trs:List (TE×TE)} (hk:PE X k tk) (hv:PE X v tv) (hr:PPs X pos ks vs trs) :
  PPs X pos (some k :: ks) (v :: vs) ((tk,tv) :: trs):=λpins s σ H Q I h =>
 pairTrees_cons_walk (thn (hk pins s σ H _ I h) λu s1 ⟨x,H1,I1,rx,q1⟩=>thn (hv pins s1 σ H1 _ I1 q1) λw2 s2 ⟨y,H2,I2,ry,q2⟩ =>
  thn (hr pins s2 σ H2 _ I2 q2) λws s3 ⟨ps,H3,I3,rel,q3⟩=>⟨(x,y) :: ps,H3,I3,.cons ⟨rx,ry⟩ rel,q3⟩)
noncomputable def lC (kvs more:List (Key×V)):List (Key×V):=more.foldl (λacc kv=>putK acc kv.1 kv.2) kvs
theorem KV.merge:∀{more:List (Key×V)} {rs:List (Key×Value)} {kvs:List (Key×V)} {vs:List (Key×Value)},KV more rs->KV kvs vs->KV (lC kvs more) (merged vs rs):=by
 intro more rs kvs vs r;unfold KV at r
 induction r generalizing kvs vs with
 |nil=>intro q;exact q
 |@cons p q ps qs h t ih =>
  intro r0;have e:KV (putK kvs p.1 p.2) (stored vs q.1 q.2):=by
   have:=r0.put p.1 h.2;rw [<-h.1];exact this
  exact ih e
theorem jI:∀(more kvs:List (Key×V)),(lC kvs more).length<=kvs.length+more.length
 |[],kvs=>by show kvs.length<=kvs.length+0;lia
 |p :: r,kvs=>by
  have h1:=jI r (putK kvs p.1 p.2);have h2:=iX kvs p.1 p.2;show (lC (putK kvs p.1 p.2) r).length<=_
  rw [Zr];lia
theorem m5 {P:Program} {w:World}:∀{kvs:List (Key×V)} {ws:List (Value×Value)},VV (kvs.map λkv=>(kV kv.1,kv.2)) ws->∃rs,Carries (cT P w) ws rs/\KV kvs rs
 |[],_,r=>by rw [List.map_nil]at r;cases r;exact ⟨[],True.intro,.nil⟩
 |p :: kvs,_,r=>by
  rw [Zk]at r;cases r with
  |@cons a b as bs h t =>
   obtain ⟨rs,c,q⟩:=m5 (P:=P) (w:=w) t;obtain ⟨b1,b2⟩:=b;exact ⟨(p.1,b2) :: rs,⟨uj h.1,rfl,c⟩,.cons ⟨rfl,h.2⟩ q⟩
noncomputable def Bn (trs:List (TE×TE)):TE:=fun σ H Q=>∀p,H p=none->sQ trs σ (upd H p (.dK [])) λps H2=>H2 p=some (.dK [])/\∃kvs:List (Key×V),ps=kvs.map (λkv=>(kV kv.1,kv.2))/\kvs.length<=15/\Q (.ref p) (upd H2 p (.dK (lC [] kvs)))
theorem AK {X:Cx} {pos:Pos} {keys:List (Option Expr)} {values:List Expr} {trs:List (TE×TE)} (h:PPs X pos keys values trs) (hall:keys.all (·.isSome)=true) (hl:keys.length=values.length) (h0:keys≠[])
  (h15:keys.length<=15):PE X (.Dict keys values pos) (Bn trs):=by
 intro pins s σ H Q I q;have hn:=I.hok.fresh (Zn s.heap.objs.size);have I1:=I.laid (a:=s.heap.objs.size) (o:=.dK []) (h':=s.heap.push { cls:=.type "dict",data:=.dict #[] }) (t':=s.toks) (λ_ _ q=>Heap.get?_push_of_some _ q) (Zn _) (qJ s.heap I.big)
 refine wpAny_Dict_walk (knd:=cT X.prog X.w) hall hl h0 h15 (thn (h pins _ σ _ _ I1 (q _ hn)) λws s2 ⟨ps,H2,I2,rel,e,kvs,ep,lk,q2⟩=>?_)
 subst ep;obtain ⟨rs,c,rk⟩:=m5 (P:=X.prog) (w:=X.w) rel;obtain ⟨z,hd,vs0,r0,dd⟩:=Bi I2.hok e;cases r0;refine ⟨rs,c,dd,λh' dd' hs=>⟨.ref s.heap.objs.size,_,?_,rfl,q2⟩⟩
 have hz:(lC [] kvs).length<=sizeLine:=by
  have h1:=jI kvs [];rw [List.length_nil]at h1;rw [sizeLine_eq];lia
 have he:∃q,h'.get? s.heap.objs.size=some q:=let ⟨q,_,_,hq,_⟩:=dd';⟨q,hq⟩;exact p8 I2 (by rw [e];exact True.intro) hs he (xl hz hd (rk.merge .nil) dd')
end L2
namespace L3
open PySem L2 PySem.Spec PyProof.Rows
noncomputable abbrev St:=L2.St
noncomputable def RdK (K:PySem.W.Frag) (H:Hp) (a:Addr) (xs:List V):Prop :=
 Rd H a (.lst xs)\/∃(its:Array Value) (n:Nat),K.lookup a=some { cls:=.type "list",data:=.seq its n }/\its.size<=sizeLine/\Vals xs its.toList
theorem RdK.of {K:PySem.W.Frag} {H:Hp} {a:Addr} {xs:List V} (h:H a=some (.lst xs)):RdK K H a xs:=.inl (.inl h)
theorem RdK.sq {K:PySem.W.Frag} {H:Hp} {a:Addr} {xs:List V} (h:RdK K H a xs):SqL K H a xs:=by
 rcases h with h | ⟨its,n,hk,hz,r⟩
 ·exact .inl h
 ·exact .inr ⟨_,its,n,hk,rfl,rfl,rfl,hz,r⟩
theorem RdK.same {K:PySem.W.Frag} {H H':Hp} (e:aB H H') {a:Addr} {xs:List V} (h:RdK K H a xs):RdK K H' a xs:=by
 rcases h with (h | ⟨o,h⟩) | h
 ·exact .inl (.inl (e _ _ h))
 ·exact .inl (.inr ⟨o,e _ _ h⟩)
 ·exact .inr h
theorem RdK.obj {X:Cx} {pins:List (Addr×Obj)} {σ:St} {H:Hp} {s:Shared} {a:Addr} {xs:List V} (I:Inv X pins σ H s) (h:RdK X.K H a xs) :
  xs.length<=sizeLine/\∃(its:List Value) (n:Nat),Vals xs its/\xs.length=its.length/\s.heap.get? a=some { cls:=.type "list",data:=.seq its.toArray n }:=by
 rcases h with h | ⟨its,n,hk,hz,r⟩
 ·obtain ⟨z,its,n,r,e⟩:=h.ok I.hok
  exact ⟨z,its,n,r,r.length,e⟩
 ·have e:=r.length
  have e':=e;simp only [Array.length_toList]at e';exact ⟨by lia,its.toList,n,r,e,by simpa using I.kIn a _ hk⟩
end L3
namespace L3
open PySem L2
inductive OD where
 |sh (d:PyData)
 |ol (xs:List OD)
 |ot (xs:List OD)
 |od (kvs:List (Key×PyData))
 |oi (p:Option Addr) (nm:Str) (ds:List (Str×PyData))
 |pl (a:Addr) (xs:List OD)
noncomputable def kD:Key->PyData
 |.inl i=>.int i
 |.inr x=>.str x
noncomputable def dD (kvs:List (Key×PyData)):PyData:=.dict (kvs.map λp=>(kD p.1,p.2))
noncomputable def jN (nm:Str) (ds:List (Str×PyData)):PyData:=.dict ((.none,.str nm) :: ds.map λp=>(.tuple [.str p.1],p.2))
mutual
noncomputable def OD.er:OD->PyData
 |.sh d=>d
 |.ol xs=>.list (OD.ers xs)
 |.ot xs=>.tuple (OD.ers xs)
 |.od kvs=>dD kvs
 |.oi _ nm ds=>jN nm ds
 |.pl _ xs=>.list (OD.ers xs)
noncomputable def OD.ers:List OD->List PyData
 |[]=>[]
 |x :: xs=>x.er :: OD.ers xs
end
theorem ko:∀xs:List OD,OD.ers xs=xs.map OD.er
 |[]=>rfl
 |x :: xs=>by rw [OD.ers,Zk,ko xs]
theorem cq (d:PyData):(OD.sh d).er=d:=by rw [OD.er]
theorem gk (xs:List OD):(OD.ol xs).er=.list (xs.map OD.er):=by rw [OD.er,ko]
theorem xb (xs:List OD):(OD.ot xs).er=.tuple (xs.map OD.er):=by rw [OD.er,ko]
theorem lK (p:Option Addr) (nm:Str) (ds:List (Str×PyData)):(OD.oi p nm ds).er=jN nm ds:=by rw [OD.er]
theorem tm (a:Addr) (xs:List OD):(OD.pl a xs).er=.list (xs.map OD.er):=by rw [OD.er,ko]
theorem yL (kvs:List (Key×PyData)):(OD.od kvs).er=dD kvs:=by rw [OD.er]
theorem cV (ds:List PyData):(ds.map OD.sh).map OD.er=ds:=by
 rw [Zi];have:(OD.er ∘ OD.sh)=id:=funext λd=>cq d
 rw [this,List.map_id]
inductive R (α:Type) where
 |ok (a:α)
 |ex (c:Str)
 |bad
noncomputable def R.bind {α β:Type} (r:R α) (f:α->R β):R β:=match r with
 |.ok a=>f a
 |.ex c=>.ex c
 |.bad=>.bad
theorem aV {α β:Type} (a:α) (f:α->R β):(R.ok a).bind f=f a:=rfl
noncomputable abbrev Env:=List (Option OD)
noncomputable abbrev Fe:=Env->R OD
noncomputable abbrev Fa:=Env->R (List OD)
noncomputable abbrev Ft:=Env->R Bool
noncomputable abbrev Fn:=List PyData->R OD
inductive Out where
 |nx (ρ:Env)
 |rt (x:OD)
 |bk (ρ:Env)
 |ct (ρ:Env)
noncomputable abbrev Fs:=Env->R Out
noncomputable abbrev Fi:=Env->R (List PyData)
noncomputable abbrev Fg:=OD->Env->R Env
noncomputable def BIG:Nat:=10000000
noncomputable def flat:PyData->Bool
 |.none=>true
 |.bool _=>true
 |.int _=>true
 |.str _=>true
 |_=>false
noncomputable def af (i:Nat):Fe:=fun ρ=>match ρ[i]? with
 |some (some (.sh d))=>.ok (.sh d)
 |_=>.bad
noncomputable def eC (d:PyData):Fe:=λ_=>.ok (.sh d)
noncomputable def eOp (g:PyData->PyData->R OD) (a b:Fe):Fe:=fun ρ=>(a ρ).bind λx=>(b ρ).bind λy=>g x.er y.er
noncomputable def eUn (g:PyData->R OD) (a:Fe):Fe:=fun ρ=>(a ρ).bind λx=>g x.er
noncomputable def truth:PyData->R Bool
 |.bool b=>.ok b
 |_=>.bad
noncomputable def ay (a:Fe):Ft:=fun ρ=>(a ρ).bind λx=>truth x.er
noncomputable def qz (a b:Ft):Ft:=fun ρ=>(a ρ).bind λc=>if c=true then b ρ else .ok false
noncomputable def kP (a b:Ft):Ft:=fun ρ=>(a ρ).bind λc=>if c=true then .ok true else b ρ
noncomputable def dX (a:Ft):Ft:=fun ρ=>(a ρ).bind λc=>.ok (!c)
noncomputable def i_ (a b:Fe):Fe:=fun ρ=>(a ρ).bind λx=>(truth x.er).bind λc=>if c=true then b ρ else .ok (.sh (.bool false))
noncomputable def eOr (a b:Fe):Fe:=fun ρ=>(a ρ).bind λx=>(truth x.er).bind λc=>if c=true then .ok (.sh (.bool true)) else b ρ
noncomputable def xn (a:Fe):Fe:=fun ρ=>(a ρ).bind λx=>(truth x.er).bind λc=>.ok (.sh (.bool (!c)))
noncomputable def eIf (t:Ft) (a b:Fe):Fe:=fun ρ=>(t ρ).bind λc=>if c=true then a ρ else b ρ
noncomputable def au:Fa:=λ_=>.ok []
noncomputable def ag (a:Fe) (r:Fa):Fa:=fun ρ=>(a ρ).bind λx=>(r ρ).bind λxs=>.ok (x :: xs)
noncomputable def shs:List OD->Option (List PyData)
 |[]=>some []
 |.sh d :: r=>match shs r with
  |some ds=>some (d :: ds)
  |none=>none
 |_ :: _=>none
noncomputable def mkT (xs:List OD):OD:=match shs xs with
 |some ds=>.sh (.tuple ds)
 |none=>.ot xs
noncomputable def mO (a:Fa):Fe:=fun ρ=>(a ρ).bind λxs=>if xs.length<=BIG then .ok (mkT xs) else .bad
noncomputable def eSh (a:Fe):Fe:=fun ρ=>(a ρ).bind λx=>.ok (.sh x.er)
noncomputable def fJ (a:Fa):Fe:=fun ρ=>(a ρ).bind λxs=>if xs.length<=BIG then .ok (.ol xs) else .bad
noncomputable def aT (f:Fn) (a:Fa):Fe:=fun ρ=>(a ρ).bind λxs=>f (xs.map OD.er)
noncomputable def eB (g:List PyData->R OD) (a:Fa):Fe:=fun ρ=>(a ρ).bind λxs=>g (xs.map OD.er)
noncomputable def erase (ρ:Env):Env:=ρ.map λo=>o.map λx=>OD.sh x.er
noncomputable def xN (a:Fe):Fe:=fun ρ=>(a (erase ρ)).bind λx=>if flat x.er=true then .ok (.sh x.er) else .bad
noncomputable def md (a:Fe):Fe:=fun ρ=>(a (erase ρ)).bind λx=>match x with
 |.ol xs=>if xs.all (λy=>flat y.er)=true then .ok (.ol (xs.map λy=>.sh y.er)) else .bad
 |_=>.bad
noncomputable def u7 (a:Ft):Ft:=fun ρ=>a (erase ρ)
noncomputable abbrev Fo:=Env->R (Option Int)
noncomputable def tj:Fo:=λ_=>.ok none
noncomputable def kx (a:Fe):Fo:=fun ρ=>(a ρ).bind λx=>match x.er with
 |.int i=>.ok (some i)
 |_=>.bad
noncomputable def eSl (g:PyData->Option Int->Option Int->R OD) (a:Fe) (l h:Fo):Fe:=fun ρ=>(a ρ).bind λx=>(l ρ).bind λi=>(h ρ).bind λj=>g x.er i j
noncomputable def gY (a:Fe):Fi:=fun ρ=>(a ρ).bind λx=>match x.er with
 |.list ds=>.ok ds
 |_=>.bad
noncomputable def iTp (a:Fe):Fi:=fun ρ=>(a ρ).bind λx=>match x.er with
 |.tuple ds=>.ok ds
 |_=>.bad
noncomputable def jv (lo:Int) (n:Nat):List PyData:=(List.range n).map λk:Nat=>PyData.int (lo+k)
noncomputable def ba (i:Int):Bool:=decide (-(2 ^ 62)<=i) && decide (i<2 ^ 62)
noncomputable def iR1 (a:Fe):Fi:=fun ρ=>(a ρ).bind λx=>match x.er with
 |.int j=>if ba j=true then .ok (jv 0 j.toNat) else .bad
 |_=>.bad
noncomputable def iR2 (a b:Fe):Fi:=fun ρ=>(a ρ).bind λx=>(b ρ).bind λy=>match x.er,y.er with
 |.int i,.int j=>if (ba i && ba j)=true then .ok (jv i (j-i).toNat) else .bad
 |_,_=>.bad
noncomputable def dN (ds:List PyData):List PyData:=ds.zipIdx.map λp=>PyData.tuple [.int (p.2:Nat),p.1]
noncomputable def lX (ds es:List PyData):List PyData:=(ds.zip es).map λp=>PyData.tuple [p.1,p.2]
noncomputable def iEn (a:Fe):Fi:=fun ρ=>(a ρ).bind λx=>match x.er with
 |.list ds=>.ok (dN ds)
 |_=>.bad
noncomputable def iZp (a b:Fe):Fi:=fun ρ=>(a ρ).bind λx=>(b ρ).bind λy=>match x.er,y.er with
 |.list ds,.list es=>.ok (lX ds es)
 |_,_=>.bad
noncomputable def gNm (i:Nat):Fg:=λx ρ=>.ok (ρ.set i (some x))
noncomputable abbrev Fgs:=List OD->Env->R Env
noncomputable def gm:Fgs:=λxs ρ=>match xs with
 |[]=>.ok ρ
 |_=>.bad
noncomputable def bK (g:Fg) (r:Fgs):Fgs:=λxs ρ=>match xs with
 |x :: xs=>(g x ρ).bind fun ρ'=>r xs ρ'
 |[]=>.bad
noncomputable def gTp (n:Nat) (r:Fgs):Fg:=λx ρ=>match x with
 |.ot xs=>if xs.length=n then r xs ρ else .bad
 |.sh (.tuple ds)=>if ds.length=n then r (ds.map OD.sh) ρ else .bad
 |_=>.bad
noncomputable def lB:Option (Option OD)->Option OD
 |some (some (.sh d))=>some (.sh d)
 |_=>none
noncomputable def sl3 (k:Nat) (outs:List Nat) (ρ:Env):Env:=List.replicate k none++outs.map λi=>lB ρ[i]?
noncomputable def qq {α:Type}:R α->R α
 |.ok a=>.ok a
 |_=>.bad
noncomputable def cK (g:Fg) (t:Ft) (el:Fe) (ρ0:Env):List PyData->List OD->R (List OD)
 |[],acc=>.ok acc
 |d :: ds,acc=>(qq (g (.sh d) ρ0)).bind fun ρ=>(qq (t ρ)).bind λb=>if b=true then (qq (el ρ)).bind λy=>if acc.length<BIG then cK g t el ρ0 ds (acc++[y]) else .bad else cK g t el ρ0 ds acc
noncomputable def dH (it:Fi) (g:Fg) (t:Ft) (el:Fe) (k:Nat) (outs:List Nat):Fe:=fun ρ=>(it ρ).bind λds=>(cK g t el (sl3 k outs ρ) ds []).bind λxs=>.ok (.ol xs)
noncomputable def h_:Ft:=λ_=>.ok true
noncomputable def sNx:Fs:=fun ρ=>.ok (.nx ρ)
noncomputable def aH (a b:Fs):Fs:=fun ρ=>(a ρ).bind λo=>match o with
 |.nx ρ'=>b ρ'
 |o=>.ok o
noncomputable def AF (a:Fe) (g:Fg):Fs:=fun ρ=>(a ρ).bind λx=>(g x ρ).bind fun ρ'=>.ok (.nx ρ')
noncomputable def bU (i:Nat) (a:Fe):Fs:=fun ρ=>(a ρ).bind λx=>.ok (.nx (ρ.set i (some x)))
noncomputable def gT (a:Fe):Fs:=fun ρ=>(a ρ).bind λ_=>.ok (.nx ρ)
noncomputable def bI (a:Fe):Fs:=fun ρ=>(a ρ).bind λx=>.ok (.rt x)
noncomputable def EY:Fs:=λ_=>.ok (.rt (.sh .none))
noncomputable def kL (i:Nat):Fs:=fun ρ=>match ρ[i]? with
 |some (some x)=>.ok (.rt x)
 |_=>.bad
noncomputable def sIf (t:Ft) (a b:Fs):Fs:=fun ρ=>(t ρ).bind λc=>if c=true then a ρ else b ρ
noncomputable def sBk:Fs:=fun ρ=>.ok (.bk ρ)
noncomputable def sCt:Fs:=fun ρ=>.ok (.ct ρ)
noncomputable def il:Fs:=λ_=>.bad
noncomputable def yj (i:Nat) (ρ:Env):Env:=match ρ[i]? with
 |some (some x)=>ρ.set i (some (.sh x.er))
 |_=>ρ
noncomputable def qi (i:Nat) (a:Fs):Fs:=fun ρ=>a (yj i ρ)
noncomputable def Io (i:Nat) (g:PyData->PyData->R OD) (a:Fe):Fs:=fun ρ=>match ρ[i]? with
 |some (some (.sh d))=>(a ρ).bind λy=>(g d y.er).bind λz=>.ok (.nx (ρ.set i (some z)))
 |_=>.bad
noncomputable def nV (i:Nat) (a:Fe):Fs:=fun ρ=>match ρ[i]? with
 |some (some (.ol xs))=>(a ρ).bind λy=>if xs.length<BIG then .ok (.nx (ρ.set i (some (.ol (xs++[y]))))) else .bad
 |_=>.bad
noncomputable def HF (i:Nat):Fs:=fun ρ=>match ρ[i]? with
 |some (some (.ol xs))=>.ok (.nx (ρ.set i (some (.ol xs.reverse))))
 |_=>.bad
noncomputable def uJ (i:Nat):Fs:=fun ρ=>match ρ[i]? with
 |some (some (.ol xs))=>.ok (.nx (ρ.set i (some (.ol []))))
 |_=>.bad
noncomputable def vK (i:Nat) (g:Fg):Fs:=fun ρ=>match ρ[i]? with
 |some (some (.ol xs))=>match xs.getLast? with
  |some (.sh d)=>(g (.sh d) (ρ.set i (some (.ol xs.dropLast)))).bind fun ρ'=>.ok (.nx ρ')
  |_=>.bad
 |_=>.bad
noncomputable def GR (i:Nat) (a:Fe):Fs:=fun ρ=>match ρ[i]? with
 |some (some (.ol xs))=>(a ρ).bind λy=>match y with
  |.ol ys=>if xs.length+ys.length<=BIG then .ok (.nx (ρ.set i (some (.ol (xs++ys))))) else .bad
  |_=>.bad
 |_=>.bad
noncomputable def uV (i:Nat) (k:Fe) (a:Fe):Fs:=fun ρ=>match ρ[i]? with
 |some (some (.ol xs))=>(a ρ).bind λy=>(k ρ).bind λz=>match z.er with
  |.int q=>match ixN xs.length q with
   |some j=>.ok (.nx (ρ.set i (some (.ol (xs.set j y)))))
   |none=>.bad
  |_=>.bad
 |_=>.bad
noncomputable def comps:OD->Option (Bool×List OD)
 |.ol xs=>some (true,xs)
 |.ot xs=>some (false,xs)
 |_=>none
noncomputable def wrap (l:Bool) (xs:List OD):OD:=if l=true then .ol xs else .ot xs
noncomputable def kX (i:Nat) (k:Fe) (a:Fe):Fs:=fun ρ=>match ρ[i]? with
 |some (some (.ol xs))=>(k ρ).bind λz=>match z.er with
  |.int q=>match ixN xs.length q with
   |some j=>match xs[j]? with
    |some (.ol ys)=>(a ρ).bind λy=>if ys.length<BIG then .ok (.nx (ρ.set i (some (.ol (xs.set j (.ol (ys++[y]))))))) else .bad
    |_=>.bad
   |none=>.bad
  |_=>.bad
 |_=>.bad
noncomputable def cy (g:Fg) (b:Fs):List PyData->Env->R Out
 |[],ρ=>.ok (.nx ρ)
 |d :: ds,ρ=>(g (.sh d) ρ).bind fun ρ1=>(b ρ1).bind λo=>match o with
  |.nx ρ2=>cy g b ds ρ2
  |.ct ρ2=>cy g b ds ρ2
  |.bk ρ2=>.ok (.nx ρ2)
  |.rt x=>.ok (.rt x)
noncomputable def gX (it:Fi) (g:Fg) (b:Fs):Fs:=fun ρ=>(it ρ).bind λds=>cy g b ds ρ
noncomputable def dG (t:Ft) (b:Fs):Nat->Env->R Out
 |0,_=>.bad
 |n+1,ρ=>(t ρ).bind λc=>if c=true then (b ρ).bind λo=>match o with
  |.nx ρ2=>dG t b n ρ2
  |.ct ρ2=>dG t b n ρ2
  |.bk ρ2=>.ok (.nx ρ2)
  |.rt x=>.ok (.rt x) else .ok (.nx ρ)
open Classical in
noncomputable def gH (t:Ft) (b:Fs):Fs:=fun ρ=>if h:∃n,dG t b n ρ≠.bad then dG t b h.choose ρ else .bad
noncomputable def kK (n:Nat) (ds:List PyData):Env:=(ds.map λd=>some (OD.sh d))++List.replicate (n-ds.length) none
noncomputable def bW (np n:Nat) (b:Fs):Fn:=λds=>if ds.length=np then (b (kK n ds)).bind λo=>match o with
 |.rt x=>.ok x
 |.nx _=>.ok (.sh .none)
 |_=>.bad else .bad
mutual
inductive Rep (K:PySem.W.Frag) (H:Hp):V->PyData->Prop
 |non:Rep K H .non .none
 |bl (b:Bool):Rep K H (.bl b) (.bool b)
 |int (i:Int):Rep K H (.int i) (.int i)
 |str (x:Str):Rep K H (.str x) (.str x)
 |lst {a:Addr} {xs:List V} {ds:List PyData}:RdK K H a xs->RepAll K H xs ds->Rep K H (.ref a) (.list ds)
 |tup {a:Addr} {xs:List V} {ds:List PyData}:H a=some (.tup xs)->RepAll K H xs ds->Rep K H (.ref a) (.tuple ds)
 |dct {a:Addr} {kvs:List (Key×V)} {ds:List (Key×PyData)}:H a=some (.dK kvs)->kvs.map (·.1)=ds.map (·.1)->RepAll K H (kvs.map (·.2)) (ds.map (·.2))->Rep K H (.ref a) (dD ds)
 |ins {a C dx:Addr} {fs:List (Str×V)} {nm:Str} {ds:List (Str×PyData)}:PySem.W.nsIn K mainGlobals nm=some (some (.ref C))/\H a=some (.ins C dx fs)->fs.map (·.1)=ds.map (·.1)->RepAll K H (fs.map (·.2)) (ds.map (·.2))->Rep K H (.ref a) (jN nm ds)
inductive RepAll (K:PySem.W.Frag) (H:Hp):List V->List PyData->Prop
 |nil:RepAll K H [] []
 |cons {v:V} {vs:List V} {d:PyData} {ds:List PyData}:Rep K H v d->RepAll K H vs ds->RepAll K H (v :: vs) (d :: ds)
end
mutual
theorem Rep.same {K:PySem.W.Frag} {H H':Hp} (e:aB H H') {v:V} {d:PyData}:Rep K H v d->Rep K H' v d
 |.non=>.non
 |.bl b=>.bl b
 |.int i=>.int i
 |.str x=>.str x
 |.lst h r=>.lst (h.same e) (RepAll.same e r)
 |.tup h r=>.tup (e _ _ h) (RepAll.same e r)
 |.dct h k r=>.dct (e _ _ h) k (RepAll.same e r)
 |.ins h k r=>.ins ⟨h.1,e _ _ h.2⟩ k (RepAll.same e r)
theorem RepAll.same {K:PySem.W.Frag} {H H':Hp} (e:aB H H') {vs:List V} {ds:List PyData}:RepAll K H vs ds->RepAll K H' vs ds
 |.nil=>.nil
 |.cons h r=>.cons (Rep.same e h) (RepAll.same e r)
end
mutual
inductive Own (K:PySem.W.Frag) (F H:Hp):V->OD->List Addr->Prop
 |sh {v:V} {d:PyData}:Rep K F v d->Own K F H v (.sh d) []
 |ol {a:Addr} {vs:List V} {xs:List OD} {f:List Addr}:H a=some (.lst vs)->OwnL K F H vs xs f->Own K F H (.ref a) (.ol xs) (a :: f)
 |ot {a:Addr} {vs:List V} {xs:List OD} {f:List Addr}:H a=some (.tup vs)->OwnL K F H vs xs f->Own K F H (.ref a) (.ot xs) (a :: f)
 |od {a:Addr} {kvs:List (Key×V)} {ds:List (Key×PyData)}:H a=some (.dK kvs)->kvs.map (·.1)=ds.map (·.1)->RepAll K F (kvs.map (·.2)) (ds.map (·.2))->Own K F H (.ref a) (.od ds) [a]
 |oi {a C dx:Addr} {fs:List (Str×V)} {p:Option Addr} {nm:Str} {ds:List (Str×PyData)}:(∀b,p=some b->b=a)/\PySem.W.nsIn K mainGlobals nm=some (some (.ref C))/\H a=some (.ins C dx fs)->fs.map (·.1)=ds.map (·.1)->RepAll K F (fs.map (·.2)) (ds.map (·.2))->Own K F H (.ref a) (.oi p nm ds) [a]
 |pl {a:Addr} {vs:List V} {xs:List OD} {f:List Addr}:H a=some (.lst vs)->OwnL K F H vs xs f->Own K F H (.ref a) (.pl a xs) (a :: f)
inductive OwnL (K:PySem.W.Frag) (F H:Hp):List V->List OD->List Addr->Prop
 |nil:OwnL K F H [] [] []
 |cons {v:V} {x:OD} {f:List Addr} {vs:List V} {xs:List OD} {g:List Addr}:Own K F H v x f->OwnL K F H vs xs g->OwnL K F H (v :: vs) (x :: xs) (f++g)
end
section
variable {K:PySem.W.Frag} {F H F' H':Hp}
mutual
theorem Own.mono (e:aB F F') {v:V} {x:OD} {f:List Addr}:(∀a∈f,∀o,H a=some o->H' a=some o)->Own K F H v x f->Own K F' H' v x f
 |_,.sh r=>.sh (r.same e)
 |k,.ol h r=>.ol (k _ Zf _ h) (OwnL.mono e (λa m=>k a (Ze _ m)) r)
 |k,.ot h r=>.ot (k _ Zf _ h) (OwnL.mono e (λa m=>k a (Ze _ m)) r)
 |k,.od h q r=>.od (k _ Zf _ h) q (RepAll.same e r)
 |k,.oi h q r=>.oi ⟨h.1,h.2.1,k _ Zf _ h.2.2⟩ q (RepAll.same e r)
 |k,.pl h r=>.pl (k _ Zf _ h) (OwnL.mono e (λa m=>k a (Ze _ m)) r)
theorem OwnL.mono (e:aB F F') {v:List V} {x:List OD} {f:List Addr}:(∀a∈f,∀o,H a=some o->H' a=some o)->OwnL K F H v x f->OwnL K F' H' v x f
 |_,.nil=>.nil
 |k,.cons h r=>.cons (Own.mono e (λa m=>k a (Zw _ m)) h) (OwnL.mono e (λa m=>k a (Zq _ m)) r)
end
mutual
theorem Own.dom {v:V} {x:OD} {f:List Addr}:Own K F H v x f->∀a∈f,∃o,H a=some o
 |.sh _,a,m=>by cases m
 |.ol h r,a,m=>by
  rcases Zo.mp m with rfl | m
  ·exact ⟨_,h⟩
  ·exact OwnL.dom r a m
 |.ot h r,a,m=>by
  rcases Zo.mp m with rfl | m
  ·exact ⟨_,h⟩
  ·exact OwnL.dom r a m
 |.od h q r,a,m=>by
  rcases Zo.mp m with rfl | m
  ·exact ⟨_,h⟩
  ·cases m
 |.oi h q r,a,m=>by
  rcases Zo.mp m with rfl | m
  ·exact ⟨_,h.2.2⟩
  ·cases m
 |.pl h r,a,m=>by
  rcases Zo.mp m with rfl | m
  ·exact ⟨_,h⟩
  ·exact OwnL.dom r a m
theorem OwnL.dom {v:List V} {x:List OD} {f:List Addr}:OwnL K F H v x f->∀a∈f,∃o,H a=some o
 |.nil,a,m=>by cases m
 |.cons h r,a,m=>by
  rcases Zs.mp m with m | m
  ·exact Own.dom h a m
  ·exact OwnL.dom r a m
end
mutual
theorem Own.frz (e:aB F F') {v:V} {x:OD} {f:List Addr}:(∀a∈f,∀o,H a=some o->F' a=some o)->Own K F H v x f->Rep K F' v x.er
 |_,.sh r=>by rw [cq];exact r.same e
 |k,.ol h r=>by rw [OD.er];exact .lst (RdK.of (k _ Zf _ h)) (OwnL.frz e (λa m=>k a (Ze _ m)) r)
 |k,.ot h r=>by rw [OD.er];exact .tup (k _ Zf _ h) (OwnL.frz e (λa m=>k a (Ze _ m)) r)
 |k,.od h q r=>by rw [OD.er];exact .dct (k _ Zf _ h) q (r.same e)
 |k,.oi h q r=>by rw [OD.er];exact .ins ⟨h.2.1,k _ Zf _ h.2.2⟩ q (r.same e)
 |k,.pl h r=>by rw [OD.er];exact .lst (RdK.of (k _ Zf _ h)) (OwnL.frz e (λa m=>k a (Ze _ m)) r)
theorem OwnL.frz (e:aB F F') {v:List V} {x:List OD} {f:List Addr}:(∀a∈f,∀o,H a=some o->F' a=some o)->OwnL K F H v x f->RepAll K F' v (OD.ers x)
 |_,.nil=>by rw [OD.ers];exact .nil
 |k,.cons h r=>by rw [OD.ers];exact .cons (Own.frz e (λa m=>k a (Zw _ m)) h) (OwnL.frz e (λa m=>k a (Zq _ m)) r)
end
theorem OwnL.len {v:List V} {x:List OD} {f:List Addr} (o:OwnL K F H v x f):v.length=x.length:=by
 induction x generalizing v f with
 |nil=>cases o;rfl
 |cons a r ih =>
  cases o with
  |cons h t=>exact congrArg (·+1) (ih t)
theorem OwnL.app {v w:List V} {x y:List OD} {f g:List Addr} (o:OwnL K F H v x f) (q:OwnL K F H w y g):OwnL K F H (v++w) (x++y) (f++g):=by
 induction x generalizing v f with
 |nil=>cases o;exact q
 |cons a r ih =>
  cases o with
  |cons h t =>
   rw [List.cons_append,List.cons_append,ZD];exact .cons h (ih t)
theorem OwnL.shs:∀{v:List V} {ds:List PyData},RepAll K F v ds->OwnL K F H v (ds.map OD.sh) []
 |_,_,.nil=>.nil
 |_,_,.cons h r=>.cons (f:=[]) (.sh h) (OwnL.shs r)
theorem RepAll.len:∀{v:List V} {ds:List PyData},RepAll K F v ds->v.length=ds.length
 |_,_,.nil=>rfl
 |_,_,.cons _ r=>by rw [Zr,Zr,RepAll.len r]
theorem RepAll.get:∀{v:List V} {ds:List PyData} {i:Nat} {d:PyData},RepAll K F v ds->ds[i]?=some d->∃x,v[i]?=some x/\Rep K F x d
 |_,_,_,_,.nil,e=>by simp at e
 |_,_,0,_,.cons h _,e=>by
  simp at e
  subst e;exact ⟨_,rfl,h⟩
 |_,_,i+1,_,.cons _ r,e=>by
  obtain ⟨x,h1,h2⟩:=RepAll.get (i:=i) r (by simpa using e)
  exact ⟨x,by simpa using h1,h2⟩
theorem RepAll.app:∀{v w:List V} {ds es:List PyData},RepAll K F v ds->RepAll K F w es->RepAll K F (v++w) (ds++es)
 |_,_,_,_,.nil,q=>q
 |_,_,_,_,.cons h r,q=>.cons h (RepAll.app r q)
theorem RepAll.take:∀{v:List V} {ds:List PyData} (n:Nat),RepAll K F v ds->RepAll K F (v.take n) (ds.take n)
 |_,_,0,_=>by rw [List.take_zero,List.take_zero];exact .nil
 |_,_,_+1,.nil=>.nil
 |_,_,n+1,.cons h r=>.cons h (RepAll.take n r)
theorem RepAll.drop:∀{v:List V} {ds:List PyData} (n:Nat),RepAll K F v ds->RepAll K F (v.drop n) (ds.drop n)
 |_,_,0,r=>r
 |_,_,_+1,.nil=>.nil
 |_,_,n+1,.cons h r=>RepAll.drop n r
theorem RepAll.toInts:∀{v:List V} {ns:List Int},RepAll K F v (ns.map PyData.int)->v=ns.map V.int
 |_,[],.nil=>rfl
 |_,n :: ns,.cons h r=>by
  cases h;rw [RepAll.toInts r];rfl
theorem RepAll.ofInts:∀(ns:List Int),RepAll K F (ns.map V.int) (ns.map PyData.int)
 |[]=>.nil
 |n :: ns=>.cons (.int n) (RepAll.ofInts ns)
end
structure Ext (F H F' H':Hp):Prop where
 ff:aB F F'
 hh:aB H H'
 fh:aB F' H'
 nw:∀a,H a≠none->F a=none->F' a=none
theorem bF {α:Type} {o:Option α} {x:α} (h:o=some x):o≠none:=by
 rw [h];exact Option.some_ne_none x
theorem _root_.L2.aB.dom {H H':Hp} (e:aB H H') {a:Addr} (h:H a≠none):H' a≠none:=by
 cases q:H a with
 |none=>exact absurd q h
 |some o=>exact bF (e a o q)
section
variable {F H F1 H1 F2 H2:Hp}
theorem Ext.refl (h:aB F H):Ext F H F H:=⟨aB.refl _,aB.refl _,h,λ_ _ z=>z⟩
theorem Ext.trans (a:Ext F H F1 H1) (b:Ext F1 H1 F2 H2):Ext F H F2 H2:=⟨a.ff.trans b.ff,a.hh.trans b.hh,b.fh,λx h n=>b.nw x (a.hh.dom h) (a.nw x h n)⟩
theorem Ext.alloc {p:Addr} {o:HO} (h:aB F H) (hp:H p=none):Ext F H F (upd H p o) :=
 ⟨aB.refl _,(aB.refl H).upd hp,(aB.upd h (h.free hp)),λ_ _ z=>z⟩
theorem Ext.allocF {p:Addr} {o:HO} (h:aB F H) (hp:H p=none):Ext F H (upd F p o) (upd H p o):=by
 refine ⟨(aB.refl F).upd (h.free hp),(aB.refl H).upd hp,λb u q=>?_,λa ha n=>?_⟩
 ·by_cases e:b=p
  ·subst e
   rw [aZ]at q ⊢;exact q
  ·rw [az e]at q ⊢
   exact h b u q
 ·have e:a≠p:=by
   rintro rfl;exact ha hp
  rw [az e];exact n
end
structure Res (K:PySem.W.Frag) (F H:Hp) (v:V) (x:OD) (f:List Addr):Prop where
 own:Own K F H v x f
 nd:f.Nodup
 fr:∀a∈f,F a=none
structure ResL (K:PySem.W.Frag) (F H:Hp) (v:List V) (x:List OD) (f:List Addr):Prop where
 own:OwnL K F H v x f
 nd:f.Nodup
 fr:∀a∈f,F a=none
open Classical in
noncomputable def iN (F H:Hp) (f:List Addr):Hp:=λa=>if a∈f then H a else F a
theorem gW {F H:Hp} {f:List Addr} {a:Addr} (h:a∈f):iN F H f a=H a:=by unfold iN;rw [if_pos h]
theorem dO {F H:Hp} {f:List Addr} {a:Addr} (h:a∉f):iN F H f a=F a:=by unfold iN;rw [if_neg h]
section
variable {K:PySem.W.Frag} {F H F' H' F1 H1:Hp} {v:V} {x:OD} {f:List Addr} {vs:List V} {xs:List OD}
theorem dI (n:∀a∈f,F a=none):aB F (iN F H f):=λa o q=>by
 rw [dO]
 ·exact q
 ·intro m
  rw [n a m]at q;cases q
theorem l9 (h:aB F H):aB (iN F H f) H:=λa o q=>by
 by_cases m:a∈f
 ·rw [gW m]at q
  exact q
 ·rw [dO m]at q
  exact h a o q
theorem Res.ext (r:Res K F H v x f) (e:Ext F H F' H'):Res K F' H' v x f :=
 ⟨r.own.mono e.ff λa _ o q=>e.hh a o q,r.nd,λa m=>e.nw a (let ⟨_,q⟩:=r.own.dom a m;bF q) (r.fr a m)⟩
theorem ResL.ext (r:ResL K F H vs xs f) (e:Ext F H F' H'):ResL K F' H' vs xs f :=
 ⟨r.own.mono e.ff λa _ o q=>e.hh a o q,r.nd,λa m=>e.nw a (let ⟨_,q⟩:=r.own.dom a m;bF q) (r.fr a m)⟩
theorem tq (e:Ext F H F1 H1) (n:∀a∈f,F1 a=none) (w:∀a∈f,H a=none):Ext F H (iN F1 H1 f) H1 :=
 ⟨e.ff.trans (dI n),e.hh,l9 e.fh,λa h z=>by
  have m:a∉f:=λm=>h (w a m)
  rw [dO m];exact e.nw a h z⟩
theorem Res.frz (e:Ext F H F1 H1) (r:Res K F1 H1 v x f) (w:∀a∈f,H a=none):∃G,Ext F H G H1/\Rep K G v x.er :=
 ⟨iN F1 H1 f,tq e r.fr w,r.own.frz (dI r.fr) λa m o q=>by rw [gW m];exact q⟩
theorem ResL.frz (e:Ext F H F1 H1) (r:ResL K F1 H1 vs xs f) (w:∀a∈f,H a=none):∃G,Ext F H G H1/\RepAll K G vs (xs.map OD.er) :=
 ⟨iN F1 H1 f,tq e r.fr w,by rw [<-ko];exact r.own.frz (dI r.fr) λa m o q=>by rw [gW m];exact q⟩
theorem Res.sh {d:PyData} (r:Rep K F v d):Res K F H v (.sh d) []:=⟨.sh r,List.nodup_nil,λ_ m=>by cases m⟩
theorem ResL.nil:ResL K F H [] [] []:=⟨.nil,List.nodup_nil,λ_ m=>by cases m⟩
theorem ResL.cons {f1:List Addr} (r:Res K F H v x f1) (q:ResL K F H vs xs f) (d:∀a∈f1,a∉f):ResL K F H (v :: vs) (x :: xs) (f1++f) :=
 ⟨.cons r.own q.own,ZK.mpr ⟨r.nd,q.nd,λa m b n e=>d a m (e▸n)⟩,λa m=>(Zs.mp m).elim (r.fr a) (q.fr a)⟩
end
inductive OwnS (K:PySem.W.Frag) (F H:Hp):St->Env->List Addr->Prop
 |nil:OwnS K F H [] [] []
 |no {v:Option V} {σ:St} {ρ:Env} {g:List Addr}:OwnS K F H σ ρ g->OwnS K F H (v :: σ) (none :: ρ) g
 |yes {v:V} {x:OD} {f:List Addr} {σ:St} {ρ:Env} {g:List Addr}:Own K F H v x f->OwnS K F H σ ρ g->OwnS K F H (some v :: σ) (some x :: ρ) (f++g)
section
variable {K:PySem.W.Frag} {F H F' H':Hp}
theorem OwnS.mono (e:aB F F') {σ:St} {ρ:Env} {g:List Addr} (k:∀a∈g,∀o,H a=some o->H' a=some o) (S:OwnS K F H σ ρ g):OwnS K F' H' σ ρ g:=by
 induction S with
 |nil=>exact .nil
 |no r ih=>exact .no (ih k)
 |yes h r ih=>exact .yes (h.mono e λa m=>k a (Zw _ m)) (ih λa m=>k a (Zq _ m))
theorem OwnS.dom {σ:St} {ρ:Env} {g:List Addr} (S:OwnS K F H σ ρ g):∀a∈g,∃o,H a=some o:=by
 induction S with
 |nil=>exact λa m=>by cases m
 |no r ih=>exact ih
 |yes h r ih=>exact λa m=>(Zs.mp m).elim (h.dom a) (ih a)
theorem OwnS.at {σ:St} {ρ:Env} {g:List Addr} (S:OwnS K F H σ ρ g):∀{i:Nat} {x:OD},ρ[i]?=some (some x) ->
  ∃v f g1 g2,σ[i]?=some (some v)/\Own K F H v x f/\g=g1++(f++g2)/\∀(F' H':Hp),aB F F'->(∀a∈g1++g2,∀o,H a=some o->H' a=some o)->∀v' x' f',Own K F' H' v' x' f'->OwnS K F' H' (σ.set i (some v')) (ρ.set i (some x')) (g1++(f'++g2)):=by
 induction S with
 |nil=>intro i x e;simp at e
 |no r ih =>
  intro i x e;cases i with
  |zero=>simp at e
  |succ i =>
   obtain ⟨v,f,g1,g2,h1,h2,h3,h4⟩:=ih (i:=i) (by simpa using e)
   exact ⟨v,f,g1,g2,by simpa using h1,h2,h3,λF' H' s k v' x' f' o=>.no (h4 F' H' s k v' x' f' o)⟩
 |@yes v0 x0 f0 σ0 ρ0 g0 h r ih =>
  intro i x e;cases i with
  |zero =>
   simp at e
   subst e;exact ⟨_,f0,[],g0,rfl,h,rfl,λF' H' s k v' x' f' o=>OwnS.yes (f:=f') (g:=g0) o (r.mono s k)⟩
  |succ i =>
   obtain ⟨v,f,g1,g2,h1,h2,h3,h4⟩:=ih (i:=i) (by simpa using e)
   refine ⟨v,f,f0++g1,g2,by simpa using h1,h2,by rw [h3,ZD],λF' H' s k v' x' f' o=>?_⟩
   rw [ZD];exact .yes (h.mono s λa m=>k a (Zw _ (Zw _ m))) (h4 F' H' s (λa m=>k a (by simp at m ⊢;rcases m with m | m <;> simp [m])) v' x' f' o)
theorem OwnS.put {σ:St} {ρ:Env} {g:List Addr} (S:OwnS K F H σ ρ g):∀{i:Nat},i<ρ.length ->
  ∃f g1 g2,g=g1++(f++g2)/\∀(F' H':Hp),aB F F'->(∀a∈g1++g2,∀o,H a=some o->H' a=some o)->∀v' x' f',Own K F' H' v' x' f'->OwnS K F' H' (σ.set i (some v')) (ρ.set i (some x')) (g1++(f'++g2)):=by
 induction S with
 |nil=>intro i e;simp at e
 |@no v0 σ0 ρ0 g0 r ih =>
  intro i e;cases i with
  |zero=>exact ⟨[],[],g0,rfl,λF' H' s k v' x' f' o=>OwnS.yes (f:=f') (g:=g0) o (r.mono s k)⟩
  |succ i =>
   obtain ⟨f,g1,g2,h3,h4⟩:=ih (i:=i) (by simpa using e)
   exact ⟨f,g1,g2,h3,λF' H' s k v' x' f' o=>.no (h4 F' H' s k v' x' f' o)⟩
 |@yes v0 x0 f0 σ0 ρ0 g0 h r ih =>
  intro i e;cases i with
  |zero=>exact ⟨f0,[],g0,rfl,λF' H' s k v' x' f' o=>OwnS.yes (f:=f') (g:=g0) o (r.mono s k)⟩
  |succ i =>
   obtain ⟨f,g1,g2,h3,h4⟩:=ih (i:=i) (by simpa using e)
   refine ⟨f,f0++g1,g2,by rw [h3,ZD],λF' H' s k v' x' f' o=>?_⟩
   rw [ZD];exact .yes (h.mono s λa m=>k a (Zw _ (Zw _ m))) (h4 F' H' s (λa m=>k a (by simp at m ⊢;rcases m with m | m <;> simp [m])) v' x' f' o)
theorem OwnS.erase (e:aB F H) {σ:St} {ρ:Env} {g:List Addr} (S:OwnS K F H σ ρ g):OwnS K H H σ (L3.erase ρ) []:=by
 induction S with
 |nil=>exact .nil
 |no r ih=>exact .no ih
 |yes h r ih=>exact .yes (f:=[]) (.sh (h.frz e λ_ _ _ q=>q)) ih
theorem OwnS.len {σ:St} {ρ:Env} {g:List Addr} (S:OwnS K F H σ ρ g):σ.length=ρ.length:=by
 induction S with
 |nil=>rfl
 |no r ih=>exact congrArg (·+1) ih
 |yes h r ih=>exact congrArg (·+1) ih
end
structure Stt (K:PySem.W.Frag) (n:Nat) (F H:Hp) (σ:St) (ρ:Env) (fp:List Addr):Prop where
 same:aB F H
 own:OwnS K F H σ ρ fp
 nd:fp.Nodup
 fr:∀a∈fp,F a=none
 len:ρ.length=n
structure Stp (F H:Hp) (fp:List Addr) (F' H':Hp) (fp':List Addr):Prop where
 ff:aB F F'
 keep:∀a o,H a=some o->a∉fp->H' a=some o
 new:∀a∈fp',a∈fp\/H a=none
 nw:∀a,H a≠none->a∉fp->F a=none->F' a=none
section
variable {K:PySem.W.Frag} {n:Nat} {F H F' H' F1 H1 F2 H2:Hp} {σ:St} {ρ:Env} {fp fp1 fp2:List Addr}
theorem Stt.ext (s:Stt K n F H σ ρ fp) (e:Ext F H F' H'):Stt K n F' H' σ ρ fp :=
 ⟨e.fh,s.own.mono e.ff λa _ o q=>e.hh a o q,s.nd,λa m=>e.nw a (let ⟨_,q⟩:=s.own.dom a m;bF q) (s.fr a m),s.len⟩
theorem Stt.erase (s:Stt K n F H σ ρ fp):Stt K n H H σ (L3.erase ρ) [] :=
 ⟨aB.refl _,s.own.erase s.same,List.nodup_nil,(λ_ m=>by cases m),(by unfold L3.erase;rw [Zc];exact s.len)⟩
theorem Stp.refl:Stp F H fp F H fp:=⟨aB.refl _,λ_ _ h _=>h,λ_ m=>.inl m,λ_ _ _ z=>z⟩
theorem Ext.stp (e:Ext F H F' H'):Stp F H fp F' H' fp:=⟨e.ff,λa o h _=>e.hh a o h,λ_ m=>.inl m,λa h _ z=>e.nw a h z⟩
theorem Stp.out (s:Stp F H fp F1 H1 fp1) {a:Addr} (h:H a≠none) (m:a∉fp):a∉fp1:=λq=>(s.new a q).elim m h
theorem Stp.trans (s:Stp F H fp F1 H1 fp1) (t:Stp F1 H1 fp1 F2 H2 fp2):Stp F H fp F2 H2 fp2 where
 ff:=s.ff.trans t.ff
 keep a o h m:=t.keep a o (s.keep a o h m) (s.out (bF h) m)
 new a m:=(t.new a m).elim (s.new a) λz=>by
  by_cases q:a∈fp
  ·exact .inl q
  ·refine .inr ?_
   cases w:H a with
   |none=>rfl
   |some o =>
    rw [s.keep a o w q]at z;cases z
 nw a h m z:=t.nw a (by
  cases w:H a with
  |none=>exact absurd w h
  |some o=>exact bF (s.keep a o w m)) (s.out h m) (s.nw a h m z)
theorem Stt.set (s:Stt K n F H σ ρ fp) {i:Nat} (hi:i<n) {v:V} {x:OD} {fx:List Addr} (r:Res K F H v x fx) (d:∀a∈fx,a∉fp) :
  ∃fp',Stt K n F H (σ.set i (some v)) (ρ.set i (some x)) fp'/\∀a∈fp',a∈fp\/a∈fx:=by
 obtain ⟨f,g1,g2,e,k⟩:=s.own.put (i:=i) (by rw [s.len];exact hi)
 subst e;have nd:=s.nd;have sub:∀a∈g1++(fx++g2),a∈g1++(f++g2)\/a∈fx:=λa m=>by
  simp only [Zs]at m ⊢;rcases m with m | m | m
  ·exact .inl (.inl m)
  ·exact .inr m
  ·exact .inl (.inr (.inr m))
 refine ⟨g1++(fx++g2),⟨s.same,k F H (aB.refl _) (λ_ _ _ q=>q) v x fx r.own,?_,λa m=>(sub a m).elim (s.fr a) (r.fr a),by rw [ZJ];exact s.len⟩,sub⟩
 simp only [ZK,Zs]at nd d ⊢;obtain ⟨n1,⟨n2,n3,n4⟩,n5⟩:=nd;refine ⟨n1,⟨r.nd,n3,λa ha b hb e=>d a ha (.inr (.inr (e▸hb)))⟩,λa ha b hb e=>?_⟩
 rcases hb with hb | hb
 ·exact d b hb (.inl (e▸ha))
 ·exact n5 a ha b (.inr hb) e
end
end L3
namespace L3
open PySem L2
structure Mx where
 K:PySem.W.Frag
 mg:Str->Option Value
 E:XK
noncomputable def XOk (M:Mx) (c:Str) (H:Hp) (fp:List Addr):Prop:=∃cv,M.mg c=some cv/\∀od H',(∀a o,H a=some o->a∉fp->H' a=some o)->M.E cv od H'
noncomputable def aw (M:Mx) (H:Hp) (fp:List Addr) {α:Type} (P:α->Prop):R α->Prop
 |.ok a=>P a
 |.ex c=>XOk M c H fp
 |.bad=>False
noncomputable def OkE (M:Mx) (F H:Hp) (Q:VK) (x:OD):Prop:=∀v F' H' fx,Ext F H F' H'->Res M.K F' H' v x fx->(∀a∈fx,H a=none)->Q v H'
noncomputable def OkL (M:Mx) (F H:Hp) (Q:List V->Hp->Prop) (x:List OD):Prop:=∀v F' H' fx,Ext F H F' H'->ResL M.K F' H' v x fx->(∀a∈fx,H a=none)->Q v H'
noncomputable def OkH (F H:Hp) {α:Type} (Q:α->Hp->Prop) (x:α):Prop:=∀F' H',Ext F H F' H'->Q x H'
section
variable {M:Mx} {F H F1 H1 F2 H2:Hp} {fp fp1:List Addr} {α β:Type} {P P':α->Prop} {r:R α}
theorem aw.bind {P:β->Prop} {g:α->R β} (h:aw M H fp P (r.bind g)):aw M H fp (λa=>aw M H fp P (g a)) r:=by
 cases r with
 |ok a=>exact h
 |ex c=>exact h
 |bad=>exact h
theorem aw.mono (h:aw M H fp P r) (k:∀a,P a->P' a):aw M H fp P' r:=by
 cases r with
 |ok a=>exact k a h
 |ex c=>exact h
 |bad=>exact h
theorem XOk.stp (s:Stp F H fp F1 H1 fp1) {c:Str} (h:XOk M c H fp):XOk M c H1 fp1 :=
 let ⟨cv,e,k⟩:=h
 ⟨cv,e,λod H' q=>k od H' λa o z m=>q a o (s.keep a o z m) (s.out (bF z) m)⟩
theorem aw.stp (s:Stp F H fp F1 H1 fp1) (h:aw M H fp P r):aw M H1 fp1 P r:=by
 cases r with
 |ok a=>exact h
 |ex c=>exact XOk.stp s h
 |bad=>exact h
theorem aw.ext (e:Ext F H F1 H1) (h:aw M H fp P r):aw M H1 fp P r:=h.stp e.stp
theorem aw.nofp (h:aw M H fp P r):aw M H [] P r:=by
 cases r with
 |ok a=>exact h
 |ex c =>
  obtain ⟨cv,e,k⟩:=h;exact ⟨cv,e,λod H' q=>k od H' λa o z _=>q a o z (by simp)⟩
 |bad=>exact h
theorem OkE.pre {Q:VK} {x:OD} (e:Ext F H F1 H1) (h:OkE M F H Q x):OkE M F1 H1 Q x:=λv F' H' fx e' r w=>h v F' H' fx (e.trans e') r λa m=>e.hh.free (w a m)
theorem OkH.pre {Q:α->Hp->Prop} {x:α} (e:Ext F H F1 H1) (h:OkH F H Q x):OkH F1 H1 Q x:=λF' H' e'=>h F' H' (e.trans e')
theorem OkE.val {Q:VK} {d:PyData} {v:V} (s:aB F H) (h:OkE M F H Q (.sh d)) (r:Rep M.K F v d):Q v H:=h v F H [] (Ext.refl s) (Res.sh r) λ_ m=>by cases m
theorem OkE.lst {Q:VK} {xs:List OD} {vs:List V} {f:List Addr} {p:Addr} (s:aB F H) (h:OkE M F1 H1 Q (.ol xs)) (e:Ext F1 H1 F H) (r:ResL M.K F H vs xs f) (w:∀a∈f,H1 a=none) (hp:H p=none):Q (.ref p) (upd H p (.lst vs)):=by
 have np:p∉f:=λm=>by
  obtain ⟨o,q⟩:=r.own.dom p m;rw [hp]at q;cases q
 refine h (.ref p) F _ (p :: f) (e.trans (Ext.alloc s hp)) ⟨.ol aZ (r.own.mono (aB.refl _) λa m o q=>?_),List.nodup_cons.mpr ⟨np,r.nd⟩,λa m=>?_⟩ λa m=>?_
 ·rw [az (aU q hp)]
  exact q
 ·rcases Zo.mp m with rfl | m
  ·exact s.free hp
  ·exact r.fr a m
 ·rcases Zo.mp m with rfl | m
  ·exact e.hh.free hp
  ·exact w a m
theorem OkE.tup {Q:VK} {xs:List OD} {vs:List V} {f:List Addr} {p:Addr} (s:aB F H) (h:OkE M F1 H1 Q (.ot xs)) (e:Ext F1 H1 F H) (r:ResL M.K F H vs xs f) (w:∀a∈f,H1 a=none) (hp:H p=none):Q (.ref p) (upd H p (.tup vs)):=by
 have np:p∉f:=λm=>by
  obtain ⟨o,q⟩:=r.own.dom p m;rw [hp]at q;cases q
 refine h (.ref p) F _ (p :: f) (e.trans (Ext.alloc s hp)) ⟨.ot aZ (r.own.mono (aB.refl _) λa m o q=>?_),List.nodup_cons.mpr ⟨np,r.nd⟩,λa m=>?_⟩ λa m=>?_
 ·rw [az (aU q hp)]
  exact q
 ·rcases Zo.mp m with rfl | m
  ·exact s.free hp
  ·exact r.fr a m
 ·rcases Zo.mp m with rfl | m
  ·exact e.hh.free hp
  ·exact w a m
theorem OkE.lstD {Q:VK} {ds:List PyData} {vs:List V} {p:Addr} (s:aB F H) (h:OkE M F H Q (.ol (ds.map OD.sh))) (r:RepAll M.K F vs ds) (hp:H p=none):Q (.ref p) (upd H p (.lst vs)) :=
 OkE.lst s h (Ext.refl s) ⟨OwnL.shs r,List.nodup_nil,λ_ m=>by cases m⟩ (λ_ m=>by cases m) hp
theorem OkE.tupF {Q:VK} {ds:List PyData} {vs:List V} {p:Addr} (s:aB F H) (h:OkE M F1 H1 Q (.sh (.tuple ds))) (e:Ext F1 H1 F H) (r:RepAll M.K F vs ds) (hp:H p=none):Q (.ref p) (upd H p (.tup vs)) :=
 h (.ref p) (upd F p (.tup vs)) _ [] (e.trans (Ext.allocF s hp)) (Res.sh (.tup aZ (r.same ((aB.refl F).upd (s.free hp))))) λ_ m=>by cases m
theorem OwnL.of_shs {K:PySem.W.Frag} {vs:List V} {xs:List OD} {f:List Addr} {ds:List PyData} (o:OwnL K F H vs xs f) (e:L3.shs xs=some ds):f=[]/\RepAll K F vs ds:=by
 induction xs generalizing vs f ds with
 |nil =>
  cases o;unfold L3.shs at e;cases e;exact ⟨rfl,.nil⟩
 |cons a0 r0 ih0 =>
 cases o with
 |cons h0 r =>
  have ih:=λds=>ih0 (ds:=ds) r
  cases h0 with
  |sh h =>
   unfold L3.shs at e;split at e
   ·rename_i es q
    cases e;obtain ⟨rfl,k⟩:=ih _ q;exact ⟨rfl,.cons h k⟩
   ·cases e
  |ol _ _ =>
   unfold L3.shs at e;cases e
  |ot _ _ =>
   unfold L3.shs at e;cases e
  |od _ _ _ =>
   unfold L3.shs at e;cases e
  |oi _ _ _ =>
   unfold L3.shs at e;cases e
  |pl _ _ =>
   unfold L3.shs at e;cases e
end
noncomputable def tD (M:Mx) (n:Nat) (f:Fe):TE:=fun σ H Q=>∃F ρ fp,Stt M.K n F H σ ρ fp/\aw M H fp (OkE M F H Q) (f ρ)
noncomputable def tA (M:Mx) (n:Nat) (f:Fa):TA:=fun σ H Q=>∃F ρ fp,Stt M.K n F H σ ρ fp/\aw M H fp (OkL M F H Q) (f ρ)
noncomputable def tT (M:Mx) (n:Nat) (f:Ft):TT:=fun σ H Q=>∃F ρ fp,Stt M.K n F H σ ρ fp/\aw M H fp (OkH F H Q) (f ρ)
noncomputable def tO (M:Mx) (n:Nat) (f:Fo):TO:=fun σ H Q=>∃F ρ fp,Stt M.K n F H σ ρ fp/\aw M H fp (OkH F H Q) (f ρ)
noncomputable def Ok2 (M:Mx) (r:R2) (g:PyData->PyData->R OD):Prop:=∀(x y:V) (dx dy:PyData) (F H:Hp) (fp:List Addr) (Q:VK),aB F H->Rep M.K F x dx->Rep M.K F y dy->aw M H fp (OkE M F H Q) (g dx dy)->r x y H Q
noncomputable def Ok1 (M:Mx) (r:V->Hp->VK->Prop) (g:PyData->R OD):Prop:=∀(x:V) (dx:PyData) (F H:Hp) (fp:List Addr) (Q:VK),aB F H->Rep M.K F x dx->aw M H fp (OkE M F H Q) (g dx)->r x H Q
noncomputable def OkC (M:Mx) (r:List V->Hp->VK->Prop) (g:List PyData->R OD):Prop:=∀(x:List V) (dx:List PyData) (F H:Hp) (fp:List Addr) (Q:VK),aB F H->RepAll M.K F x dx->aw M H fp (OkE M F H Q) (g dx)->r x H Q
noncomputable def OkS (M:Mx) (r:V->Option Int->Option Int->Hp->VK->Prop) (g:PyData->Option Int->Option Int->R OD):Prop:=∀(x:V) (i j:Option Int) (dx:PyData) (F H:Hp) (fp:List Addr) (Q:VK),aB F H->Rep M.K F x dx->aw M H fp (OkE M F H Q) (g dx i j)->r x i j H Q
section
variable {M:Mx} {n:Nat} {σ:St} {H:Hp} {Q:VK} {QB:Bool->Hp->Prop} {fa fb:Fe} {ta tb:Ft}
theorem GU {i:Nat} (h:tD M n (af i) σ H Q):d9 i σ H Q:=by
 obtain ⟨F,ρ,fp,S,p⟩:=h;unfold af at p;split at p
 ·rename_i d e
  obtain ⟨v,f,g1,g2,h1,h2,h3,h4⟩:=S.own.at e;cases h2 with
  |sh r=>exact ⟨v,h1,OkE.val S.same p r⟩
 ·exact p.elim
theorem d_c {v:V} {d:PyData} (hr:∀K F,Rep K F v d) (h:tD M n (eC d) σ H Q):tC v σ H Q:=by
 obtain ⟨F,ρ,fp,S,p⟩:=h;exact OkE.val S.same p (hr _ _)
theorem xG {r:R2} {g:PyData->PyData->R OD} (hg:Ok2 M r g) (h:tD M n (eOp g fa fb) σ H Q):tOp r (tD M n fa) (tD M n fb) σ H Q:=by
 obtain ⟨F,ρ,fp,S,p⟩:=h;refine ⟨F,ρ,fp,S,(aw.bind p).mono λx px v F1 H1 fx e1 r1 w1=>?_⟩
 obtain ⟨G1,d1,k1⟩:=r1.frz e1 w1;refine ⟨G1,ρ,fp,S.ext d1,((aw.bind px).ext d1).mono λy py v2 F2 H2 fy e2 r2 w2=>?_⟩
 obtain ⟨G2,d2,k2⟩:=r2.frz e2 w2;exact hg v v2 x.er y.er G2 H2 fp Q d2.fh (k1.same d2.ff) k2 ((py.ext (d1.trans d2)).mono λz hz=>hz.pre (d1.trans d2))
theorem Jb {r:V->Hp->VK->Prop} {g:PyData->R OD} (hg:Ok1 M r g) (h:tD M n (eUn g fa) σ H Q):tUn r (tD M n fa) σ H Q:=by
 obtain ⟨F,ρ,fp,S,p⟩:=h;refine ⟨F,ρ,fp,S,(aw.bind p).mono λx px v F1 H1 fx e1 r1 w1=>?_⟩
 obtain ⟨G1,d1,k1⟩:=r1.frz e1 w1;exact hg v x.er G1 H1 fp Q d1.fh k1 ((px.ext d1).mono λz hz=>hz.pre d1)
theorem kz {K:PySem.W.Frag} {F:Hp} {v:V} {d:PyData} {fp:List Addr} {P:Bool->Prop} (k:Rep K F v d) (p:aw M H fp P (truth d)):∃b,v=.bl b/\P b:=by
 cases d with
 |bool b =>
  cases k;exact ⟨b,rfl,p⟩
 |none=>exact p.elim
 |int _=>exact p.elim
 |str _=>exact p.elim
 |list _=>exact p.elim
 |tuple _=>exact p.elim
 |dict _=>exact p.elim
theorem wb (h:tT M n (ay fa) σ H QB):qM (tD M n fa) σ H QB:=by
 obtain ⟨F,ρ,fp,S,p⟩:=h;refine ⟨F,ρ,fp,S,(aw.bind p).mono λx px v F1 H1 fx e1 r1 w1=>?_⟩
 obtain ⟨G1,d1,k1⟩:=r1.frz e1 w1;obtain ⟨b,rfl,q⟩:=kz k1 px;exact ⟨b,rfl,q G1 H1 d1⟩
theorem d_b (h:tT M n (ay fa) σ H QB):tB (tD M n fa) σ H QB:=wb h
theorem EG (h:tT M n (qz ta tb) σ H QB):Hq (tT M n ta) (tT M n tb) σ H QB:=by
 obtain ⟨F,ρ,fp,S,p⟩:=h;refine ⟨F,ρ,fp,S,(aw.bind p).mono λc pc F1 H1 e1=>?_⟩
 cases c with
 |true =>
  rw [if_pos rfl]at pc ⊢;exact ⟨F1,ρ,fp,S.ext e1,(pc.ext e1).mono λb hb=>hb.pre e1⟩
 |false =>
  rw [if_neg Zm]at pc ⊢;exact pc F1 H1 e1
theorem GV (h:tT M n (kP ta tb) σ H QB):tOr (tT M n ta) (tT M n tb) σ H QB:=by
 obtain ⟨F,ρ,fp,S,p⟩:=h;refine ⟨F,ρ,fp,S,(aw.bind p).mono λc pc F1 H1 e1=>?_⟩
 cases c with
 |true =>
  rw [if_pos rfl]at pc ⊢;exact pc F1 H1 e1
 |false =>
  rw [if_neg Zm]at pc ⊢;exact ⟨F1,ρ,fp,S.ext e1,(pc.ext e1).mono λb hb=>hb.pre e1⟩
theorem Ef (h:tT M n (dX ta) σ H QB):F_ (tT M n ta) σ H QB:=by
 obtain ⟨F,ρ,fp,S,p⟩:=h;exact ⟨F,ρ,fp,S,(aw.bind p).mono λc pc F1 H1 e1=>pc F1 H1 e1⟩
theorem Fy (h:tD M n (i_ fa fb) σ H Q):A0 (tD M n fa) (tD M n fb) σ H Q:=by
 obtain ⟨F,ρ,fp,S,p⟩:=h;refine ⟨F,ρ,fp,S,(aw.bind p).mono λx px v F1 H1 fx e1 r1 w1=>?_⟩
 obtain ⟨G1,d1,k1⟩:=r1.frz e1 w1;obtain ⟨b,rfl,q⟩:=kz k1 (aw.bind px);refine ⟨b,rfl,?_⟩;cases b with
 |true =>
  rw [if_pos rfl]at q ⊢;exact ⟨G1,ρ,fp,S.ext d1,(q.ext d1).mono λz hz=>hz.pre d1⟩
 |false =>
  rw [if_neg Zm]at q ⊢;exact OkE.val d1.fh (OkE.pre d1 q) (.bl _)
theorem IG (h:tD M n (eOr fa fb) σ H Q):Gi (tD M n fa) (tD M n fb) σ H Q:=by
 obtain ⟨F,ρ,fp,S,p⟩:=h;refine ⟨F,ρ,fp,S,(aw.bind p).mono λx px v F1 H1 fx e1 r1 w1=>?_⟩
 obtain ⟨G1,d1,k1⟩:=r1.frz e1 w1;obtain ⟨b,rfl,q⟩:=kz k1 (aw.bind px);refine ⟨b,rfl,?_⟩;cases b with
 |true =>
  rw [if_pos rfl]at q ⊢;exact OkE.val d1.fh (OkE.pre d1 q) (.bl _)
 |false =>
  rw [if_neg Zm]at q ⊢;exact ⟨G1,ρ,fp,S.ext d1,(q.ext d1).mono λz hz=>hz.pre d1⟩
theorem FT (h:tD M n (xn fa) σ H Q):Bb (tD M n fa) σ H Q:=by
 obtain ⟨F,ρ,fp,S,p⟩:=h;refine ⟨F,ρ,fp,S,(aw.bind p).mono λx px v F1 H1 fx e1 r1 w1=>?_⟩
 obtain ⟨G1,d1,k1⟩:=r1.frz e1 w1;obtain ⟨b,rfl,q⟩:=kz k1 (aw.bind px);exact ⟨b,rfl,OkE.val d1.fh (OkE.pre d1 q) (.bl _)⟩
theorem wQ (h:tD M n (eSh fa) σ H Q):tD M n fa σ H Q:=by
 obtain ⟨F,ρ,fp,S,p⟩:=h;refine ⟨F,ρ,fp,S,(aw.bind p).mono λx px v F1 H1 fx e1 r1 w1=>?_⟩
 obtain ⟨G1,d1,k1⟩:=r1.frz e1 w1;exact OkE.val d1.fh (OkE.pre d1 px) k1
theorem rh {K:PySem.W.Frag} {F G:Hp} {v:V} {d:PyData} (h:flat d=true) (r:Rep K F v d):Rep K G v d:=by
 cases r with
 |non=>exact .non
 |bl b=>exact .bl b
 |int i=>exact .int i
 |str x=>exact .str x
 |lst _ _=>cases h
 |tup _ _=>cases h
 |dct _ _ _=>cases h
 |ins _ _ _=>cases h
theorem FH (h:tD M n (xN fa) σ H Q):tD M n fa σ H Q:=by
 obtain ⟨F,ρ,fp,S,p⟩:=h;refine ⟨H,erase ρ,[],S.erase,(aw.bind p).nofp.mono λx px v F1 H1 fx e1 r1 w1=>?_⟩
 by_cases hf:flat x.er=true
 ·rw [if_pos hf]at px
  obtain ⟨G1,d1,k1⟩:=r1.frz e1 w1;exact px v F H1 [] ⟨aB.refl _,d1.hh,S.same.trans d1.hh,λ_ _ z=>z⟩ (Res.sh (rh hf k1)) λ_ m=>by cases m
 ·rw [if_neg hf]at px
  exact px.elim
theorem Cm (h:tT M n (u7 ta) σ H QB):tT M n ta σ H QB:=by
 obtain ⟨F,ρ,fp,S,p⟩:=h;refine ⟨H,erase ρ,[],S.erase,(show aw M H fp _ (ta (erase ρ)) from p).nofp.mono λb pb F1 H1 e1=>?_⟩
 exact pb F H1 ⟨aB.refl _,e1.hh,S.same.trans e1.hh,λ_ _ z=>z⟩
variable {QL:List V->Hp->Prop} {al:Fa}
theorem yG (h:tA M n au σ H QL):nT σ H QL:=by
 obtain ⟨F,ρ,fp,S,p⟩:=h;exact p [] F H [] (Ext.refl S.same) ResL.nil λ_ m=>by cases m
theorem zI (h:tA M n (ag fa al) σ H QL):fv (tD M n fa) (tA M n al) σ H QL:=by
 obtain ⟨F,ρ,fp,S,p⟩:=h;refine ⟨F,ρ,fp,S,(aw.bind p).mono λx px v F1 H1 fx e1 r1 w1=>?_⟩
 refine ⟨F1,ρ,fp,S.ext e1,((aw.bind px).ext e1).mono λxs pxs vs F2 H2 fxs e2 r2 w2=>?_⟩
 refine pxs (v :: vs) F2 H2 (fx++fxs) (e1.trans e2) (ResL.cons (r1.ext e2) r2 λa m q=>?_) λa m=>?_
 ·obtain ⟨o,z⟩:=r1.own.dom a m
  rw [w2 a q]at z;cases z
 ·rcases Zs.mp m with m | m
  ·exact w1 a m
  ·exact e1.hh.free (w2 a m)
theorem jM {k:Nat} (h:k<=BIG):k<=sizeLine:=ZG h (by decide)
theorem pU {k:Nat} (h:k<BIG):k<sizeLine:=ZI h (by decide)
theorem FA (h:tD M n (fJ al) σ H Q):HQ (tA M n al) σ H Q:=by
 obtain ⟨F,ρ,fp,S,p⟩:=h;refine ⟨F,ρ,fp,S,(aw.bind p).mono λxs px vs F1 H1 fx e1 r1 w1=>?_⟩
 by_cases hl:xs.length<=BIG
 ·rw [if_pos hl]at px
  exact ⟨by rw [r1.own.len];exact jM hl,λa ha=>OkE.lst e1.fh px e1 r1 w1 ha⟩
 ·rw [if_neg hl]at px
  exact px.elim
theorem Im (h:tD M n (mO al) σ H Q):zW (tA M n al) σ H Q:=by
 obtain ⟨F,ρ,fp,S,p⟩:=h;refine ⟨F,ρ,fp,S,(aw.bind p).mono λxs px vs F1 H1 fx e1 r1 w1=>?_⟩
 by_cases hl:xs.length<=BIG
 ·rw [if_pos hl]at px
  refine ⟨by rw [r1.own.len];exact jM hl,λa ha=>?_⟩
  unfold mkT at px;split at px
  ·rename_i ds q
   obtain ⟨_,k⟩:=OwnL.of_shs r1.own q;exact OkE.tupF e1.fh px e1 k ha
  ·exact OkE.tup e1.fh px e1 r1 w1 ha
 ·rw [if_neg hl]at px
  exact px.elim
noncomputable def sp3 (K:PySem.W.Frag) (mg:Str->Option Value) (f:Fn):Sp:=λvs H Q E=>∃F ds,aB F H/\RepAll K F vs ds/\aw ⟨K,mg,E⟩ H [] (OkE ⟨K,mg,E⟩ F H Q) (f ds)
theorem Dk {f:Fn} (h:tD M n (aT f al) σ H Q):mI (sp3 M.K M.mg f) [] M.E (tA M n al) σ H Q:=by
 obtain ⟨F,ρ,fp,S,p⟩:=h;refine ⟨F,ρ,fp,S,(aw.bind p).mono λxs px vs F1 H1 fx e1 r1 w1=>?_⟩
 obtain ⟨G1,d1,k1⟩:=r1.frz e1 w1;rw [Zx];exact ⟨G1,xs.map OD.er,d1.fh,k1,(px.ext d1).nofp.mono λz hz=>hz.pre d1⟩
theorem Ee {r:List V->Hp->VK->Prop} {g:List PyData->R OD} (hg:OkC M r g) (h:tD M n (eB g al) σ H Q):tCB r (tA M n al) σ H Q:=by
 obtain ⟨F,ρ,fp,S,p⟩:=h;refine ⟨F,ρ,fp,S,(aw.bind p).mono λxs px vs F1 H1 fx e1 r1 w1=>?_⟩
 obtain ⟨G1,d1,k1⟩:=r1.frz e1 w1;exact hg vs (xs.map OD.er) G1 H1 fp Q d1.fh k1 ((px.ext d1).mono λz hz=>hz.pre d1)
variable {QO:Option Int->Hp->Prop} {lo hi:Fo}
theorem Ak (h:tO M n tj σ H QO):uk σ H QO:=by
 obtain ⟨F,ρ,fp,S,p⟩:=h;exact p F H (Ext.refl S.same)
theorem zu (h:tO M n (kx fa) σ H QO):Be (tD M n fa) σ H QO:=by
 obtain ⟨F,ρ,fp,S,p⟩:=h;refine ⟨F,ρ,fp,S,(aw.bind p).mono λx px v F1 H1 fx e1 r1 w1=>?_⟩
 obtain ⟨G1,d1,k1⟩:=r1.frz e1 w1;generalize x.er=d at px k1
 cases d with
 |int i =>
  cases k1;exact ⟨i,rfl,px G1 H1 d1⟩
 |none=>exact px.elim
 |bool _=>exact px.elim
 |str _=>exact px.elim
 |list _=>exact px.elim
 |tuple _=>exact px.elim
 |dict _=>exact px.elim
theorem IH {r:V->Option Int->Option Int->Hp->VK->Prop} {g:PyData->Option Int->Option Int->R OD} (hg:OkS M r g) (h:tD M n (eSl g fa lo hi) σ H Q):tSl r (tD M n fa) (tO M n lo) (tO M n hi) σ H Q:=by
 obtain ⟨F,ρ,fp,S,p⟩:=h;refine ⟨F,ρ,fp,S,(aw.bind p).mono λx px v F1 H1 fx e1 r1 w1=>?_⟩
 obtain ⟨G1,d1,k1⟩:=r1.frz e1 w1;refine ⟨G1,ρ,fp,S.ext d1,((aw.bind px).ext d1).mono λi pi F2 H2 e2=>?_⟩
 refine ⟨F2,ρ,fp,(S.ext d1).ext e2,((aw.bind pi).ext (d1.trans e2)).mono λj pj F3 H3 e3=>?_⟩
 have e:=(d1.trans e2).trans e3;exact hg v i j x.er F3 H3 fp Q e3.fh ((k1.same e2.ff).same e3.ff) ((pj.ext e).mono λz hz=>hz.pre e)
end
noncomputable def eG (M:Mx) (n:Nat) (F H:Hp) (fp:List Addr) (D:Ends):Out->Prop
 |.nx ρ=>∀σ' F' H' fp',Stt M.K n F' H' σ' ρ fp'->Stp F H fp F' H' fp'->D.nx σ' H'
 |.bk ρ=>∀σ' F' H' fp',Stt M.K n F' H' σ' ρ fp'->Stp F H fp F' H' fp'->D.bk σ' H'
 |.ct ρ=>∀σ' F' H' fp',Stt M.K n F' H' σ' ρ fp'->Stp F H fp F' H' fp'->D.ct σ' H'
 |.rt x=>∀v F' H' fx,aB F' H'->Res M.K F' H' v x fx->Stp F H fp F' H' fx->D.rt v H'
noncomputable def tS (M:Mx) (n:Nat) (f:Fs):TS:=λD σ H=>∃F ρ fp,Stt M.K n F H σ ρ fp/\aw M H fp (eG M n F H fp D) (f ρ)
noncomputable def OkG (M:Mx) (n:Nat) (is:List Nat) (F H:Hp) (fp:List Addr) (σ:St) (Q:St->Hp->Prop) (ρ:Env):Prop :=
 ∀σ' F' H' fp',Stt M.K n F' H' σ' ρ fp'->Stp F H fp F' H' fp'->(∀j,j∉is->σ'[j]?=σ[j]?)->Q σ' H'
noncomputable def tG (M:Mx) (n:Nat) (is:List Nat) (f:Fg):TG:=λv σ H Q=>∃F ρ fp x fx,Stt M.K n F H σ ρ fp/\Res M.K F H v x fx/\(∀a∈fx,a∉fp)/\aw M H (fp++fx) (OkG M n is F H (fp++fx) σ Q) (f x ρ)
noncomputable def tGs (M:Mx) (n:Nat) (is:List Nat) (f:Fgs):TGs:=λvs σ H Q=>∃F ρ fp xs fx,Stt M.K n F H σ ρ fp/\ResL M.K F H vs xs fx/\(∀a∈fx,a∉fp)/\aw M H (fp++fx) (OkG M n is F H (fp++fx) σ Q) (f xs ρ)
section
variable {M:Mx} {n:Nat} {F H F1 H1 F2 H2:Hp} {fp fp1 fp2:List Addr} {σ:St} {ρ:Env} {D:Ends}
theorem eG.stp (s:Stp F H fp F1 H1 fp1) {o:Out} (h:eG M n F H fp D o):eG M n F1 H1 fp1 D o:=by
 cases o with
 |nx ρ=>exact fun σ' F' H' fp' a b=>h σ' F' H' fp' a (s.trans b)
 |bk ρ=>exact fun σ' F' H' fp' a b=>h σ' F' H' fp' a (s.trans b)
 |ct ρ=>exact fun σ' F' H' fp' a b=>h σ' F' H' fp' a (s.trans b)
 |rt x=>exact λv F' H' fx a b c=>h v F' H' fx a b (s.trans c)
theorem PostS.stp (s:Stp F H fp F1 H1 fp1) {r:R Out} (h:aw M H fp (eG M n F H fp D) r):aw M H1 fp1 (eG M n F1 H1 fp1 D) r:=(h.stp s).mono λo ho=>ho.stp s
theorem Ext.stpN {fx:List Addr} (e:Ext F H F1 H1) (w:∀a∈fx,H a=none):Stp F H fp F1 H1 (fp++fx) :=
 ⟨e.ff,λa o h _=>e.hh a o h,λa m=>(Zs.mp m).elim .inl λm=>.inr (w a m),λa h _ z=>e.nw a h z⟩
theorem Stp.sub (s:Stp F H fp F1 H1 fp1) (h:∀a∈fp2,a∈fp1):Stp F H fp F1 H1 fp2:=⟨s.ff,s.keep,λa m=>s.new a (h a m),s.nw⟩
theorem Dv (h:tS M n sNx D σ H):BI D σ H:=by
 obtain ⟨F,ρ,fp,S,p⟩:=h;exact p σ F H fp S Stp.refl
theorem G3 {f g:Fs} (h:tS M n (aH f g) D σ H):Hu (tS M n f) (tS M n g) D σ H:=by
 obtain ⟨F,ρ,fp,S,p⟩:=h;refine ⟨F,ρ,fp,S,(aw.bind p).mono λo po=>?_⟩
 cases o with
 |nx ρ1=>exact fun σ' F' H' fp' S' st=>⟨F',ρ1,fp',S',PostS.stp st po⟩
 |bk ρ=>exact po
 |ct ρ=>exact po
 |rt x=>exact po
theorem BK (h:tS M n il D σ H):pO D σ H:=by
 obtain ⟨F,ρ,fp,S,p⟩:=h;exact p
theorem IZ {t:Ft} {f g:Fs} (h:tS M n (sIf t f g) D σ H):xp (tT M n t) (tS M n f) (tS M n g) D σ H:=by
 obtain ⟨F,ρ,fp,S,p⟩:=h;refine ⟨F,ρ,fp,S,(aw.bind p).mono λc pc F1 H1 e1=>?_⟩
 cases c with
 |true =>
  rw [if_pos rfl]at pc ⊢;exact ⟨F1,ρ,fp,S.ext e1,PostS.stp e1.stp pc⟩
 |false =>
  rw [if_neg Zm]at pc ⊢;exact ⟨F1,ρ,fp,S.ext e1,PostS.stp e1.stp pc⟩
theorem Du {a:Fe} (h:tS M n (gT a) D σ H):jb (tD M n a) D σ H:=by
 obtain ⟨F,ρ,fp,S,p⟩:=h;exact ⟨F,ρ,fp,S,(aw.bind p).mono λx px v F1 H1 fx e1 r1 w1=>px σ F1 H1 fp (S.ext e1) e1.stp⟩
theorem FQ {a:Fe} (h:tS M n (bI a) D σ H):xh (tD M n a) D σ H:=by
 obtain ⟨F,ρ,fp,S,p⟩:=h;exact ⟨F,ρ,fp,S,(aw.bind p).mono λx px v F1 H1 fx e1 r1 w1=>px v F1 H1 fx e1.fh r1 ((e1.stpN w1).sub λa m=>Zq _ m)⟩
theorem EU {i:Nat} (h:tS M n (kL i) D σ H):xh (d9 i) D σ H:=by
 obtain ⟨F,ρ,fp,S,p⟩:=h;unfold kL at p;split at p
 ·rename_i x e
  obtain ⟨v,f,g1,g2,h1,h2,rfl,h4⟩:=S.own.at e;have sub:∀a∈f,a∈g1++(f++g2):=λa m=>Zq _ (Zw _ m)
  refine ⟨v,h1,p v F H f S.same ⟨h2,?_,λa m=>S.fr a (sub a m)⟩ (Stp.refl.sub sub)⟩
  have nd:=S.nd;simp only [ZK]at nd;exact nd.2.1.1
 ·exact p.elim
theorem HL {a:Fe} {is:List Nat} {g:Fg} (h:tS M n (AF a g) D σ H):pQ (tD M n a) (tG M n is g) D σ H:=by
 obtain ⟨F,ρ,fp,S,p⟩:=h;refine ⟨F,ρ,fp,S,(aw.bind p).mono λx px v F1 H1 fx e1 r1 w1=>?_⟩
 have st:=e1.stpN (fp:=fp) w1;refine ⟨F1,ρ,fp,x,fx,S.ext e1,r1,λa m q=>?_,((aw.bind px).stp st).mono fun ρ' hρ σ' F' H' fp' S' s' _=>hρ σ' F' H' fp' S' (st.trans s')⟩
 obtain ⟨o,z⟩:=S.own.dom a q;rw [w1 a m]at z;cases z
theorem wU {i:Nat} (hi:i<n) {v:V} {Q:St->Hp->Prop} (h:tG M n [i] (gNm i) v σ H Q):oT i v σ H Q:=by
 obtain ⟨F,ρ,fp,x,fx,S,r,d,p⟩:=h;obtain ⟨fp',S',sub⟩:=S.set hi r d;refine p _ F H fp' S' ⟨aB.refl _,λ_ _ h _=>h,λa m=>.inl (Zs.mpr (sub a m)),λ_ _ _ z=>z⟩ λj hj=>?_
 have hne:i≠j:=by
  rintro rfl;exact hj (by simp)
 rw [List.getElem?_set_ne hne]
theorem Gu {vs:List V} {Q:St->Hp->Prop} (h:tGs M n [] gm vs σ H Q):Gs vs σ H Q:=by
 obtain ⟨F,ρ,fp,xs,fx,S,r,d,p⟩:=h;cases xs with
 |nil =>
  cases r.own with
  |nil=>exact ⟨rfl,p σ F H fp S (Stp.refl.sub λa m=>Zw _ m) λ_ _=>rfl⟩
 |cons x xs=>exact p.elim
theorem ER {vs:List V} {is js:List Nat} {g:Fg} {gs:Fgs} {Q:St->Hp->Prop} (h:tGs M n (is++js) (bK g gs) vs σ H Q):Bh (tG M n is g) (tGs M n js gs) vs σ H Q:=by
 obtain ⟨F,ρ,fp,xs,fx,S,r,d,p⟩:=h;cases xs with
 |nil=>exact p.elim
 |cons x xs =>
  obtain ⟨ro,rn,rf⟩:=r;cases ro with
  |@cons v _ f vs _ g' h1 h2 =>
   have nd:=rn;simp only [ZK]at nd;refine ⟨v,vs,rfl,F,ρ,fp,x,f,S,⟨h1,nd.1,λa m=>rf a (Zw _ m)⟩,λa m=>d a (Zw _ m),?_⟩
   have p':aw M H (fp++(f++g')) _ ((g x ρ).bind fun ρ'=>gs xs ρ'):=p
   have s0:Stp F H (fp++(f++g')) F H (fp++f):=Stp.refl.sub λa m=>by
    simp only [Zs]at m ⊢;rcases m with m | m
    ·exact .inl m
    ·exact .inr (.inl m)
   refine ((aw.bind p').stp s0).mono fun ρ1 p1 σ1 F1 H1 fp1 S1 s1 t1=>?_
   have gd:∀a∈g',a∉fp++f:=λa m q=>by
    rcases Zs.mp q with q | q
    ·exact d a (Zq _ m) q
    ·exact nd.2.2 a q a m rfl
   have hd:∀a∈g',H a≠none:=λa m=>let ⟨_,q⟩:=h2.dom a m;bF q
   have k1:∀a∈g',∀o,H a=some o->H1 a=some o:=λa m o q=>s1.keep a o q (gd a m)
   have out:∀a∈g',a∉fp1:=λa m=>s1.out (hd a m) (gd a m)
   have s2:Stp F H (fp++(f++g')) F1 H1 (fp1++g'):=⟨s1.ff,λa o q m=>s1.keep a o q (λz=>m (by simp only [Zs]at z ⊢;rcases z with z | z <;> simp [z])),λa m=>by
    rcases Zs.mp m with m | m
    ·rcases s1.new a m with z | z
     ·exact .inl (by simp only [Zs]at z ⊢;rcases z with z | z <;> simp [z])
     ·exact .inr z
    ·exact .inl (by simp [m]),λa q m z=>s1.nw a q (λw=>m (by simp only [Zs]at w ⊢;rcases w with w | w <;> simp [w])) z⟩
   refine ⟨F1,ρ1,fp1,xs,g',S1,⟨h2.mono s1.ff k1,nd.2.1,λa m=>s1.nw a (hd a m) (gd a m) (rf a (Zq _ m))⟩,out,(p1.stp s2).mono fun ρ' hρ σ' F' H' fp' S' s' t'=>hρ σ' F' H' fp' S' (s2.trans s') λj hj=>?_⟩
   have hj1:j∉is:=λz=>hj (Zw _ z)
   have hj2:j∉js:=λz=>hj (Zq _ z)
   rw [t' j hj2,t1 j hj1]
theorem GC {k:Nat} {v:V} {is:List Nat} {gs:Fgs} {Q:St->Hp->Prop} (h:tG M n is (gTp k gs) v σ H Q):Gr M.K k (tGs M n is gs) v σ H Q:=by
 obtain ⟨F,ρ,fp,x,fx,S,r,d,p⟩:=h;unfold gTp at p;split at p
 ·rename_i xs
  obtain ⟨ro,rn,rf⟩:=r;cases ro with
  |@ot a vs _ f h1 h2 =>
   by_cases hl:xs.length=k
   ·rw [if_pos hl]at p
    have nd:=List.nodup_cons.mp rn;have s0:Stp F H (fp++(a :: f)) F H (fp++f):=Stp.refl.sub λb m=>by
     simp only [Zs,Zo]at m ⊢;rcases m with m | m <;> simp [m]
    exact ⟨a,vs,rfl,SqT.of h1,by rw [h2.len];exact hl,F,ρ,fp,xs,f,S,⟨h2,nd.2,λb m=>rf b (Ze _ m)⟩,λb m=>d b (Ze _ m),(p.stp s0).mono fun ρ' hρ σ' F' H' fp' S' s' t'=>hρ σ' F' H' fp' S' (s0.trans s') t'⟩
   ·rw [if_neg hl]at p
    exact p.elim
 ·rename_i ds
  obtain ⟨ro,rn,rf⟩:=r;cases ro with
  |sh q =>
   by_cases hl:ds.length=k
   ·rw [if_pos hl]at p
    cases q with
    |@tup a vs _ h1 h2 =>
     exact ⟨a,vs,rfl,SqT.of (S.same _ _ h1),by rw [RepAll.len h2];exact hl,F,ρ,fp,ds.map OD.sh,[],S,⟨OwnL.shs h2,List.nodup_nil,λ_ m=>by cases m⟩,(λ_ m=>by cases m),p⟩
   ·rw [if_neg hl]at p
    exact p.elim
 ·exact p.elim
theorem BA {a:Fe} {i:Nat} (hi:i<n) (h:tS M n (bU i a) D σ H):pQ (tD M n a) (oT i) D σ H:=by
 have h':tS M n (AF a (gNm i)) D σ H:=h;obtain ⟨F,ρ,fp,S,p⟩:=HL (is:=[i]) h';exact ⟨F,ρ,fp,S,p.mono λx px v F1 H1 fx e1 r1 w1=>wU hi (px v F1 H1 fx e1 r1 w1)⟩
theorem Hx {f:Fs} {i:Nat} (h:tS M n (qi i f) D σ H):tS M n f D σ H:=by
 obtain ⟨F,ρ,fp,S,p⟩:=h;unfold qi yj at p;split at p
 ·rename_i x e
  obtain ⟨v,f,g1,g2,h1,h2,rfl,h4⟩:=S.own.at e;have ff:∀a∈f,F a=none:=λa m=>S.fr a (Zq _ (Zw _ m))
  have o:=h4 (iN F H f) H (dI ff) (λ_ _ _ q=>q) v (.sh x.er) [] (.sh (h2.frz (dI ff) λa m o q=>by rw [gW m];exact q))
  have hs:σ.set i (some v)=σ:=by
   apply List.ext_getElem?
   intro j;by_cases hj:i=j
   ·subst hj
    rw [h1,List.getElem?_set_self (Zb.mp h1).1]
   ·rw [List.getElem?_set_ne hj]
  rw [hs]at o;have nd:=S.nd;simp only [ZK,Zs]at nd;obtain ⟨n1,⟨n2,n3,n4⟩,n5⟩:=nd;have sub:∀a∈g1++([]++g2),a∈g1++(f++g2)/\a∉f:=λa m=>by
   simp only [List.nil_append,Zs]at m ⊢;rcases m with m | m
   ·exact ⟨.inl m,λz=>n5 a m a (.inl z) rfl⟩
   ·exact ⟨.inr (.inr m),λz=>n4 a z a m rfl⟩
  have st:Stp F H (g1++(f++g2)) (iN F H f) H (g1++([]++g2)):=⟨dI ff,λ_ _ h _=>h,λa m=>.inl (sub a m).1,λa h m z=>by
   rw [dO λw=>m (Zq _ (Zw _ w))]
   exact z⟩
  refine ⟨iN F H f,_,_,⟨l9 S.same,o,?_,λa m=>?_,by rw [ZJ];exact S.len⟩,PostS.stp st p⟩
  ·simp only [List.nil_append,ZK]
   exact ⟨n1,n3,λa ha b hb=>n5 a ha b (.inr hb)⟩
  ·rw [dO (sub a m).2]
   exact S.fr a (sub a m).1
 ·exact ⟨F,ρ,fp,S,p⟩
end
noncomputable def Walks (K:PySem.W.Frag) (F:Hp) (J:It) (ds:List PyData):Prop:=∀i G H,aB F G->aB G H ->
 (∀d,ds[i]?=some d->J.go i H/\∀x H',J.yld i H x H'->∃G',Ext G H G' H'/\Rep K G' x d)/\(ds.length<=i->J.stop i H)
noncomputable def OkI (K:PySem.W.Frag) (F H:Hp) (R:It->Hp->Prop) (ds:List PyData):Prop:=∀J F' H',Ext F H F' H'->Walks K F' J ds->R J H'
noncomputable def tI (M:Mx) (n:Nat) (f:Fi):TI:=fun σ H R=>∃F ρ fp,Stt M.K n F H σ ρ fp/\aw M H fp (OkI M.K F H R) (f ρ)
section
variable {M:Mx} {n:Nat} {F H:Hp} {σ:St} {D:Ends} {R':It->Hp->Prop}
theorem BR {a:Fe} (h:tI M n (gY a) σ H R'):BC M.K (tD M n a) σ H R':=by
 obtain ⟨F,ρ,fp,S,p⟩:=h;refine ⟨F,ρ,fp,S,(aw.bind p).mono λx px v F1 H1 fx e1 r1 w1=>?_⟩
 obtain ⟨G1,d1,k1⟩:=r1.frz e1 w1;generalize x.er=d at px k1
 cases k1 with
 |@lst a vs ds h1 h2 =>
  refine ⟨a,rfl,⟨vs,(h1.same d1.fh).sq⟩,px _ G1 H1 d1 λi G H' s1 s2=>?_⟩
  have hq:=(h1.same (s1.trans s2)).sq;refine ⟨λd hd=>?_,λhl=>⟨vs,hq,by rw [RepAll.len h2];exact hl⟩⟩
  obtain ⟨u,hu,ru⟩:=RepAll.get h2 hd;refine ⟨⟨vs,u,hq,hu⟩,λx H2 y=>?_⟩
  obtain ⟨rfl,y⟩:=y;have hx:=y vs hq;rw [hu]at hx;cases hx;exact ⟨G,Ext.refl s2,ru.same s1⟩
 |non=>exact px.elim
 |bl _=>exact px.elim
 |int _=>exact px.elim
 |str _=>exact px.elim
 |dct _ _ _=>exact px.elim
 |ins _ _ _=>exact px.elim
 |tup _ _=>exact px.elim
theorem FE {a:Fe} (h:tI M n (iTp a) σ H R'):HC M.K (tD M n a) σ H R':=by
 obtain ⟨F,ρ,fp,S,p⟩:=h;refine ⟨F,ρ,fp,S,(aw.bind p).mono λx px v F1 H1 fx e1 r1 w1=>?_⟩
 obtain ⟨G1,d1,k1⟩:=r1.frz e1 w1;generalize x.er=d at px k1
 cases k1 with
 |@tup a vs ds h1 h2 =>
  refine ⟨a,rfl,⟨vs,SqT.of (d1.fh _ _ h1)⟩,px _ G1 H1 d1 λi G H' s1 s2=>?_⟩
  have hq:SqT M.K H' a vs:=SqT.of ((s1.trans s2) _ _ h1);refine ⟨λd hd=>?_,λhl=>⟨vs,hq,by rw [RepAll.len h2];exact hl⟩⟩
  obtain ⟨u,hu,ru⟩:=RepAll.get h2 hd;refine ⟨⟨vs,u,hq,hu⟩,λx H2 y=>?_⟩
  obtain ⟨rfl,y⟩:=y;have hx:=y vs hq;rw [hu]at hx;cases hx;exact ⟨G,Ext.refl s2,ru.same s1⟩
 |non=>exact px.elim
 |bl _=>exact px.elim
 |int _=>exact px.elim
 |str _=>exact px.elim
 |dct _ _ _=>exact px.elim
 |ins _ _ _=>exact px.elim
 |lst _ _=>exact px.elim
theorem mX {K:PySem.W.Frag} (lo:Int) (k:Nat):Walks K F (Itr lo k) (jv lo k):=by
 intro i G H s1 s2;unfold jv;refine ⟨λd hd=>?_,λhl=>(show k<=i by simpa using hl)⟩
 rw [Za]at hd;obtain ⟨j,hj,rfl⟩:=Zp.mp hd;obtain ⟨h1,h2⟩:=Zb.mp hj;have h3:i=j:=by simpa using h2
 subst h3;refine ⟨(show i<k by simpa using h1),λx H' y=>?_⟩
 obtain ⟨rfl,rfl⟩:=y;exact ⟨G,Ext.refl s2,.int _⟩
theorem gU {i:Int}:ba i=true ↔ -(2 ^ 62)<=i/\i<2 ^ 62:=by
 unfold ba;rw [Zv,decide_eq_true_eq,decide_eq_true_eq]
theorem Jk {a:Fe} (h:tI M n (iR1 a) σ H R'):BG (tA M n (ag a au)) σ H R':=by
 obtain ⟨F,ρ,fp,S,p⟩:=h;refine ⟨F,ρ,fp,S,?_⟩;have p1:=aw.bind p;show aw M H fp _ ((a ρ).bind λx=>R.ok [x])
 cases ha:a ρ with
 |bad=>rw [ha]at p1;exact p1
 |ex c=>rw [ha]at p1;exact p1
 |ok x =>
  rw [ha]at p1;intro vs F1 H1 fx e1 r1 w1;obtain ⟨G1,d1,k1⟩:=r1.frz e1 w1;cases k1 with
  |@cons v _ _ _ k1 k2 =>
   cases k2;have p2:aw M H fp (OkI M.K F H R') (match x.er with | .int j=>if ba j=true then .ok (jv 0 j.toNat) else .bad | _=>.bad):=p1
   generalize x.er=d at p2 k1
   cases k1 with
   |int j =>
    by_cases hs:ba j=true
    ·have hs':=gU.mp hs
     have p3:aw M H fp (OkI M.K F H R') (if ba j=true then .ok (jv 0 j.toNat) else .bad):=p2
     rw [if_pos hs]at p3;exact ⟨j,rfl,hs'.1,hs'.2,p3 _ G1 H1 d1 (mX _ _)⟩
    ·have p3:aw M H fp (OkI M.K F H R') (if ba j=true then .ok (jv 0 j.toNat) else .bad):=p2
     rw [if_neg hs]at p3;exact p3.elim
   |non=>exact p2.elim
   |bl _=>exact p2.elim
   |str _=>exact p2.elim
   |dct _ _ _=>exact p2.elim
   |ins _ _ _=>exact p2.elim
   |lst _ _=>exact p2.elim
   |tup _ _=>exact p2.elim
theorem q_ {a b:Fe} {g:PyData->PyData->R (List PyData)} {ρ:Env} {fp:List Addr} {QL:List V->Hp->Prop}
  (p:aw M H fp (OkI M.K F H R') ((a ρ).bind λx=>(b ρ).bind λy=>g x.er y.er))
  (k:∀v w dx dy G H1,Ext F H G H1->Rep M.K G v dx->Rep M.K G w dy->aw M H fp (OkI M.K F H R') (g dx dy)->QL [v,w] H1) :
  aw M H fp (OkL M F H QL) (ag a (ag b au) ρ):=by
 show aw M H fp _ ((a ρ).bind λx=>((b ρ).bind λy=>R.ok [y]).bind λxs=>R.ok (x :: xs))
 have p1:=aw.bind p;cases ha:a ρ with
 |bad=>rw [ha]at p1;exact p1
 |ex c=>rw [ha]at p1;exact p1
 |ok x =>
  rw [ha]at p1;have p2:aw M H fp _ (b ρ):=aw.bind p1;show aw M H fp _ (((b ρ).bind λy=>R.ok [y]).bind λxs=>R.ok (x :: xs))
  cases hb:b ρ with
  |bad=>rw [hb]at p2;exact p2
  |ex c=>rw [hb]at p2;exact p2
  |ok y =>
   rw [hb]at p2;intro vs F1 H1 fx e1 r1 w1;obtain ⟨G1,d1,k1⟩:=r1.frz e1 w1;cases k1 with
   |@cons v _ _ _ k1 k2 =>
    cases k2 with
    |@cons w _ _ _ k2 k3 =>
     cases k3;exact k v w x.er y.er G1 H1 d1 k1 k2 p2
noncomputable def r2F (x y:PyData):R (List PyData):=match x,y with
 |.int i,.int j=>if (ba i && ba j)=true then .ok (jv i (j-i).toNat) else .bad
 |_,_=>.bad
theorem Jv {a b:Fe} (h:tI M n (iR2 a b) σ H R'):BJ (tA M n (ag a (ag b au))) σ H R':=by
 obtain ⟨F,ρ,fp,S,p⟩:=h;refine ⟨F,ρ,fp,S,q_ (g:=r2F) (by unfold iR2 at p;exact p) λv w dx dy G H1 e rv rw' q=>?_⟩
 unfold r2F at q;split at q
 ·rename_i i j
  cases rv;cases rw';by_cases hs:(ba i && ba j)=true
  ·rw [if_pos hs]at q
   rw [Zv]at hs;have h1:=gU.mp hs.1;have h2:=gU.mp hs.2;exact ⟨i,j,rfl,⟨h1.1,h1.2,h2.1,h2.2⟩,q _ G H1 e (mX _ _)⟩
  ·rw [if_neg hs]at q
   exact q.elim
 ·exact q.elim
theorem oH {ds:List PyData} {i:Nat} {d:PyData} (h:(dN ds)[i]?=some d):∃e,ds[i]?=some e/\d=.tuple [.int i,e]:=by
 unfold dN at h;rw [Za]at h;obtain ⟨p,hp,rfl⟩:=Zp.mp h;rw [List.getElem?_zipIdx]at hp;obtain ⟨e,he,rfl⟩:=Zp.mp hp;exact ⟨e,he,by simp⟩
theorem DN {a:Fe} (h:tI M n (iEn a) σ H R'):Bf M.K (tA M n (ag a au)) σ H R':=by
 obtain ⟨F,ρ,fp,S,p⟩:=h;refine ⟨F,ρ,fp,S,?_⟩;have p1:=aw.bind p;show aw M H fp _ ((a ρ).bind λx=>R.ok [x])
 cases ha:a ρ with
 |bad=>rw [ha]at p1;exact p1
 |ex c=>rw [ha]at p1;exact p1
 |ok x =>
  rw [ha]at p1;intro vs F1 H1 fx e1 r1 w1;obtain ⟨G1,d1,k1⟩:=r1.frz e1 w1;cases k1 with
  |@cons v _ _ _ k1 k2 =>
   cases k2;have p2:aw M H fp (OkI M.K F H R') (match x.er with | .list ds=>.ok (dN ds) | _=>.bad):=p1
   generalize x.er=d at p2 k1
   cases k1 with
   |@lst a vs ds h1 h2 =>
    have p3:OkI M.K F H R' (dN ds):=p2;refine ⟨a,rfl,⟨vs,(h1.same d1.fh).sq⟩,p3 _ G1 H1 d1 λi G H' s1 s2=>?_⟩
    have hq:=(h1.same (s1.trans s2)).sq;refine ⟨λd hd=>?_,λhl=>⟨vs,hq,by rw [RepAll.len h2];unfold dN at hl;simpa using hl⟩⟩
    obtain ⟨e,he,rfl⟩:=oH hd;obtain ⟨u,hu,ru⟩:=RepAll.get h2 he;refine ⟨⟨vs,u,hq,hu⟩,λx H2 y=>?_⟩
    obtain ⟨T,z,hT,rfl,rfl,hz⟩:=y;have hx:=hz vs hq;rw [hu]at hx;cases hx;exact ⟨upd G T _,Ext.allocF s2 hT,.tup aZ (.cons (.int _) (.cons ((ru.same s1).same ((aB.refl G).upd (s2.free hT))) .nil))⟩
   |int j=>exact p2.elim
   |non=>exact p2.elim
   |bl _=>exact p2.elim
   |str _=>exact p2.elim
   |dct _ _ _=>exact p2.elim
   |ins _ _ _=>exact p2.elim
   |tup _ _=>exact p2.elim
noncomputable def F8 (x y:PyData):R (List PyData):=match x,y with
 |.list ds,.list es=>.ok (lX ds es)
 |_,_=>.bad
theorem mK {ds es:List PyData} {i:Nat} {d:PyData} (h:(lX ds es)[i]?=some d):∃x y,ds[i]?=some x/\es[i]?=some y/\d=.tuple [x,y]:=by
 unfold lX at h;rw [Za]at h;obtain ⟨p,hp,rfl⟩:=Zp.mp h;rw [List.getElem?_zip_eq_some]at hp;exact ⟨p.1,p.2,hp.1,hp.2,rfl⟩
theorem Hh {it:Fi} {is:List Nat} {g:Fg} {b:Fs} (h:tS M n (gX it g b) D σ H):Ib (tI M n it) (tG M n is g) (tS M n b) D σ H:=by
 obtain ⟨F,ρ,fp,S,p⟩:=h;refine ⟨F,ρ,fp,S,(aw.bind p).mono λds pd J F1 H1 e1 wk=>?_⟩
 refine ⟨λi m σ' H'=>m=ds.length-i/\i<=ds.length/\∃F' ρ' fp',Stt M.K n F' H' σ' ρ' fp'/\aB F1 F'/\aw M H' fp' (eG M n F' H' fp' D) (cy g b (ds.drop i) ρ'),⟨ds.length,by simp,Nat.zero_le _,F1,ρ,fp,S.ext e1,aB.refl _,PostS.stp e1.stp pd⟩,?_⟩
 rintro i m σ' H' ⟨rfl,hi,F',ρ',fp',S',s',p'⟩;obtain ⟨w1,w2⟩:=wk i F' H' s' S'.same;by_cases hlt:i<ds.length
 ·obtain ⟨d,hd⟩:∃d,ds[i]?=some d:=⟨ds[i],by simp [hlt]⟩
  obtain ⟨g1,g2⟩:=w1 d hd;have e:ds.drop i=d :: ds.drop (i+1):=by
   rw [List.drop_eq_getElem_cons hlt];congr 1
   have:=(Zb.mp hd).2;exact this
  rw [e]at p';refine .inr ⟨g1,fun σ2 H2=>∃F2 ρ2 fp2,Stt M.K n F2 H2 σ2 ρ2 fp2/\aB F1 F2/\aw M H2 fp2 (eG M n F2 H2 fp2 D) (cy g b (ds.drop (i+1)) ρ2),fun σ2 H2 q=>⟨ds.length-(i+1),by lia,rfl,hlt,q⟩,λx H2 y=>?_⟩
  obtain ⟨G2,e2,rx⟩:=g2 x H2 y;have p2:aw M H' fp' _ ((g (.sh d) ρ').bind fun ρ1=>(b ρ1).bind λo=>match o with
   |.nx ρ2=>cy g b (ds.drop (i+1)) ρ2
   |.ct ρ2=>cy g b (ds.drop (i+1)) ρ2
   |.bk ρ2=>.ok (.nx ρ2)
   |.rt x=>.ok (.rt x)):=p'
  have st:Stp F' H' fp' G2 H2 (fp'++[]):=by
   rw [Zx];exact e2.stp
  refine ⟨G2,ρ',fp',.sh d,[],S'.ext e2,Res.sh rx,(λ_ m=>by cases m),((aw.bind p2).stp st).mono fun ρ1 p1 σ3 F3 H3 fp3 S3 s3 _=>?_⟩
  have s4:=st.trans s3;refine ⟨F3,ρ1,fp3,S3,((aw.bind p1).stp s4).mono λo po=>?_⟩
  cases o with
  |nx ρ2=>exact fun σ5 F5 H5 fp5 S5 s5=>⟨F5,ρ2,fp5,S5,(s'.trans s4.ff).trans s5.ff,PostS.stp (s4.trans s5) po⟩
  |ct ρ2=>exact fun σ5 F5 H5 fp5 S5 s5=>⟨F5,ρ2,fp5,S5,(s'.trans s4.ff).trans s5.ff,PostS.stp (s4.trans s5) po⟩
  |bk ρ2=>exact fun σ5 F5 H5 fp5 S5 s5=>po σ5 F5 H5 fp5 S5 (s4.trans s5)
  |rt x=>exact λv F5 H5 fx a r s5=>po v F5 H5 fx a r (s4.trans s5)
 ·have e:i=ds.length:=by lia
  subst e;refine .inl ⟨w2 (Zn _),?_⟩;rw [List.drop_length]at p';exact p' σ' F' H' fp' S' Stp.refl
theorem Au {t:Ft} {b:Fs} (h:tS M n (gH t b) D σ H):yY (tT M n t) (tS M n b) D σ H:=by
 obtain ⟨F,ρ,fp,S,p⟩:=h;unfold gH at p;split at p
 ·rename_i hn
  refine ⟨λm σ' H'=>∃F' ρ' fp',Stt M.K n F' H' σ' ρ' fp'/\aw M H' fp' (eG M n F' H' fp' D) (dG t b m ρ'),⟨_,F,ρ,fp,S,p⟩,?_⟩
  rintro m σ' H' ⟨F',ρ',fp',S',p'⟩;cases m with
  |zero=>exact p'.elim
  |succ m =>
   have p2:aw M H' fp' _ ((t ρ').bind λc=>if c=true then (b ρ').bind λo=>match o with
    |.nx ρ2=>dG t b m ρ2
    |.ct ρ2=>dG t b m ρ2
    |.bk ρ2=>.ok (.nx ρ2)
    |.rt x=>.ok (.rt x) else .ok (.nx ρ')):=p'
   refine ⟨F',ρ',fp',S',(aw.bind p2).mono λc pc F1 H1 e1=>?_⟩
   cases c with
   |true =>
    rw [if_pos rfl]at pc ⊢;refine ⟨fun σ2 H2=>∃F2 ρ2 fp2,Stt M.K n F2 H2 σ2 ρ2 fp2/\aw M H2 fp2 (eG M n F2 H2 fp2 D) (dG t b m ρ2),fun σ2 H2 q=>⟨m,Nat.lt_succ_self _,q⟩,F1,ρ',fp',S'.ext e1,((aw.bind pc).ext e1).mono λo po=>?_⟩
    cases o with
    |nx ρ2=>exact fun σ5 F5 H5 fp5 S5 s5=>⟨F5,ρ2,fp5,S5,PostS.stp (e1.stp.trans s5) po⟩
    |ct ρ2=>exact fun σ5 F5 H5 fp5 S5 s5=>⟨F5,ρ2,fp5,S5,PostS.stp (e1.stp.trans s5) po⟩
    |bk ρ2=>exact fun σ5 F5 H5 fp5 S5 s5=>po σ5 F5 H5 fp5 S5 (e1.stp.trans s5)
    |rt x=>exact λv F5 H5 fx a r s5=>po v F5 H5 fx a r (e1.stp.trans s5)
   |false =>
    rw [if_neg Zm]at pc ⊢;exact pc σ' F1 H1 fp' (S'.ext e1) e1.stp
 ·exact p.elim
end
section
variable {M:Mx} {n:Nat} {F H F1 H1:Hp} {σ:St} {ρ:Env} {fp:List Addr} {D:Ends} {K:PySem.W.Frag}
theorem OwnS.nones {K:PySem.W.Frag}:∀(k:Nat) {σ:St} {ρ:Env} {g:List Addr},OwnS K F H σ ρ g->OwnS K F H (List.replicate k none++σ) (List.replicate k none++ρ) g
 |0,_,_,_,h=>h
 |k+1,_,_,_,h=>by
  rw [List.replicate_succ,List.replicate_succ];exact .no (OwnS.nones k h)
theorem OwnS.one (S:OwnS K F H σ ρ fp) (i:Nat):∃f,(∀a∈f,a∈fp)/\(fp.Nodup->f.Nodup)/\∀{σ':St} {ρ':Env} {g:List Addr},OwnS K F H σ' ρ' g->OwnS K F H ((σ[i]?).join :: σ') ((ρ[i]?).join :: ρ') (f++g):=by
 cases e:ρ[i]? with
 |none=>exact ⟨[],(λ_ m=>by cases m),λ_=>List.nodup_nil,λh=>.no h⟩
 |some o =>
  cases o with
  |none=>exact ⟨[],(λ_ m=>by cases m),λ_=>List.nodup_nil,λh=>.no h⟩
  |some x =>
   obtain ⟨v,f,g1,g2,h1,h2,rfl,h4⟩:=S.at e;refine ⟨f,λa m=>Zq _ (Zw _ m),λnd=>?_,λh=>?_⟩
   ·simp only [ZK]at nd
    exact nd.2.1.1
   ·rw [h1]
    exact .yes h2 h
noncomputable def shE (ρ:Env):Env:=ρ.map λo=>match o with
 |some (.sh d)=>some (.sh d)
 |_=>none
theorem OwnS.shE {σ:St} {ρ:Env} {g:List Addr} (S:OwnS K F H σ ρ g):OwnS K F H σ (L3.shE ρ) []:=by
 induction S with
 |nil=>exact .nil
 |no r ih=>exact .no ih
 |yes h r ih =>
  cases h with
  |sh h=>exact .yes (f:=[]) (.sh h) ih
  |ol _ _=>exact .no ih
  |ot _ _=>exact .no ih
  |od _ _ _=>exact .no ih
  |oi _ _ _=>exact .no ih
  |pl _ _=>exact .no ih
theorem OwnS.pick3:∀(is:List Nat) {σ:St} {ρ:Env},OwnS K F H σ ρ []->OwnS K F H (is.map λi=>(σ[i]?).join) (is.map λi=>(ρ[i]?).join) []
 |[],_,_,_=>.nil
 |i :: is,_,_,S=>by
  obtain ⟨f,h1,_,h3⟩:=S.one i;have hf:f=[]:=by
   cases f with
   |nil=>rfl
   |cons a f=>exact absurd (h1 a Zf) (by simp)
  subst hf;exact h3 (OwnS.pick3 is S)
theorem rB:∀(k:Nat) {σ0 σ2:St},σ2.length=k+σ0.length->(∀j,k<=j->σ2[j]?=(List.replicate k none++σ0)[j]?)->gO (List.replicate k none++σ0) σ2
 |0,σ0,σ2,hl,h=>by
  have e:σ2=σ0:=List.ext_getElem? λj=>by simpa using h j (Nat.zero_le _)
  subst e;show gO σ2 σ2
  clear h hl
  induction σ2 with
  |nil=>trivial
  |cons x r ih =>
   cases x with
   |none=>exact ih
   |some v=>exact ⟨rfl,ih⟩
 |k+1,σ0,[],hl,h=>by simp at hl;lia
 |k+1,σ0,x :: σ2,hl,h=>by
  rw [List.replicate_succ];refine rB k (by simp at hl;lia) λj hj=>?_
  have:=h (j+1) (by lia)
  simpa [List.replicate_succ]using this
theorem tN (ρ:Env):∀(is:List Nat),(is.map λi=>((shE ρ)[i]?).join)=is.map λi=>lB ρ[i]?
 |[]=>rfl
 |i :: is=>by
  rw [Zk,Zk,tN ρ is];congr 1
  unfold shE;rw [Za];cases ρ[i]? with
  |none=>rfl
  |some o =>
   cases o with
   |none=>rfl
   |some x=>cases x <;> rfl
theorem Stt.block (S:Stt K n F H σ ρ fp) (k:Nat) (outs:List (Nat×Str)):Stt K (k+outs.length) F H (slots k outs σ) (sl3 k (outs.map (·.1)) ρ) []:=by
 refine ⟨S.same,?_,List.nodup_nil,(λ_ m=>by cases m),by unfold sl3;simp⟩
 have h:=OwnS.nones k (OwnS.pick3 (outs.map (·.1)) S.own.shE);rw [tN,Zi]at h;exact h
theorem pZ {α:Type} {r:R α} {P:α->Prop} {β:Type} {g:α->R β} {PP:β->Prop} (p:aw M H fp PP ((qq r).bind g)):∃a,r=.ok a/\aw M H fp PP (g a):=by
 cases r with
 |ok a=>exact ⟨a,rfl,p⟩
 |ex c=>exact p.elim
 |bad=>exact p.elim
theorem yU {it:Fi} {g:Fg} {t:Ft} {el:Fe} {k:Nat} {is:List Nat} {outs:List (Nat×Str)} {Q:VK} (hk:∀j∈is,j<k) (h:tD M n (dH it g t el k (outs.map (·.1))) σ H Q) :
  xR (tI M n it) (tG M (k+outs.length) is g) (tT M (k+outs.length) t) (tD M (k+outs.length) el) k outs σ H Q:=by
 obtain ⟨F,ρ,fp,S,p⟩:=h;refine ⟨F,ρ,fp,S,(aw.bind p).mono λds pd J F1 H1 e1 wk D hD=>?_⟩
 have SB:=(S.ext e1).block k outs;have fD:F1 D=none:=e1.fh.free hD;refine ⟨λi m acc H'=>m=ds.length-i/\i<=ds.length/\∃F' xs fx,H' D=some (.lst acc)/\F' D=none/\Ext F1 H1 F' H'/\ResL M.K F' H' acc xs fx/\(∀a∈fx,H1 a=none/\a≠D) /\
  aw M H fp (OkE M F H Q) ((cK g t el (sl3 k (outs.map (·.1)) ρ) (ds.drop i) xs).bind λxs=>.ok (.ol xs)),⟨ds.length,by simp,Nat.zero_le _,F1,[],[],aZ,fD,Ext.alloc e1.fh hD,ResL.nil,(λ_ m=>by cases m),pd⟩,?_⟩
 rintro i m acc H' ⟨rfl,hi,F',xs,fx,hacc,fD',e',rx,wx,p'⟩;have S':=SB.ext e';obtain ⟨w1,w2⟩:=wk i F' H' e'.ff e'.fh;by_cases hlt:i<ds.length
 ·obtain ⟨d,hd⟩:∃d,ds[i]?=some d:=⟨ds[i],by simp [hlt]⟩
  obtain ⟨g1,g2⟩:=w1 d hd;have e:ds.drop i=d :: ds.drop (i+1):=by
   rw [List.drop_eq_getElem_cons hlt];congr 1
   exact (Zb.mp hd).2
  rw [e]at p';have p2:aw M H fp (OkE M F H Q) (((qq (g (.sh d) (sl3 k (outs.map (·.1)) ρ))).bind fun ρ1=>(qq (t ρ1)).bind λb=>if b=true then (qq (el ρ1)).bind λy=>if xs.length<BIG then cK g t el (sl3 k (outs.map (·.1)) ρ) (ds.drop (i+1)) (xs++[y]) else .bad else cK g t el (sl3 k (outs.map (·.1)) ρ) (ds.drop (i+1)) xs).bind λxs=>.ok (.ol xs)):=p'
  have assoc:∀{α β γ:Type} (r:R α) (f:α->R β) (h:β->R γ),(r.bind f).bind h=r.bind λa=>(f a).bind h:=λr f h=>by cases r <;> rfl
  rw [assoc]at p2;obtain ⟨ρ1,hρ1,p3⟩:=pZ (P:=λ_=>True) p2
  rw [assoc]at p3;obtain ⟨b,hb,p4⟩:=pZ (P:=λ_=>True) p3
  refine .inr ⟨g1,λacc' H2=>∃F2 xs2 fx2,H2 D=some (.lst acc')/\F2 D=none/\Ext F1 H1 F2 H2/\ResL M.K F2 H2 acc' xs2 fx2/\(∀a∈fx2,H1 a=none/\a≠D) /\
   aw M H fp (OkE M F H Q) ((cK g t el (sl3 k (outs.map (·.1)) ρ) (ds.drop (i+1)) xs2).bind λxs=>.ok (.ol xs)),λacc' H2 q=>⟨ds.length-(i+1),by lia,rfl,hlt,q⟩,λx H2 y=>?_⟩
  obtain ⟨G2,e2,rx2⟩:=g2 x H2 y;refine ⟨G2,sl3 k (outs.map (·.1)) ρ,[],.sh d,[],S'.ext e2,Res.sh rx2,(λ_ m=>by cases m),?_⟩
  rw [hρ1];intro σ3 F3 H3 fp3 S3 s3 t3;have e3:Ext G2 H2 F3 H3:=⟨s3.ff,λa o q=>s3.keep a o q (by simp),S3.same,λa q z=>s3.nw a q (by simp) z⟩
  refine ⟨rB k (by rw [S3.own.len,S3.len];simp) λj hj=>t3 j λz=>by have:=hk j z;lia,F3,ρ1,fp3,S3,?_⟩
  rw [hb];intro F4 H4 e4;have e24:Ext F' H' F4 H4:=(e2.trans e3).trans e4;cases b with
  |true =>
   rw [if_pos rfl]at p4 ⊢;rw [assoc]at p4;obtain ⟨y,hy,p5⟩:=pZ (P:=λ_=>True) p4
   refine ⟨F4,ρ1,fp3,S3.ext e4,?_⟩;rw [hy];intro v F5 H5 fy e5 r5 w5;by_cases hl:xs.length<BIG
   ·rw [if_pos hl]at p5
    have e25:=e24.trans e5;have hD5:H5 D=some (.lst acc):=e25.hh _ _ hacc;have fD5:F5 D=none:=e25.nw D (bF hacc) fD';have yD:∀a∈fy,a≠D:=λa m=>by
     rintro rfl;have:=e24.hh _ _ hacc;rw [w5 _ m]at this;cases this
    have rx5:=rx.ext e25;refine ⟨hD5,by rw [rx.own.len];exact pU hl,F5,xs++[y],fx++fy,aZ,fD5,⟨e'.ff.trans e25.ff,λa o q=>?_,λa o q=>?_,λa q z=>e25.nw a (e'.hh.dom q) (e'.nw a q z)⟩,⟨?_,?_,?_⟩,?_,p5⟩
    ·rw [az (aU q hD)]
     exact e25.hh _ _ (e'.hh _ _ q)
    ·rw [az (aU q fD5)]
     exact e5.fh _ _ q
    ·have q1:OwnL M.K F5 (upd H5 D (.lst (acc++[v]))) acc xs fx:=rx5.own.mono (aB.refl _) λa m o q=>by
      rw [az (wx a m).2];exact q
     have q2:Own M.K F5 (upd H5 D (.lst (acc++[v]))) v y fy:=r5.own.mono (aB.refl _) λa m o q=>by
      rw [az (yD a m)];exact q
     have q3:=OwnL.app q1 (OwnL.cons q2 .nil);rw [Zx]at q3;exact q3
    ·refine ZK.mpr ⟨rx.nd,r5.nd,λa m b m' z=>?_⟩
     subst z;obtain ⟨o,q⟩:=rx.own.dom a m;have:=e24.hh _ _ q;rw [w5 a m']at this;cases this
    ·intro a m
     rcases Zs.mp m with m | m
     ·exact rx5.fr a m
     ·exact r5.fr a m
    ·intro a m
     rcases Zs.mp m with m | m
     ·exact wx a m
     ·exact ⟨(e'.trans e24).hh.free (w5 a m),yD a m⟩
   ·rw [if_neg hl]at p5
    exact p5.elim
  |false =>
   rw [if_neg Zm]at p4 ⊢;exact ⟨F4,xs,fx,e24.hh _ _ hacc,e24.nw D (bF hacc) fD',e'.trans e24,rx.ext e24,wx,p4⟩
 ·have e:i=ds.length:=by lia
  subst e;rw [List.drop_length]at p';have q:OkE M F H Q (.ol xs):=p';refine .inl ⟨w2 (Zn _),q (.ref D) F' H' (D :: fx) (e1.trans e') ⟨.ol hacc rx.own,List.nodup_cons.mpr ⟨λm=>(wx D m).2 rfl,rx.nd⟩,λa m=>?_⟩ λa m=>?_⟩
  ·rcases Zo.mp m with rfl | m
   ·exact fD'
   ·exact rx.fr a m
  ·rcases Zo.mp m with rfl | m
   ·exact e1.hh.free hD
   ·exact e1.hh.free (wx a m).1
theorem xC {vs:List V} {xs:List OD} {f:List Addr} {G:Hp} (o:OwnL K F H vs xs f) (e:xs.all (λy=>flat y.er)=true):OwnL K G H1 vs (xs.map λy=>.sh y.er) []:=by
 induction xs generalizing vs f with
 |nil=>cases o;exact .nil
 |cons x r0 ih =>
 cases o with
 |cons h r =>
  rw [List.all_cons,Zv]at e;rw [Zk];refine .cons (f:=[]) (g:=[]) (.sh ?_) (ih r e.2);cases h with
  |sh q =>
   rw [cq]at e ⊢;exact rh e.1 q
  |ol _ _ =>
   rw [gk]at e;exact absurd e.1 (by simp [flat])
  |ot _ _ =>
   rw [xb]at e;exact absurd e.1 (by simp [flat])
  |od _ _ _ =>
   rw [yL]at e;exact absurd e.1 (by simp [flat,dD])
  |oi _ _ _ =>
   rw [lK]at e;exact absurd e.1 (by simp [flat,jN])
  |pl _ _ =>
   rw [tm]at e;exact absurd e.1 (by simp [flat])
theorem BY {fa:Fe} {Q:VK} (h:tD M n (md fa) σ H Q):tD M n fa σ H Q:=by
 obtain ⟨F,ρ,fp,S,p⟩:=h;refine ⟨H,erase ρ,[],S.erase,(aw.bind p).nofp.mono λx px v F1 H1 fx e1 r1 w1=>?_⟩
 cases x with
 |sh d=>exact px.elim
 |ot xs=>exact px.elim
 |od xs=>exact px.elim
 |oi _ _ _=>exact px.elim
 |pl _ _=>exact px.elim
 |ol xs =>
  have px':aw M H fp (OkE M F H Q) (if xs.all (λy=>flat y.er)=true then .ok (.ol (xs.map λy=>.sh y.er)) else .bad):=px
  by_cases hf:xs.all (λy=>flat y.er)=true
  ·rw [if_pos hf]at px'
   obtain ⟨ro,rn,rf⟩:=r1;cases ro with
   |@ol a vs _ f h1 h2 =>
    have na:H a=none:=w1 a Zf;refine px' (.ref a) F H1 [a] ⟨aB.refl _,e1.hh,S.same.trans e1.hh,λ_ _ z=>z⟩ ⟨.ol h1 (xC h2 hf),by simp,λb m=>?_⟩ λb m=>?_
    ·have:b=a:=by simpa using m
     rw [this];exact S.same.free na
    ·have:b=a:=by simpa using m
     rw [this];exact na
  ·rw [if_neg hf]at px'
   exact px'.elim
end
section
variable {M:Mx} {n:Nat} {F H F1 H1:Hp} {σ:St} {ρ:Env} {fp:List Addr} {D:Ends} {K:PySem.W.Frag}
theorem iy {p f q f':List Addr} (h:(p++(f++q)).Nodup) (h':f'.Nodup) (s:∀c∈f',c∈f\/c∉p++(f++q)):(p++(f'++q)).Nodup:=by
 simp only [ZK,Zs]at h s ⊢;obtain ⟨n1,⟨n2,n3,n4⟩,n5⟩:=h;refine ⟨n1,⟨h',n3,λa ha b hb e=>?_⟩,λa ha b hb e=>?_⟩
 ·subst e
  rcases s a ha with z | z
  ·exact n4 a z a hb rfl
  ·exact z (.inr (.inr hb))
 ·subst e
  rcases hb with hb | hb
  ·rcases s a hb with z | z
   ·exact n5 a ha a (.inl z) rfl
   ·exact z (.inl ha)
  ·exact n5 a ha a (.inr hb) rfl
theorem OwnL.at:∀{vs:List V} {xs:List OD} {g:List Addr} {i:Nat} {x:OD},OwnL K F H vs xs g->xs[i]?=some x ->
  ∃v f g1 g2,vs[i]?=some v/\Own K F H v x f/\g=g1++(f++g2)/\∀(F' H':Hp),aB F F'->(∀a∈g1++g2,∀o,H a=some o->H' a=some o)->∀v' x' f',Own K F' H' v' x' f'->OwnL K F' H' (vs.set i v') (xs.set i x') (g1++(f'++g2))
 |_,_,_,_,_,.nil,e=>by simp at e
 |_,_,_,0,x,.cons (f:=f) (g:=g) h r,e=>by
  simp at e
  subst e;exact ⟨_,f,[],g,rfl,h,rfl,λF' H' s k v' x' f' o=>OwnL.cons (f:=f') (g:=g) o (r.mono s k)⟩
 |_,_,_,i+1,x,.cons (f:=f0) h r,e=>by
  obtain ⟨v,f,g1,g2,h1,h2,h3,h4⟩:=OwnL.at (i:=i) r (by simpa using e)
  refine ⟨v,f,f0++g1,g2,by simpa using h1,h2,by rw [h3,ZD],λF' H' s k v' x' f' o=>?_⟩
  rw [ZD];exact .cons (h.mono s λa m=>k a (Zw _ (Zw _ m))) (h4 F' H' s (λa m=>k a (by simp at m ⊢;rcases m with m | m <;> simp [m])) v' x' f' o)
theorem iQ {σ:St} {i:Nat} {v:V} (h1:σ[i]?=some (some v)):σ.set i (some v)=σ:=by
 apply List.ext_getElem?
 intro j;by_cases hj:i=j
 ·subst hj
  rw [h1,List.getElem?_set_self (Zb.mp h1).1]
 ·rw [List.getElem?_set_ne hj]
theorem Stt.write (S:Stt K n F H σ ρ fp) {i:Nat} {xs:List OD} (hx:ρ[i]?=some (some (.ol xs))) :
  ∃a vs f,σ[i]?=some (some (.ref a))/\H a=some (.lst vs)/\OwnL K F H vs xs f/\f.Nodup/\(∀b∈f,F b=none) /\
   ∀F1 H1 vs' xs' f',Ext F H F1 H1->OwnL K F1 H1 vs' xs' f'->f'.Nodup->(∀b∈f',b∈f\/H b=none)->(∀b∈f',F1 b=none) ->
    ∃fp',Stt K n F1 (upd H1 a (.lst vs')) σ (ρ.set i (some (.ol xs'))) fp'/\Stp F H fp F1 (upd H1 a (.lst vs')) fp'/\(∀b∈fp',b∈fp\/b∈f'):=by
 obtain ⟨v,f0,g1,g2,h1,h2,rfl,h4⟩:=S.own.at hx;cases h2 with
 |@ol a vs _ f ha hv =>
  have nd:=S.nd;have nd':=nd;simp only [ZK,Zs,List.cons_append,List.nodup_cons,Zo]at nd';obtain ⟨n1,⟨na,n2,n3,n4⟩,n5⟩:=nd';refine ⟨a,vs,f,h1,ha,hv,n2,λb m=>S.fr b (by simp [m]),λF1 H1 vs' xs' f' e o nf sub ff=>?_⟩
  have fa:F1 a=none:=e.nw a (bF ha) (S.fr a (by simp))
  have hne:∀b∈f',b≠a:=λb m=>by
   rintro rfl;rcases sub b m with z | z
   ·exact na (.inl z)
   ·rw [ha]at z
    cases z
  have hs:∀c∈f',c∈f\/c∉(g1++[a])++(f++g2):=λc m=>by
   rcases sub c m with z | z
   ·exact .inl z
   ·refine .inr λw=>?_
    obtain ⟨o,q⟩:=S.own.dom c (by simp at w ⊢;exact w)
    rw [z]at q;cases q
  have nd2:=iy (p:=g1++[a]) (f:=f) (q:=g2) (f':=f') (by simpa using nd) nf hs
  have own:=h4 F1 (upd H1 a (.lst vs')) e.ff (λb m o q=>by
   have:b≠a:=by
    rintro rfl;rcases Zs.mp m with m | m
    ·exact n5 b m b (.inl rfl) rfl
    ·exact na (.inr m)
   rw [az this];exact e.hh _ _ q) (.ref a) (.ol xs') (a :: f') (.ol aZ (o.mono (aB.refl _) λb m o q=>by rw [az (hne b m)];exact q))
  rw [iQ h1]at own;have frs:∀b∈g1++(a :: f++g2),F1 b=none:=λb m=>let ⟨_,q⟩:=S.own.dom b m;e.nw b (bF q) (S.fr b m)
  refine ⟨g1++(a :: f'++g2),⟨?_,own,by simpa using nd2,λb m=>?_,by rw [ZJ];exact S.len⟩,⟨e.ff,λb o q m=>?_,λb m=>?_,λb q m z=>e.nw b q z⟩,λb m=>?_⟩
  ·intro b o q
   rw [az (aU q fa)];exact e.fh _ _ q
  ·simp only [Zs,Zo]at m
   rcases m with m | (rfl | m) | m
   ·exact frs b (by simp [m])
   ·exact fa
   ·exact ff b m
   ·exact frs b (by simp [m])
  ·have:b≠a:=by
    rintro rfl;exact m (by simp)
   rw [az this];exact e.hh _ _ q
  ·simp only [Zs,Zo]at m ⊢
   rcases m with m | (m | m) | m
   ·exact .inl (.inl m)
   ·exact .inl (.inr (.inl (.inl m)))
   ·rcases sub b m with z | z
    ·exact .inl (.inr (.inl (.inr z)))
    ·exact .inr z
   ·exact .inl (.inr (.inr m))
  ·simp only [Zs,Zo]at m ⊢
   rcases m with m | (m | m) | m <;> simp [m]
theorem OwnL.snoc {vs:List V} {xs:List OD} {f g:List Addr} {v:V} {y:OD} (h:OwnL K F H vs xs f) (o:Own K F H v y g):OwnL K F H (vs++[v]) (xs++[y]) (f++g):=by
 have:=OwnL.app h (OwnL.cons o .nil);rw [Zx]at this;exact this
theorem Ih {i:Nat} {a:Fe} (h:tS M n (nV i a) D σ H):jb (tBM M.K "list" l7 (d9 i) (fv (tD M n a) nT)) D σ H:=by
 obtain ⟨F,ρ,fp,S,p⟩:=h;unfold nV at p;split at p
 ·rename_i xs e
  obtain ⟨l,vs,f,h1,h2,h3,nf,ff,wr⟩:=S.write e;refine ⟨_,h1,.inl ⟨rfl,vs,SqL.of h2⟩,F,ρ,fp,S,(aw.bind p).mono λy py v F1 H1 fy e1 r1 w1=>?_⟩
  by_cases hl:xs.length<BIG
  ·rw [if_pos hl]at py
   refine ⟨l,vs,v,rfl,rfl,e1.hh _ _ h2,by rw [h3.len];exact pU hl,?_⟩
   have o:OwnL M.K F1 H1 (vs++[v]) (xs++[y]) (f++fy):=(h3.mono e1.ff λb _ o q=>e1.hh _ _ q).snoc r1.own
   obtain ⟨fp',S',st,_⟩:=wr F1 H1 _ _ _ e1 o (ZK.mpr ⟨nf,r1.nd,λb m c m' z=>by
    subst z;obtain ⟨o,q⟩:=h3.dom b m;rw [w1 b m']at q;cases q⟩) (λb m=>(Zs.mp m).elim .inl λm=>.inr (w1 b m)) (λb m=>(Zs.mp m).elim (λm=>let ⟨_,q⟩:=h3.dom b m;e1.nw b (bF q) (ff b m)) (r1.fr b))
   exact py σ F1 _ fp' S' st
  ·rw [if_neg hl]at py
   exact py.elim
 ·exact p.elim
theorem GJ {i:Nat} (h:tS M n (uJ i) D σ H):jb (w_ M.K "list" rM (d9 i)) D σ H:=by
 obtain ⟨F,ρ,fp,S,p⟩:=h;unfold uJ at p;split at p
 ·rename_i xs e
  obtain ⟨l,vs,f,h1,h2,h3,nf,ff,wr⟩:=S.write e;obtain ⟨fp',S',st,_⟩:=wr F H [] [] [] (Ext.refl S.same) .nil List.nodup_nil (λb m=>by cases m) λb m=>by cases m
  exact ⟨_,h1,.inl ⟨rfl,vs,SqL.of h2⟩,l,vs,rfl,rfl,h2,p σ F _ fp' S' st⟩
 ·exact p.elim
theorem OwnL.last {d:PyData} {vs:List V} {xs:List OD} {f:List Addr} (o:OwnL K F H vs xs f) (e:xs.getLast?=some (.sh d)):∃v,vs[vs.length-1]?=some v/\Rep K F v d/\OwnL K F H vs.dropLast xs.dropLast f:=by
 induction xs generalizing vs f with
 |nil=>simp at e
 |cons a0 r0 ih0 =>
 cases o with
 |cons h r =>
  have ih:=ih0 r;cases r with
  |nil =>
   cases h with
   |sh h =>
    simp at e
    subst e;exact ⟨_,rfl,h,.nil⟩
   |ol _ _=>simp at e
   |ot _ _=>simp at e
   |od _ _ _=>simp at e
   |oi _ _ _=>simp at e
   |pl _ _=>simp at e
  |cons h' r =>
   obtain ⟨v,h1,h2,h3⟩:=ih (by simpa using e)
   exact ⟨v,by simpa using h1,h2,.cons h h3⟩
theorem s_pop {i:Nat} {is:List Nat} {g:Fg} (h:tS M n (vK i g) D σ H):pQ (w_ M.K "list" GH (d9 i)) (tG M n is g) D σ H:=by
 obtain ⟨F,ρ,fp,S,p⟩:=h;unfold vK at p;split at p
 ·rename_i xs e
  split at p
  ·rename_i d hd
   obtain ⟨l,vs,f,h1,h2,h3,nf,ff,wr⟩:=S.write e;obtain ⟨v,v1,v2,v3⟩:=h3.last hd;obtain ⟨fp',S',st,_⟩:=wr F H _ _ f (Ext.refl S.same) v3 nf (λb m=>.inl m) ff
   have st':Stp F H fp F (upd H l (.lst vs.dropLast)) (fp'++[]):=by
    rw [Zx];exact st
   exact ⟨_,h1,.inl ⟨rfl,vs,SqL.of h2⟩,l,vs,v,rfl,rfl,h2,v1,F,_,fp',.sh d,[],S',Res.sh v2,(λ_ m=>by cases m),((aw.bind p).stp st').mono fun ρ' hρ σ' F' H' fp2 S2 s2 _=>hρ σ' F' H' fp2 S2 (st'.trans s2)⟩
  ·exact p.elim
 ·exact p.elim
theorem Ez {k:Nat} {q:Int} {j:Nat} (h:ixN k q=some j):j<k:=by
 unfold ixN at h;split at h
 ·split at h
  ·cases h
   lia
  ·cases h
 ·split at h
  ·cases h
   lia
  ·cases h
theorem G7 {i:Nat} {a k:Fe} (h:tS M n (uV i k a) D σ H):pQ (tD M n a) (CT (d9 i) (tD M n k) yX) D σ H:=by
 obtain ⟨F,ρ,fp,S,p⟩:=h;unfold uV at p;split at p
 ·rename_i xs e
  refine ⟨F,ρ,fp,S,(aw.bind p).mono λy py v F1 H1 fy e1 r1 w1=>?_⟩
  obtain ⟨l,vs,f,h1,h2,h3,nf,ff,wr⟩:=S.write e;refine ⟨_,h1,F1,ρ,fp,S.ext e1,((aw.bind py).ext e1).mono λz pz u F2 H2 fz e2 r2 w2=>?_⟩
  obtain ⟨G2,d2,k2⟩:=r2.frz e2 w2;generalize z.er=dz at pz k2
  cases dz with
  |int q =>
   cases k2;have pz':aw M H fp (eG M n F H fp D) (match ixN xs.length q with | some j=>.ok (.nx (ρ.set i (some (.ol (xs.set j y))))) | none=>.bad):=pz
   cases hj:ixN xs.length q with
   |none =>
    rw [hj]at pz';exact pz'.elim
   |some j =>
    rw [hj]at pz';have e12:=e1.trans d2;have hjl:=Ez hj;refine ⟨l,vs,q,j,rfl,rfl,e12.hh _ _ h2,by rw [h3.len];exact hj,?_⟩
    obtain ⟨x,hx⟩:∃x,xs[j]?=some x:=⟨xs[j],by simp [hjl]⟩
    obtain ⟨v0,f0,g1,g2,b1,b2,b3,b4⟩:=h3.at hx;subst b3;have o:=b4 G2 H2 e12.ff (λb m o q=>e12.hh _ _ q) v y fy (r1.ext d2).own
    have sub:∀b∈g1++(fy++g2),b∈g1++(f0++g2)\/H b=none:=λb m=>by
     simp only [Zs]at m ⊢;rcases m with m | m | m
     ·exact .inl (.inl m)
     ·exact .inr (w1 b m)
     ·exact .inl (.inr (.inr m))
    obtain ⟨fp',S',st,_⟩:=wr G2 H2 _ _ _ e12 o (iy nf r1.nd λc m=>.inr λw=>by
     obtain ⟨o,q⟩:=h3.dom c w;rw [w1 c m]at q;cases q) sub (λb m=>by
      simp only [Zs]at m;rcases m with m | m | m
      ·exact let ⟨_,q⟩:=h3.dom b (by simp [m]);e12.nw b (bF q) (ff b (by simp [m]))
      ·exact (r1.ext d2).fr b m
      ·exact let ⟨_,q⟩:=h3.dom b (by simp [m]);e12.nw b (bF q) (ff b (by simp [m])))
    exact pz' σ G2 _ fp' S' st
  |none=>exact pz.elim
  |bool _=>exact pz.elim
  |str _=>exact pz.elim
  |list _=>exact pz.elim
  |tuple _=>exact pz.elim
  |dict _=>exact pz.elim
 ·exact p.elim
theorem Stt.write2 (S:Stt K n F H σ ρ fp) {i:Nat} {o:OD} {l:Bool} {xs:List OD} {j:Nat} {ys:List OD} (hx:ρ[i]?=some (some o)) (hc:comps o=some (l,xs)) (hj:xs[j]?=some (.ol ys)) :
  ∃a vs b ws f,σ[i]?=some (some (.ref a))/\H a=some (if l=true then .lst vs else .tup vs)/\vs.length=xs.length/\vs[j]?=some (.ref b)/\H b=some (.lst ws)/\OwnL K F H ws ys f/\f.Nodup/\(∀c∈f,F c=none) /\
   ∀F1 H1 ws' ys' f',Ext F H F1 H1->OwnL K F1 H1 ws' ys' f'->f'.Nodup->(∀c∈f',c∈f\/H c=none)->(∀c∈f',F1 c=none) ->
    ∃fp',Stt K n F1 (upd H1 b (.lst ws')) σ (ρ.set i (some (wrap l (xs.set j (.ol ys'))))) fp'/\Stp F H fp F1 (upd H1 b (.lst ws')) fp':=by
 obtain ⟨v,f0,g1,g2,h1,h2,rfl,h4⟩:=S.own.at hx;obtain ⟨a,vs,g,ha,hv,rfl,rfl,mk⟩:∃a vs g,H a=some (if l=true then .lst vs else .tup vs)/\OwnL K F H vs xs g/\v=.ref a/\f0=a :: g/\∀F' H' vs' xs' g',H' a=some (if l=true then .lst vs' else .tup vs')->OwnL K F' H' vs' xs' g'->Own K F' H' (.ref a) (wrap l xs') (a :: g'):=by
  cases h2 with
  |sh r =>
   cases hc
  |od _ _ _ =>
   cases hc
  |oi _ _ _ =>
   cases hc
  |pl _ _ =>
   cases hc
  |@ol a vs _ g ha hv =>
   cases hc;exact ⟨a,vs,g,ha,hv,rfl,rfl,λF' H' vs' xs' g' q r=>.ol q r⟩
  |@ot a vs _ g ha hv =>
   cases hc;exact ⟨a,vs,g,ha,hv,rfl,rfl,λF' H' vs' xs' g' q r=>.ot q r⟩
 obtain ⟨u,f1,k1,k2,b1,b2,b3,b4⟩:=hv.at hj;cases b2 with
 |@ol b ws _ f hb hw =>
  subst b3;have nd:((g1++(a :: (k1++[b])))++(f++(k2++g2))).Nodup:=by simpa using S.nd
  have nd':=nd;simp only [ZK,Zs,List.cons_append,List.nodup_cons,Zo,ZD,List.nil_append,List.not_mem_nil,or_false]at nd';have inL:∀c,c∈(g1++(a :: (k1++[b])))++(f++(k2++g2)) ↔ c∈g1++(a :: (k1++(b :: f++k2))++g2):=λc=>by simp
  refine ⟨a,vs,b,ws,f,h1,ha,hv.len,b1,hb,hw,?_,λc m=>S.fr c (by simp [m]),λF1 H1 ws' ys' f' e o nf sub ff=>?_⟩
  ·simp only [ZK]at nd
   exact nd.2.1.1
  have hs:∀c∈f',c∈f\/c∉(g1++(a :: (k1++[b])))++(f++(k2++g2)):=λc m=>by
   rcases sub c m with z | z
   ·exact .inl z
   ·refine .inr λw=>?_
    obtain ⟨o,q⟩:=S.own.dom c ((inL c).mp w);rw [z]at q;cases q
  have nd2:=iy nd nf hs;have eq2:(g1++(a :: (k1++[b])))++(f'++(k2++g2))=g1++(a :: (k1++(b :: f'++k2))++g2):=by simp
  have frs:∀c∈g1++(a :: (k1++(b :: f++k2))++g2),F1 c=none:=λc m=>let ⟨_,q⟩:=S.own.dom c m;e.nw c (bF q) (S.fr c m)
  have fb:F1 b=none:=frs b (by simp)
  have nb:∀c,c∈g1\/c=a\/c∈k1\/c∈f'\/c∈k2\/c∈g2->c≠b:=λc hc=>by
   rintro rfl;have nd3:=nd2;simp only [ZD,List.cons_append,List.nil_append]at nd3;have q:(g1++a :: (k1++c :: (f'++(k2++g2))))=(g1++a :: k1)++c :: (f'++(k2++g2)):=by simp
   rw [q,ZK]at nd3;obtain ⟨_,y2,y3⟩:=nd3;rw [List.nodup_cons]at y2;have y4:∀d,d∈g1++a :: k1->d≠c:=λd hd z=>y3 d hd d (by rw [z];exact Zf) rfl
   rcases hc with h | h | h | h | h | h
   ·exact y4 c (by simp [h]) rfl
   ·exact y4 a (by simp) h.symm
   ·exact y4 c (by simp [h]) rfl
   ·exact y2.1 (by simp [h])
   ·exact y2.1 (by simp [h])
   ·exact y2.1 (by simp [h])
  have hkeep:∀c o,c≠b->H c=some o->upd H1 b (.lst ws') c=some o:=λc o hc q=>by
   rw [az hc];exact e.hh _ _ q
  have o1:Own K F1 (upd H1 b (.lst ws')) (.ref b) (.ol ys') (b :: f'):=.ol aZ (o.mono (aB.refl _) λc m o q=>by rw [az (nb c (by simp [m]))];exact q)
  have o2:=b4 F1 (upd H1 b (.lst ws')) e.ff (λc m o q=>hkeep c o (nb c (by simp only [Zs]at m;rcases m with m | m <;> simp [m])) q) _ _ _ o1
  have vb:vs.set j (.ref b)=vs:=by
   apply List.ext_getElem?
   intro t;by_cases ht:j=t
   ·subst ht
    rw [b1,List.getElem?_set_self (Zb.mp b1).1]
   ·rw [List.getElem?_set_ne ht]
  rw [vb]at o2;have o3:=mk F1 (upd H1 b (.lst ws')) vs _ _ (hkeep a _ (nb a (by simp)) ha) o2
  have own:=h4 F1 (upd H1 b (.lst ws')) e.ff (λc m o q=>hkeep c o (nb c (by simp only [Zs]at m;rcases m with m | m <;> simp [m])) q) _ _ _ o3
  rw [iQ h1]at own;refine ⟨_,⟨?_,own,by rw [<-eq2];exact nd2,λc m=>?_,by rw [ZJ];exact S.len⟩,⟨e.ff,λc o q m=>?_,λc m=>?_,λc q m z=>e.nw c q z⟩⟩
  ·intro c o q
   rw [az (aU q fb)];exact e.fh _ _ q
  ·simp only [Zs,Zo]at m
   rcases m with m | (m | m | (m | m) | m) | m
   ·exact frs c (by simp [m])
   ·exact frs c (by simp [m])
   ·exact frs c (by simp [m])
   ·exact frs c (by simp [m])
   ·exact ff c m
   ·exact frs c (by simp [m])
   ·exact frs c (by simp [m])
  ·have:c≠b:=by
    rintro rfl;exact m (by simp)
   exact hkeep c o this q
  ·simp only [Zs,Zo]at m ⊢
   rcases m with m | (m | m | (m | m) | m) | m
   ·simp [m]
   ·simp [m]
   ·simp [m]
   ·simp [m]
   ·rcases sub c m with z | z
    ·simp [z]
    ·exact .inr z
   ·simp [m]
   ·simp [m]
theorem Ae {i:Nat} {k a:Fe} (h:tS M n (kX i k a) D σ H):jb (tBM M.K "list" l7 (tOp (yx M.K) (d9 i) (tD M n k)) (fv (tD M n a) nT)) D σ H:=by
 obtain ⟨F,ρ,fp,S,p⟩:=h;unfold kX at p;split at p
 ·rename_i xs e
  have hc:comps (.ol xs)=some (true,xs):=rfl;obtain ⟨v0,_,_,_,h0,own0,_,_⟩:=S.own.at e;refine ⟨v0,h0,F,ρ,fp,S,(aw.bind p).mono λz pz u F1 H1 fz e1 r1 w1=>?_⟩
  obtain ⟨G1,d1,k1⟩:=r1.frz e1 w1;generalize z.er=dz at pz k1
  cases dz with
  |int q =>
   cases k1;have pz':aw M H fp (eG M n F H fp D) (match ixN xs.length q with
    |some j=>match xs[j]? with
     |some (.ol ys)=>(a ρ).bind λy=>if ys.length<BIG then .ok (.nx (ρ.set i (some (.ol (xs.set j (.ol (ys++[y]))))))) else .bad
     |_=>.bad
    |none=>.bad):=pz
   cases hj:ixN xs.length q with
   |none =>
    rw [hj]at pz';exact pz'.elim
   |some j =>
    rw [hj]at pz';have pz2:aw M H fp (eG M n F H fp D) (match xs[j]? with
     |some (.ol ys)=>(a ρ).bind λy=>if ys.length<BIG then .ok (.nx (ρ.set i (some (.ol (xs.set j (.ol (ys++[y]))))))) else .bad
     |_=>.bad):=pz'
    split at pz2
    ·rename_i ys hy
     obtain ⟨b0,vs,b,ws,f,h1,ha,hl,hb1,hb,hw,nf,ff,wr⟩:=(S.ext d1).write2 e hc hy;rw [h0]at h1;cases h1;have at1:atI vs q=some (.ref b):=by
      unfold atI;rw [hl,hj];exact hb1
     refine ⟨b0,vs,q,.ref b,rfl,rfl,SqL.of ha,at1,.inl ⟨rfl,ws,SqL.of hb⟩,G1,ρ,fp,S.ext d1,((aw.bind pz2).ext d1).mono λy py v F2 H2 fy e2 r2 w2=>?_⟩
     by_cases hlt:ys.length<BIG
     ·rw [if_pos hlt]at py
      refine ⟨b,ws,v,rfl,rfl,e2.hh _ _ hb,by rw [hw.len];exact pU hlt,?_⟩
      have o:OwnL M.K F2 H2 (ws++[v]) (ys++[y]) (f++fy):=(hw.mono e2.ff λc _ o q=>e2.hh _ _ q).snoc r2.own
      obtain ⟨fp',S',st⟩:=wr F2 H2 _ _ _ e2 o (ZK.mpr ⟨nf,r2.nd,λc m d m' z=>by
       subst z;obtain ⟨o,q⟩:=hw.dom c m;rw [w2 c m']at q;cases q⟩) (λc m=>(Zs.mp m).elim .inl λm=>.inr (w2 c m)) (λc m=>(Zs.mp m).elim (λm=>let ⟨_,q⟩:=hw.dom c m;e2.nw c (bF q) (ff c m)) (r2.fr c))
      exact py σ F2 _ fp' S' (d1.stp.trans st)
     ·rw [if_neg hlt]at py
      exact py.elim
    ·exact pz2.elim
  |none=>exact pz.elim
  |bool _=>exact pz.elim
  |str _=>exact pz.elim
  |list _=>exact pz.elim
  |tuple _=>exact pz.elim
  |dict _=>exact pz.elim
 ·exact p.elim
end
end L3
namespace L3
open PySem L2 PySem.Spec PyProof.Rows
noncomputable def DE (M:Mx) (X:Cx) (e:Expr) (f:Fe):Prop:=X.K=M.K->X.mg=M.mg->PE X e (tD M X.N.length f)
noncomputable def DT (M:Mx) (X:Cx) (e:Expr) (f:Ft):Prop:=X.K=M.K->X.mg=M.mg->PT X e (tT M X.N.length f)
noncomputable def DW (M:Mx) (X:Cx) (e:Expr) (f:Ft):Prop:=X.K=M.K->X.mg=M.mg->PW X e (tT M X.N.length f)
noncomputable def DA (M:Mx) (X:Cx) (e:List Expr) (f:Fa):Prop:=X.K=M.K->X.mg=M.mg->PA X e (tA M X.N.length f)
noncomputable def DO (M:Mx) (X:Cx) (e:Option Expr) (f:Fo):Prop:=X.K=M.K->X.mg=M.mg->PO X e (tO M X.N.length f)
noncomputable def DI (M:Mx) (X:Cx) (tg e:Expr) (f:Fi):Prop:=X.K=M.K->X.mg=M.mg->PI X tg e (tI M X.N.length f)
noncomputable def DG (M:Mx) (X:Cx) (tg:Expr) (is:List Nat) (f:Fg):Prop:=X.K=M.K->X.mg=M.mg->PG X tg (tG M X.N.length is f)
noncomputable def DGs (M:Mx) (X:Cx) (tg:List Expr) (is:List Nat) (f:Fgs):Prop:=X.K=M.K->X.mg=M.mg->PGs X tg (tGs M X.N.length is f)
noncomputable def DF (M:Mx) (X:Cx) (e:List Expr) (f:Ft):Prop:=X.K=M.K->X.mg=M.mg->PF X e (tT M X.N.length f)
noncomputable def DS (M:Mx) (X:Cx) (st:Stmt) (f:Fs):Prop:=X.K=M.K->X.mg=M.mg->PS X st (tS M X.N.length f)
noncomputable def DSs (M:Mx) (X:Cx) (st:List Stmt) (f:Fs):Prop:=X.K=M.K->X.mg=M.mg->PSs X st (tS M X.N.length f)
section
variable {M:Mx} {X:Cx} {e a b c:Expr} {es:List Expr} {pos:Pos} {fa fb:Fe} {ta tb:Ft} {al:Fa}
theorem peI {t t':TE} (h:PE X e t) (k:∀σ H Q,t' σ H Q->t σ H Q):PE X e t':=λpins s σ H Q I q=>h pins s σ H Q I (k σ H Q q)
theorem ptI {t t':TT} (h:PT X e t) (k:∀σ H Q,t' σ H Q->t σ H Q):PT X e t':=λpins s σ H Q I q=>h pins s σ H Q I (k σ H Q q)
theorem pwI {t t':TT} (h:PW X e t) (k:∀σ H Q,t' σ H Q->t σ H Q):PW X e t':=λw pins s σ H Q I q=>h w pins s σ H Q I (k σ H Q q)
theorem paI {t t':TA} (h:PA X es t) (k:∀σ H Q,t' σ H Q->t σ H Q):PA X es t':=λps pins s σ H Q I q=>h ps pins s σ H Q I (k σ H Q q)
theorem poI {o:Option Expr} {t t':TO} (h:PO X o t) (k:∀σ H Q,t' σ H Q->t σ H Q):PO X o t':=λpins s σ H Q I q=>h pins s σ H Q I (k σ H Q q)
theorem psI {st:Stmt} {t t':TS} (h:PS X st t) (k:∀D σ H,t' D σ H->t D σ H):PS X st t':=λpins s σ H D I q=>h pins s σ H D I (k D σ H q)
theorem Ar {st:List Stmt} {t t':TS} (h:PSs X st t) (k:∀D σ H,t' D σ H->t D σ H):PSs X st t':=λpins s σ H D I q=>h pins s σ H D I (k D σ H q)
theorem aa (i:Nat) {x:Str} (hN:X.N[i]?=some x:=by rfl) (hv:Vis X.env.scope x:=by first | exact Or.inl rfl | exact Or.inr (Or.inl rfl) | exact Or.inr (Or.inr rfl)) (hd:(x == ("__debug__" : Str))=false:=by decide)
  (hcd:(x == ("__classdict__" : Str))=false:=by decide):DE M X (.Name x pos) (af i):=λ_ _=>peI (a9 hN hv hd hcd) λ_ _ _ h=>GU h
theorem aq {i:Int} {j}:DE M X (.Constant (.int i) j pos) (eC (.int i)):=λ_ _=>peI kW λ_ _ _ h=>d_c (λ_ _=>.int i) h
theorem cG {i:Bool} {j}:DE M X (.Constant (.bool i) j pos) (eC (.bool i)):=λ_ _=>peI yH λ_ _ _ h=>d_c (λ_ _=>.bl i) h
theorem cM {x:Str} {j}:DE M X (.Constant (.str x) j pos) (eC (.str x)):=λ_ _=>peI yf λ_ _ _ h=>d_c (λ_ _=>.str x) h
theorem cZ (h:DE M X e fa):DE M X e (eSh fa):=λhK hM=>peI (h hK hM) λ_ _ _ q=>wQ q
theorem wc (h:DE M X e fa):DE M X e (xN fa):=λhK hM=>peI (h hK hM) λ_ _ _ q=>FH q
theorem sX (h:DE M X e fa):DE M X e (md fa):=λhK hM=>peI (h hK hM) λ_ _ _ q=>BY q
theorem sJ (h:DT M X e ta):DT M X e (u7 ta):=λhK hM=>ptI (h hK hM) λ_ _ _ q=>Cm q
theorem a_ {op:Operator} {r:R2} {g:PyData->PyData->R OD} (ho:OpR X (binaryOp op) r) (hg:X.K=M.K->Ok2 M r g) (ha:DE M X a fa) (hb:DE M X b fb):DE M X (.BinOp a op b pos) (eOp g fa fb):=λhK hM =>
 peI (BE ho (ha hK hM) (hb hK hM)) λ_ _ _ q=>xG (hg hK) q
theorem jG {op:UnaryOp} {r:V->Hp->VK->Prop} {g:PyData->R OD} (ho:UnR X (unaryOp op) r) (hg:X.K=M.K->Ok1 M r g) (ha:DE M X a fa):DE M X (.UnaryOp op a pos) (eUn g fa):=λhK hM =>
 peI (GZ ho (ha hK hM)) λ_ _ _ q=>Jb (hg hK) q
theorem eQ {op:CmpOp} {r:R2} {g:PyData->PyData->R OD} (ho:OpR X (compareOp op) r) (hg:X.K=M.K->Ok2 M r g) (ha:DE M X a fa) (hb:DE M X b fb) (hm:behindInMarks op b=false):DE M X (.Compare a [op] [b] pos) (eOp g fa fb):=λhK hM =>
 peI (zQ ho (ha hK hM) (hb hK hM) hm) λ_ _ _ q=>xG (hg hK) q
theorem aR {op:CmpOp} {r:R2} {g:PyData->PyData->R OD} (ho:OpR X (compareOp op) r) (hg:X.K=M.K->Ok2 M r g) (ha:DE M X a fa) (hb:DE M X b fb) (hm:behindInMarks op b=false):DT M X (.Compare a [op] [b] pos) (ay (eOp g fa fb)):=λhK hM =>
 ptI (qm ho (ha hK hM) (hb hK hM) hm) fun σ H Q q=>by
  obtain ⟨F,ρ,fp,S,p⟩:=wb q;exact xG (hg hK) ⟨F,ρ,fp,S,p⟩
theorem bG (h:DE M X e fa) (he:∀whole,isTrue e X.env whole=(do let v <-whole;standAt e.pos;holding [v] (truthy v)):=by intro _;rfl):DT M X e (ay fa):=λhK hM=>ptI (yN (h hK hM) he) λ_ _ _ q=>d_b q
theorem ez (h:DT M X a ta):DT M X (.UnaryOp .Not a pos) (dX ta):=λhK hM=>ptI (yw (h hK hM)) λ_ _ _ q=>Ef q
theorem zJ (h:DT M X a ta):DW M X (.BoolOp .And [a] pos) ta:=λhK hM=>Az (h hK hM)
theorem iA (h:DT M X a ta):DW M X (.BoolOp .Or [a] pos) ta:=λhK hM=>xB (h hK hM)
theorem CS {rest:List Expr} (h:DT M X a ta) (k:DW M X (.BoolOp .And (b :: rest) pos) tb):DW M X (.BoolOp .And (a :: b :: rest) pos) (qz ta tb):=λhK hM=>pwI (Dy (h hK hM) (k hK hM)) λ_ _ _ q=>EG q
theorem kH {rest:List Expr} (h:DT M X a ta) (k:DW M X (.BoolOp .Or (b :: rest) pos) tb):DW M X (.BoolOp .Or (a :: b :: rest) pos) (kP ta tb):=λhK hM=>pwI (Bx (h hK hM) (k hK hM)) λ_ _ _ q=>GV q
theorem n9 (h:DW M X e ta):DT M X e ta:=λhK hM=>(h hK hM).pt
theorem gh {op} (h:DE M X a fa):DE M X (.BoolOp op [a] pos) fa:=λhK hM=>BW (h hK hM)
theorem gG {rest:List Expr} (h:DE M X a fa) (k:DE M X (.BoolOp .And (b :: rest) pos) fb):DE M X (.BoolOp .And (a :: b :: rest) pos) (i_ fa fb):=λhK hM=>peI (CP (h hK hM) (k hK hM)) λ_ _ _ q=>Fy q
theorem Hz {rest:List Expr} (h:DE M X a fa) (k:DE M X (.BoolOp .Or (b :: rest) pos) fb):DE M X (.BoolOp .Or (a :: b :: rest) pos) (eOr fa fb):=λhK hM=>peI (Hv (h hK hM) (k hK hM)) λ_ _ _ q=>IG q
theorem DU (h:DE M X a fa):DE M X (.UnaryOp .Not a pos) (xn fa):=λhK hM=>peI (Cq (h hK hM)) λ_ _ _ q=>FT q
theorem ao:DA M X [] au:=λ_ _=>paI gF λ_ _ _ q=>yG q
theorem ae (h:DE M X e fa) (r:DA M X es al) (hs:starEach (e :: es) X.env=(false,eval e X.env) :: starEach es X.env:=by rfl):DA M X (e :: es) (ag fa al):=λhK hM=>paI (b5 (h hK hM) (r hK hM) hs) λ_ _ _ q=>zI q
theorem i5 {x1} (h:DA M X es al):DE M X (.Tuple es x1 pos) (mO al):=λhK hM=>peI (wR (h hK hM)) λ_ _ _ q=>Im q
theorem cW (h:DA M X es al):DE M X (.List es pos) (fJ al):=λhK hM=>peI (wa (h hK hM)) λ_ _ _ q=>FA q
theorem zf:DO M X none tj:=λ_ _=>poI zd λ_ _ _ q=>Ak q
theorem kE (h:DE M X e fa):DO M X (some e) (kx fa):=λhK hM=>poI (Aj (h hK hM)) λ_ _ _ q=>zu q
theorem w4 {r:V->Option Int->Option Int->Hp->VK->Prop} {g:PyData->Option Int->Option Int->R OD} {lo hi:Option Expr} {fl fh:Fo} {p2:Pos} (hr:SlR X r) (hg:X.K=M.K->OkS M r g) (h:DE M X e fa) (hl:DO M X lo fl) (hh:DO M X hi fh) :
  DE M X (.Subscript e (.Slice lo hi none p2) pos) (eSl g fa fl fh):=λhK hM=>peI (xW hr (h hK hM) (hl hK hM) (hh hK hM)) λ_ _ _ q=>IH (hg hK) q
theorem aG {r:R2} {g:PyData->PyData->R OD} (hr:IxR X r) (hg:X.K=M.K->Ok2 M r g) (ha:DE M X a fa) (hb:DE M X b fb) (hs:kN b):DE M X (.Subscript a b pos) (eOp g fa fb):=λhK hM =>
 peI (tW hr (ha hK hM) (hb hK hM) hs) λ_ _ _ q=>xG (hg hK) q
theorem cP {id:String} {x:Str} {p:Pos} {r:List V->Hp->VK->Prop} {g:List PyData->R OD} (hc:eV X (.builtin id) r) (ho:X.K=M.K->OkC M r g) (hg:Gl X x) (hm:X.mg x=none) (hv:bootBuiltins x=some (.builtin id)) (ha:DA M X (e :: es) al)
  (hn:x ≠ "__name__" := by decide) (hdb:(x == ("__debug__" : Str))=false:=by decide) (he:starEach (e :: es) X.env=(false,eval e X.env) :: starEach es X.env:=by rfl) (hpl:(backTo pos (starEach es X.env)).any (·.1)=false:=by rfl) :
  DE M X (.Call (.Name x p) (e :: es) [] pos) (eB g al):=λhK hM=>peI (j8 hc hg hm hv (ha hK hM) hn hdb he hpl) λ_ _ _ q=>Ee (ho hK) q
theorem mm {T:String} {x:Str} {p:Pos} {r:List V->Hp->VK->Prop} {g:List PyData->R OD} (hc:eV X (.type T) r) (ho:X.K=M.K->OkC M r g) (hg:Gl X x) (hm:X.mg x=none) (hv:bootBuiltins x=some (.type T)) (ha:DA M X (e :: es) al)
  (hn:x ≠ "__name__" := by decide) (hdb:(x == ("__debug__" : Str))=false:=by decide) (he:starEach (e :: es) X.env=(false,eval e X.env) :: starEach es X.env:=by rfl) (hpl:(backTo pos (starEach es X.env)).any (·.1)=false:=by rfl) :
  DE M X (.Call (.Name x p) (e :: es) [] pos) (eB g al):=λhK hM=>peI (uF hc hg hm hv (ha hK hM) hn hdb he hpl) λ_ _ _ q=>Ee (ho hK) q
theorem aA {CX:CXT} {k:Nat} {f:Addr} {fd:FuncData} {ps:List Str} {x:Str} {p:Pos} {fn:Fn} (F:FnOk X.prog X.w M.K M.mg X.base CX k f fd ps (sp3 M.K M.mg fn)) (hr:Room k X.A) (hg:Gl X x) (hm:M.mg x=some (.ref f)) (hk:PySem.W.keepIn M.K (.ref f)=true)
  (hb:Binds M.K fd ps []) (hx:Passes CX X M.E) (ha:DA M X (e :: es) al)
  (hdb:(x == ("__debug__" : Str))=false:=by decide) (he:starEach (e :: es) X.env=(false,eval e X.env) :: starEach es X.env:=by rfl) (hpl:(backTo pos (starEach es X.env)).any (·.1)=false:=by rfl) :
  DE M X (.Call (.Name x p) (e :: es) [] pos) (aT fn al):=λhK hM=>by
 have F':FnOk X.prog X.w X.K X.mg X.base CX k f fd ps (sp3 M.K M.mg fn):=by
  rw [hK,hM];exact F
 exact peI (qj F' hr hg (by rw [hM];exact hm) (by rw [hK];exact hk) (by rw [hK];exact hb) .nil hx (ha hK hM) hdb he hpl) λ_ _ _ q=>Dk q
theorem d5 {tg:Expr} (h:DE M X e fa):DI M X tg e (gY fa):=λhK hM=>by
 have q:=zo (tg:=tg) (h hK hM);rw [hK]at q;exact λpins s σ H R' I z=>q pins s σ H R' I (BR z)
theorem EO {tg:Expr} (h:DE M X e fa):DI M X tg e (iTp fa):=λhK hM=>by
 have q:=EV (tg:=tg) (h hK hM);rw [hK]at q;exact λpins s σ H R' I z=>q pins s σ H R' I (FE z)
theorem qZ {tg:Expr} {p:Pos} (hg:Gl X "range") (hm:X.mg "range" = none) (h:DE M X a fa) (hs1:starEach [a] X.env=(false,eval a X.env) :: starEach [] X.env:=by rfl) (hs:starEach [a] X.env=[(false,eval a X.env)]:=by rfl):DI M X tg (.Call (.Name "range" p) [a] [] pos) (iR1 fa):=λhK hM =>
 λpins s σ H R' I z=>vn hg hm ((ae h ao hs1) hK hM) hs pins s σ H R' I (Jk z)
theorem Gv {tg:Expr} {p:Pos} (hg:Gl X "range") (hm:X.mg "range" = none) (h:DE M X a fa) (k:DE M X b fb) (hs1:starEach [a,b] X.env=(false,eval a X.env) :: starEach [b] X.env:=by rfl) (hs0:starEach [b] X.env=(false,eval b X.env) :: starEach [] X.env:=by rfl)
  (hs:starEach [a,b] X.env=[(false,eval a X.env),(false,eval b X.env)]:=by rfl) (hs2:starEach [b] X.env=[(false,eval b X.env)]:=by rfl):DI M X tg (.Call (.Name "range" p) [a,b] [] pos) (iR2 fa fb):=λhK hM =>
 λpins s σ H R' I z=>uW hg hm ((ae h (ae k ao hs0) hs1) hK hM) hs hs2 pins s σ H R' I (Jv z)
theorem j5 {ts:List Expr} {tk:Nat} {p tpos:Pos} (hg:Gl X "enumerate") (hm:X.mg "enumerate" = none) (h:DE M X a fa) (hs1:starEach [a] X.env=(false,eval a X.env) :: starEach [] X.env:=by rfl) (hs:starEach [a] X.env=[(false,eval a X.env)]:=by rfl) :
  DI M X (.Tuple ts tk tpos) (.Call (.Name "enumerate" p) [a] [] pos) (iEn fa):=λhK hM=>by
 have q:=AS (es:=ts) (k:=tk) (tpos:=tpos) (p:=p) (pos:=pos) hg hm ((ae h ao hs1) hK hM) hs;rw [hK]at q;exact λpins s σ H R' I z=>q pins s σ H R' I (DN z)
theorem lH {α:Type} {N:List α} {i:Nat} {x:α} (h:N[i]?=some x):i<N.length:=(Zb.mp h).1
theorem pgI {tg:Expr} {t t':TG} (h:PG X tg t) (k:∀v σ H Q,t' v σ H Q->t v σ H Q):PG X tg t':=λpins s σ H v u Q I r q=>h pins s σ H v u Q I r (k _ _ _ _ q)
theorem Il {tg:List Expr} {t t':TGs} (h:PGs X tg t) (k:∀v σ H Q,t' v σ H Q->t v σ H Q):PGs X tg t':=λpins s σ H v u Q I r q=>h pins s σ H v u Q I r (k _ _ _ _ q)
theorem aK {i:Nat} {x:Str} (hN:X.N.Nodup) (hi:X.N[i]?=some x) (hx:Loc X.env.scope x) (hf:X.fn x=true\/X.env.scope.names.lookup x=some .local:=by first | exact .inl rfl | exact .inr rfl | assumption):DG M X (.Name x pos) [i] (gNm i):=λ_ _ =>
 pgI (zM hN hi hx hf) λ_ _ _ _ q=>wU (lH hi) q
theorem fK:DGs M X [] [] gm:=λ_ _=>Il AM λ_ _ _ _ q=>Gu q
theorem bw {is js:List Nat} {g:Fg} {gs:Fgs} (h:DG M X e is g) (k:DGs M X es js gs)
  (hs:(assignEach (e :: es) X.env).map (·.2)=assign e X.env :: (assignEach es X.env).map (·.2):=by rfl):DGs M X (e :: es) (is++js) (bK g gs):=λhK hM =>
 Il (yP (h hK hM) (k hK hM) hs) λ_ _ _ _ q=>ER q
theorem gZ {is:List Nat} {gs:Fgs} {k n:Nat} (hc:X.calm=true) (h:DGs M X es is gs) (hn:(assignEach es X.env).length=n:=by rfl) (hst:(assignEach es X.env).findIdx? (·.1)=none:=by rfl):DG M X (.Tuple es k pos) is (gTp n gs):=λhK hM=>by
 have q:=EA (pos:=pos) (k:=k) hc (h hK hM) hn hst;rw [hK]at q;exact pgI q λ_ _ _ _ z=>GC z
variable {st:Stmt} {rest sa sb:List Stmt} {f g:Fs}
theorem aD:DSs M X [] sNx:=λ_ _=>Ar l3 λ_ _ _ q=>Dv q
theorem ai (h:DS M X st f) (k:DSs M X rest g):DSs M X (st :: rest) (aH f g):=λhK hM=>Ar (i8 (h hK hM) (k hK hM)) λ_ _ _ q=>G3 q
theorem ah (h:DS M X st f):DSs M X [st] f:=λhK hM=>l_ (h hK hM)
theorem dW:DS M X st il:=λ_ _=>psI wt λ_ _ _ q=>BK q
theorem eZ (h:DE M X e fa) (hs:swapsWith e none pos.line X.env=pure false:=by rfl):DS M X (.Expr e pos) (gT fa):=λhK hM=>psI (kQ (h hK hM) hs) λ_ _ _ q=>Du q
theorem aL (h:DE M X e fa):DS M X (.Return (some e) pos) (bI fa):=λhK hM=>psI (k_ (h hK hM)) λ_ _ _ q=>FQ q
theorem l5 (i:Nat) {x:Str} {p:Pos} (hN:X.N[i]?=some x:=by rfl) (hv:Vis X.env.scope x:=by first | exact Or.inl rfl | exact Or.inr (Or.inl rfl) | exact Or.inr (Or.inr rfl)) (hd:(x == ("__debug__" : Str))=false:=by decide)
  (hcd:(x == ("__classdict__" : Str))=false:=by decide):DS M X (.Return (some (.Name x p)) pos) (kL i):=λ_ _=>psI (k_ (a9 hN hv hd hcd)) λ_ _ _ q=>EU q
theorem aW (h:DT M X c ta) (ha:DSs M X sa f) (hb:DSs M X sb g):DS M X (.If c sa sb pos) (sIf ta f g):=λhK hM=>psI (tK (h hK hM) (ha hK hM) (hb hK hM)) λ_ _ _ q=>IZ q
theorem m_ (i:Nat) (h:DS M X st f):DS M X st (qi i f):=λhK hM=>psI (h hK hM) λ_ _ _ q=>Hx q
theorem aN {i:Nat} {x:Str} {p:Pos} (hN:X.N.Nodup) (hi:X.N[i]?=some x) (hx:Loc X.env.scope x) (h:DE M X e fa) (hs:swapsWith e (some (.Name x p)) pos.line X.env=pure false:=by rfl)
  (hf:X.fn x=true\/X.env.scope.names.lookup x=some .local:=by first | exact .inl rfl | exact .inr rfl | assumption):DS M X (.Assign [.Name x p] e pos) (bU i fa):=λhK hM =>
 psI (rW hN hi hx (h hK hM) hs hf) λ_ _ _ q=>BA (lH hi) q
theorem eh {tg iter:Expr} {it:Fi} {is:List Nat} {gg:Fg} {body:List Stmt} (hc:X.calm=true) (hp:PassesOwn (model X.prog X.w) X.A X.env X.xe) (hi:DI M X tg iter it) (hg:DG M X tg is gg) (hb:DSs M X body f) (hs:∀x,foldedSetIterable iter X.env x=pure x:=by intro _;rfl):DS M X (.For tg iter body [] pos) (gX it gg f):=λhK hM =>
 psI (CL hp hc (hi hK hM) (hg hK hM) (hb hK hM) hs) λ_ _ _ q=>Hh q
theorem qG {body:List Stmt} (hp:PassesOwn (model X.prog X.w) X.A X.env X.xe) (h:DT M X c ta) (hb:DSs M X body f):DS M X (.While c body [] pos) (gH ta f):=λhK hM =>
 psI (yC hp (h hK hM) (hb hK hM)) λ_ _ _ q=>Au q
variable {x:Str} {p ap cp:Pos}
theorem CY {o:Expr} {to:TE} {t:TA} {name:Str} {id:String} {r:V->List V->Hp->VK->Prop} (slot:Slot "list" name id) (hty:typeOf (.builtin id)=pure (.type "method_descriptor")) (hm:MtR X id r) (ho:PE X o to) (ha:PA X [e] t) (k:∀D σ H,tS M X.N.length f D σ H->jb (tBM M.K "list" r to t) D σ H)
  (hbase:attributeBase o name X.env (eval o X.env)=eval o X.env)
  (hfew:((backTo cp (starEach [e] X.env)).all (λx=>!x.1) && (backToKw cp (keywordEach [] X.env)).all (λx=>x.1.isSome) && decide (([e]:List Expr).length+([]:List Keyword).length+(if ([]:List Keyword).isEmpty then 0 else 1)<30))=true)
  (hline:(ap.endLine == cp.line)=true) (hs:starEach [e] X.env=(false,eval e X.env) :: starEach [] X.env) (hplain:(backTo cp (starEach [] X.env)).any (·.1)=false)
  (hsw:swapsWith (.Call (.Attribute o name ap) [e] [] cp) none pos.line X.env=pure false) (hK:X.K=M.K):PS X (.Expr (.Call (.Attribute o name ap) [e] [] cp) pos) (tS M X.N.length f):=by
 have q:=sY (apos:=ap) (cpos:=cp) PySem.F.plainAttrs_list slot hty hm ho ha hbase hfew hline hs hplain;rw [hK]at q;exact psI (kQ q hsw) k
theorem FX {o:Expr} {to:TE} {name:Str} {id:String} {r:V->List V->Hp->VK->Prop} (slot:Slot "list" name id) (hty:typeOf (.builtin id)=pure (.type "method_descriptor")) (hm:MtR X id r) (ho:PE X o to) (k:∀D σ H,tS M X.N.length f D σ H->jb (w_ M.K "list" r to) D σ H)
  (hbase:attributeBase o name X.env (eval o X.env)=eval o X.env) (hline:(ap.endLine == cp.line)=true)
  (hsw:swapsWith (.Call (.Attribute o name ap) [] [] cp) none pos.line X.env=pure false) (hK:X.K=M.K):PS X (.Expr (.Call (.Attribute o name ap) [] [] cp) pos) (tS M X.N.length f):=by
 have q:=yy (apos:=ap) (cpos:=cp) PySem.F.plainAttrs_list slot hty hm ho hbase hline;rw [hK]at q;exact psI (kQ q hsw) k
theorem EB (h:DE M X e fa) (hs:starEach [e] X.env=(false,eval e X.env) :: starEach [] X.env) (hK:X.K=M.K) (hM:X.mg=M.mg):PA X [e] (fv (tD M X.N.length fa) nT):=b5 (h hK hM) gF hs
theorem nI (i:Nat) (h:DE M X e fa) (hN:X.N[i]?=some x:=by rfl) (hv:Vis X.env.scope x:=by first | exact Or.inl rfl | exact Or.inr (Or.inl rfl) | exact Or.inr (Or.inr rfl)) (hd:(x == ("__debug__" : Str))=false:=by decide) (hcd:(x == ("__classdict__" : Str))=false:=by decide)
  (hbase:attributeBase (.Name x p) "append" X.env (eval (.Name x p) X.env)=eval (.Name x p) X.env:=by rfl)
  (hfew:((backTo cp (starEach [e] X.env)).all (λx=>!x.1) && (backToKw cp (keywordEach [] X.env)).all (λx=>x.1.isSome) && decide (([e]:List Expr).length+([]:List Keyword).length+(if ([]:List Keyword).isEmpty then 0 else 1)<30))=true:=by rfl)
  (hline:(ap.endLine == cp.line)=true:=by rfl) (hs:starEach [e] X.env=(false,eval e X.env) :: starEach [] X.env:=by rfl) (hplain:(backTo cp (starEach [] X.env)).any (·.1)=false:=by rfl)
  (hsw:swapsWith (.Call (.Attribute (.Name x p) "append" ap) [e] [] cp) none pos.line X.env=pure false:=by rfl):DS M X (.Expr (.Call (.Attribute (.Name x p) "append" ap) [e] [] cp) pos) (nV i fa):=λhK hM =>
 CY PySem.F.slot_list_append PySem.F.type_list_append jl (a9 hN hv hd hcd) (EB h hs hK hM) (λ_ _ _ q=>Ih q) hbase hfew hline hs hplain hsw hK
theorem CC (i:Nat) (hN:X.N[i]?=some x:=by rfl) (hv:Vis X.env.scope x:=by first | exact Or.inl rfl | exact Or.inr (Or.inl rfl) | exact Or.inr (Or.inr rfl)) (hd:(x == ("__debug__" : Str))=false:=by decide) (hcd:(x == ("__classdict__" : Str))=false:=by decide)
  (hbase:attributeBase (.Name x p) "clear" X.env (eval (.Name x p) X.env)=eval (.Name x p) X.env:=by rfl) (hline:(ap.endLine == cp.line)=true:=by rfl)
  (hsw:swapsWith (.Call (.Attribute (.Name x p) "clear" ap) [] [] cp) none pos.line X.env=pure false:=by rfl):DS M X (.Expr (.Call (.Attribute (.Name x p) "clear" ap) [] [] cp) pos) (uJ i):=λhK hM =>
 FX PySem.F.slot_list_clear PySem.F.type_list_clear rz (a9 hN hv hd hcd) (λ_ _ _ q=>GJ q) hbase hline hsw hK
theorem wW {p2:Pos} (i:Nat) (hb:DE M X b fb) (h:DE M X e fa) (hix:kN b) (hN:X.N[i]?=some x:=by rfl) (hv:Vis X.env.scope x:=by first | exact Or.inl rfl | exact Or.inr (Or.inl rfl) | exact Or.inr (Or.inr rfl)) (hd:(x == ("__debug__" : Str))=false:=by decide) (hcd:(x == ("__classdict__" : Str))=false:=by decide)
  (hbase:attributeBase (.Subscript (.Name x p) b p2) "append" X.env (eval (.Subscript (.Name x p) b p2) X.env)=eval (.Subscript (.Name x p) b p2) X.env:=by rfl)
  (hfew:((backTo cp (starEach [e] X.env)).all (λx=>!x.1) && (backToKw cp (keywordEach [] X.env)).all (λx=>x.1.isSome) && decide (([e]:List Expr).length+([]:List Keyword).length+(if ([]:List Keyword).isEmpty then 0 else 1)<30))=true:=by rfl)
  (hline:(ap.endLine == cp.line)=true:=by rfl) (hs:starEach [e] X.env=(false,eval e X.env) :: starEach [] X.env:=by rfl) (hplain:(backTo cp (starEach [] X.env)).any (·.1)=false:=by rfl)
  (hsw:swapsWith (.Call (.Attribute (.Subscript (.Name x p) b p2) "append" ap) [e] [] cp) none pos.line X.env=pure false:=by rfl):DS M X (.Expr (.Call (.Attribute (.Subscript (.Name x p) b p2) "append" ap) [e] [] cp) pos) (kX i fb fa):=λhK hM =>
 CY PySem.F.slot_list_append PySem.F.type_list_append jl (tW (rA M.K hK) (a9 hN hv hd hcd) (hb hK hM) hix) (EB h hs hK hM) (λ_ _ _ q=>Ae q) hbase hfew hline hs hplain hsw hK
theorem DV {tg:Expr} {is:List Nat} {gg:Fg} (i:Nat) (hg:DG M X tg is gg) (hN:X.N[i]?=some x:=by rfl) (hv:Vis X.env.scope x:=by first | exact Or.inl rfl | exact Or.inr (Or.inl rfl) | exact Or.inr (Or.inr rfl)) (hd:(x == ("__debug__" : Str))=false:=by decide) (hcd:(x == ("__classdict__" : Str))=false:=by decide)
  (hbase:attributeBase (.Name x p) "pop" X.env (eval (.Name x p) X.env)=eval (.Name x p) X.env:=by rfl) (hline:(ap.endLine == cp.line)=true:=by rfl)
  (hs:swapsWithSole [tg] (.Call (.Attribute (.Name x p) "pop" ap) [] [] cp) pos.line X.env=pure false:=by rfl) (hw:swappedStores [tg] (.Call (.Attribute (.Name x p) "pop" ap) [] [] cp) X.env=pure none:=by rfl) (h1:(assignEach [tg] X.env).map (·.2)=[assign tg X.env]:=by rfl) :
  DS M X (.Assign [tg] (.Call (.Attribute (.Name x p) "pop" ap) [] [] cp) pos) (vK i gg):=λhK hM=>by
 have q:=yy (apos:=ap) (cpos:=cp) PySem.F.plainAttrs_list PySem.F.slot_list_pop PySem.F.type_list_pop Ec (a9 (pos:=p) hN hv hd hcd) hbase hline;rw [hK]at q;exact psI (sv q (hg hK hM) hs hw h1) λ_ _ _ z=>s_pop z
theorem BN {p2:Pos} (i:Nat) (hb:DE M X b fb) (h:DE M X e fa) (hN:X.N[i]?=some x:=by rfl) (hv:Vis X.env.scope x:=by first | exact Or.inl rfl | exact Or.inr (Or.inl rfl) | exact Or.inr (Or.inr rfl)) (hd:(x == ("__debug__" : Str))=false:=by decide) (hcd:(x == ("__classdict__" : Str))=false:=by decide)
  (hs:swapsWithSole [.Subscript (.Name x p) b p2] e pos.line X.env=pure false:=by rfl) (hw:swappedStores [.Subscript (.Name x p) b p2] e X.env=pure none:=by rfl)
  (ha:∀v,assign (.Subscript (.Name x p) b p2) X.env v=(do
   let ov <-holding [v] (eval (.Name x p) X.env)
   let iv <-holding [v,ov] (eval b X.env)
   standAt p2
   holding [v,ov,iv] (setItem ov iv v)
   release [v,ov,iv] []):=by intro _;rfl) (h1:(assignEach [.Subscript (.Name x p) b p2] X.env).map (·.2)=[assign (.Subscript (.Name x p) b p2) X.env]:=by rfl):DS M X (.Assign [.Subscript (.Name x p) b p2] e pos) (uV i fb fa):=λhK hM =>
 psI (sv (h hK hM) (yd (a9 hN hv hd hcd) (hb hK hM) set_list ha) hs hw h1) λ_ _ _ q=>G7 q
variable {sc scope:Scope} {outs:List (Nat×Str)} {elt tg iter:Expr} {ifs:List Expr} {it:Fi} {gg:Fg} {is:List Nat} {el:Fe}
theorem jW:DF M X [] h_:=λ_ _=>λpins s σ H Q I q=>ES pins s σ H Q I (by
 obtain ⟨F,ρ,fp,S,p⟩:=q;exact p F H (Ext.refl S.same))
theorem ly (h:DT M X c ta):DF M X [c] ta:=λhK hM=>CW (h hK hM)
theorem lp (own:List Str) (s:Shared) (H:Hp) (C:Addr) (ex:List Addr) (pins:List (Addr×Obj)):(cxB X (own++outs.map (·.2)) scope s H C ex pins).N.length=own.length+outs.length:=by
 show (own++outs.map (·.2)).length=_
 rw [Zd,Zc]
theorem iG (own:List Str) (B:Blk X sc scope outs) (hcalm:X.calm=true) (hk:∀j∈is,j<own.length) (hi:DI M X tg iter it)
  (hg:∀s H C ex pins,DG M (cxB X (own++outs.map (·.2)) scope s H C ex pins) tg is gg) (hc:∀s H C ex pins,DF M (cxB X (own++outs.map (·.2)) scope s H C ex pins) ifs ta) (he:∀s H C ex pins,DE M (cxB X (own++outs.map (·.2)) scope s H C ex pins) elt el)
  (hs:∀x,foldedSetIterable iter X.env x=pure x:=by intro _;rfl):DE M X (.ListComp elt [⟨tg,iter,ifs,0⟩] scope pos) (dH it gg ta el own.length (outs.map (·.1))):=λhK hM =>
 peI (AB (wi:=tI M X.N.length it) (g:=tG M (own.length+outs.length) is gg) (tc:=tT M (own.length+outs.length) ta) (te:=tD M (own.length+outs.length) el) own B hcalm (hi hK hM)
  (λs H C ex pins=>by have q:=hg s H C ex pins hK hM;rw [lp]at q;exact q) (λs H C ex pins=>by have q:=hc s H C ex pins hK hM;rw [lp]at q;exact q) (λs H C ex pins=>by have q:=he s H C ex pins hK hM;rw [lp]at q;exact q) hs) λ_ _ _ q=>yU hk q
theorem ji {fe:Fe} {i:Nat} {spos:Pos} (own:List Str) (w:∀σ H Q,tD M X.N.length fe σ H Q->tD M X.N.length (dH it gg ta el own.length (outs.map (·.1))) σ H Q) (hN:X.N.Nodup) (hix:X.N[i]?=some x) (hx:Loc X.env.scope x) (B:Blk X sc scope outs) (hcalm:X.calm=true) (hk:∀j∈is,j<own.length) (hi:DI M X tg iter it)
  (hg:∀s H C ex pins,DG M (cxB X (own++outs.map (·.2)) scope s H C ex pins) tg is gg) (hc:∀s H C ex pins,DF M (cxB X (own++outs.map (·.2)) scope s H C ex pins) ifs ta) (he:∀s H C ex pins,DE M (cxB X (own++outs.map (·.2)) scope s H C ex pins) elt el)
  (hsw:swapsWith (.ListComp elt [⟨tg,iter,ifs,0⟩] scope pos) (some (.Name x p)) spos.line X.env=pure true:=by rfl)
  (hs:∀x,foldedSetIterable iter X.env x=pure x:=by intro _;rfl) (hf:X.fn x=true\/X.env.scope.names.lookup x=some .local:=by first | exact .inl rfl | exact .inr rfl | assumption) :
  DS M X (.Assign [.Name x p] (.ListComp elt [⟨tg,iter,ifs,0⟩] scope pos) spos) (bU i fe):=λhK hM =>
 psI (zy (wi:=tI M X.N.length it) (g:=tG M (own.length+outs.length) is gg) (tc:=tT M (own.length+outs.length) ta) (te:=tD M (own.length+outs.length) el) own hN hix hx B hcalm (hi hK hM)
  (λs H C ex pins=>by have q:=hg s H C ex pins hK hM;rw [lp]at q;exact q) (λs H C ex pins=>by have q:=hc s H C ex pins hK hM;rw [lp]at q;exact q) (λs H C ex pins=>by have q:=he s H C ex pins hK hM;rw [lp]at q;exact q) hsw hs hf) λD σ H q=>by
  have q':=BA (lH hix) q;exact yU hk (w _ _ _ q')
end
noncomputable def oI (i:Int):R OD:=.ok (.sh (.int i))
noncomputable def oB (b:Bool):R OD:=.ok (.sh (.bool b))
noncomputable def oD (d:PyData):R OD:=.ok (.sh d)
noncomputable def gj:PyData->PyData->R OD
 |.int i,.int j=>oI (i+j)
 |.str x,.str y=>if x.length+y.length<=BIG then oD (.str (x++y)) else .bad
 |.list xs,.list ys=>if xs.length+ys.length<=BIG then .ok (.ol ((xs++ys).map OD.sh)) else .bad
 |_,_=>.bad
noncomputable def Hn:PyData->PyData->R OD
 |.int i,.int j=>oI (i-j)
 |_,_=>.bad
noncomputable def iU (i j:Int):Bool:=(decide (-(2 ^ 64)<i) && decide (i<2 ^ 64)) || (decide (-(2 ^ 64)<j) && decide (j<2 ^ 64))
noncomputable def jQ:PyData->PyData->R OD
 |.int i,.int j=>if iU i j=true then oI (i * j) else .bad
 |.list xs,.int k=>if (decide (-(2 ^ 63)<=k) && decide (k<2 ^ 63) && decide (xs.length * k.toNat<=BIG))=true then .ok (.ol ((List.replicate k.toNat xs).flatten.map OD.sh)) else .bad
 |_,_=>.bad
noncomputable def gI:PyData->PyData->R OD
 |.int i,.int j=>if 0<j then oI (i % j) else .bad
 |_,_=>.bad
noncomputable def nE:PyData->PyData->R OD
 |.int i,.int j=>if 0<j/\j<1073741824 then oI (i / j) else .bad
 |_,_=>.bad
noncomputable def I_:PyData->PyData->R OD
 |.int i,.int j=>if 0<=j/\j<=1000000/\i.natAbs<2 ^ 64 then oI (i ^ j.toNat) else .bad
 |_,_=>.bad
noncomputable def jw:PyData->R OD
 |.int i=>oI (-i)
 |_=>.bad
noncomputable def gLt:PyData->PyData->R OD
 |.int i,.int j=>oB (decide (i<j))
 |_,_=>.bad
noncomputable def gLe:PyData->PyData->R OD
 |.int i,.int j=>oB (decide (i<=j))
 |_,_=>.bad
noncomputable def gGt:PyData->PyData->R OD
 |.int i,.int j=>oB (decide (j<i))
 |_,_=>.bad
noncomputable def gGe:PyData->PyData->R OD
 |.int i,.int j=>oB (decide (j<=i))
 |_,_=>.bad
noncomputable def jV (x y:PyData):R Bool:=if (SeqAt.shaped x && SeqAt.shaped y)=true then .ok (PyData.eqv x y) else .bad
noncomputable def eqD:PyData->PyData->R Bool
 |.int i,.int j=>.ok (decide (i=j))
 |.str x,.str y=>.ok (decide (x=y))
 |.bool x,.bool y=>.ok (decide (x=y))
 |x,y=>jV x y
noncomputable def gEq (x y:PyData):R OD:=(eqD x y).bind λb=>oB b
noncomputable def gNe (x y:PyData):R OD:=(eqD x y).bind λb=>oB (!b)
noncomputable def fZ (o:Option PyData):R OD:=match o with
 |some d=>oD d
 |none=>.bad
noncomputable def gIx:PyData->PyData->R OD
 |.list xs,.int i=>fZ (atI xs i)
 |.tuple xs,.int i=>fZ (atI xs i)
 |.str z,.int i=>if z.length<=BIG then fZ ((atI z.cps.toList i).map λc=>.str ⟨#[c]⟩) else .bad
 |_,_=>.bad
noncomputable def cutD (xs:List PyData) (lo hi:Option Int):List PyData:=(xs.drop (HT.sIx xs.length 0 lo)).take (HT.sIx xs.length xs.length hi-HT.sIx xs.length 0 lo)
noncomputable def w8 (x:PyData) (lo hi:Option Int):R OD:=match x with
 |.list xs=>.ok (.ol ((cutD xs lo hi).map OD.sh))
 |_=>.bad
noncomputable def dJ:List PyData->R OD
 |[.list xs]=>oI xs.length
 |[.tuple xs]=>oI xs.length
 |[.str x]=>if x.length<=BIG then oI x.length else .bad
 |_=>.bad
noncomputable def t8:List PyData->R OD
 |[.int i,.int j]=>oI (if j<i then j else i)
 |_=>.bad
noncomputable def HP:List PyData->R OD
 |[.int i,.int j]=>oI (if i<j then j else i)
 |_=>.bad
noncomputable def dZ:List PyData->Option (List Int)
 |[]=>some []
 |.int i :: r=>(dZ r).map (i :: ·)
 |_ :: _=>none
theorem gL:∀ns:List Int,dZ (ns.map PyData.int)=some ns
 |[]=>rfl
 |n :: ns=>by rw [Zk,dZ,gL ns];rfl
theorem ip:∀{ds:List PyData} {ns:List Int},dZ ds=some ns->ds=ns.map PyData.int
 |[],ns,h=>by cases h;rfl
 |.int i :: r,ns,h=>by
  rw [dZ]at h;obtain ⟨ms,h1,rfl⟩:=Zp.mp h;rw [ip h1];rfl
 |.none :: _,_,h=>by cases h
 |.bool _ :: _,_,h=>by cases h
 |.str _ :: _,_,h=>by cases h
 |.list _ :: _,_,h=>by cases h
 |.tuple _ :: _,_,h=>by cases h
 |.dict _ :: _,_,h=>by cases h
noncomputable def gN:List PyData->R OD
 |[.list ds]=>.ok (.ol (ds.map OD.sh))
 |[.tuple ds]=>.ok (.ol (ds.map OD.sh))
 |_=>.bad
noncomputable def vv:List PyData->R OD
 |[.int i]=>oI i
 |[.bool b]=>oI (if b then 1 else 0)
 |_=>.bad
noncomputable def p9 (ds:List PyData) (y:PyData):R OD:=match y with
 |.int z=>match dZ ds with
  |some ns=>if z∈ns then oI (ns.idxOf z:Nat) else .bad
  |none=>.bad
 |_=>.bad
noncomputable def Bp:PyData->Option String
 |.int _=>some "int"
 |.bool _=>some "bool"
 |.str _=>some "str"
 |.list _=>some "list"
 |.tuple _=>some "tuple"
 |.none=>some "NoneType"
 |.dict _=>none
noncomputable def Aw (T:String) (d:PyData):Option Bool:=match Bp d with
 |some U=>if T = "int" \/ T = "bool" \/ T = "str" \/ T = "list" \/ T = "tuple" then some (decide (T=U\/(U = "bool" /\ T = "int"))) else none
 |none=>none
noncomputable def g_ (T:String) (x:PyData):R OD:=match Aw T x with
 |some b=>oB b
 |none=>.bad
section
variable {M:Mx} {X:Cx}
theorem okI {F H:Hp} {fp:List Addr} {Q:VK} {i:Int} (s:aB F H) (p:aw M H fp (OkE M F H Q) (oI i)):Q (.int i) H:=OkE.val s p (.int i)
theorem okB {F H:Hp} {fp:List Addr} {Q:VK} {i:Bool} (s:aB F H) (p:aw M H fp (OkE M F H Q) (oB i)):Q (.bl i) H:=OkE.val s p (.bl i)
noncomputable def Bl (K:PySem.W.Frag):R2:=λx y H Q=>∃l b xs zs,x=.ref l/\y=.ref b/\RdK K H l xs/\RdK K H b zs/\xs.length+zs.length<=sizeLine/\∀p,H p=none->Q (.ref p) (upd H p (.lst (xs++zs)))
theorem zS:OpR X (binaryOp .Add) (Bl X.K):=by
 intro pins s σ H x y v u Q I rx ry h;obtain ⟨l,b,xs,zs,rfl,rfl,hH,hB,hz,q⟩:=h;cases rx;cases ry;obtain ⟨z,its,n,r,hl,e⟩:=hH.obj I;obtain ⟨z2,its2,n2,r2,hl2,e2⟩:=hB.obj I;refine PySem.P.add_list e e2 ?_ (by rw [ZA,ZA];lia)
 have ea:its.toArray++its2.toArray=(its++its2).toArray:=by simp
 rw [ea];exact ⟨.ref _,_,I.lnew (t':=s.toks) (r.append r2) (by rw [Zd];lia),rfl,q _ I.fresh⟩
noncomputable def Bs (K:PySem.W.Frag):R2:=λx y H Q=>rI0 (λi j=>.int (i+j)) x y H Q\/(∃i j,x=.str i/\y=.str j/\i.length+j.length<=sizeLine/\Q (.str (i++j)) H)\/Bl K x y H Q
theorem c7:OpR X (binaryOp .Add) (Bs X.K):=wY.or (sO.or zS)
theorem et (hK:X.K=M.K):Ok2 M (Bs X.K) gj:=by
 rw [hK];intro x y dx dy F H fp Q s rx ry p;unfold gj at p;split at p
 ·cases rx;cases ry
  exact .inl ⟨_,_,rfl,rfl,okI s p⟩
 ·cases rx;cases ry
  split at p
  ·rename_i hl
   exact .inr (.inl ⟨_,_,rfl,rfl,jM hl,OkE.val s p (.str _)⟩)
  ·exact p.elim
 ·split at p
  ·rename_i hl
   cases rx with
   |lst h1 h2 =>
    cases ry with
    |lst h3 h4=>exact .inr (.inr ⟨_,_,_,_,rfl,rfl,h1.same s,h3.same s,by rw [RepAll.len h2,RepAll.len h4];exact jM hl,λa ha=>OkE.lstD s p (RepAll.app h2 h4) ha⟩)
  ·exact p.elim
 ·exact p.elim
theorem AX {i j:Int} (h:iU i j=true):wD i j:=by
 unfold iU at h;rw [Bool.or_eq_true,Zv,Zv,decide_eq_true_eq,decide_eq_true_eq,decide_eq_true_eq,decide_eq_true_eq]at h;exact h
noncomputable def Bq (K:PySem.W.Frag):R2:=λx y H Q=>∃l k xs,x=.ref l/\y=.int k/\RdK K H l xs/\-(2 ^ 63)<=k/\k<2 ^ 63/\xs.length * k.toNat<=sizeLine /\
 ∀p,H p=none->Q (.ref p) (upd H p (.lst (List.replicate k.toNat xs).flatten))
theorem z_:OpR X (binaryOp .Mult) (Bq X.K):=by
 intro pins s σ H x y v u Q I rx ry h;obtain ⟨l,k,xs,rfl,rfl,hH,h1,h2,hz,q⟩:=h;cases rx;obtain ⟨t,rfl⟩:=ry;obtain ⟨z,its,n,r,hl,e⟩:=hH.obj I;have hlen:its.toArray.size * k.toNat<=sizeLine:=by rw [ZA,<-hl];exact hz
 have hcap:¬its.toArray.size * k.toNat > (2 ^ 63-1) / 8:=by
  have:(sizeLine:Nat)<=(2 ^ 63-1) / 8:=by decide
  lia
 have hfit:¬(!Builtin.List.listFitsIndex k)=true:=by
  rw [fitsIndex_both h1 h2];exact Zm
 have hlong:¬Builtin.List.listTooLong (its.toArray.size * k.toNat)=true:=by
  rw [yQ hlen];exact Zm
 have hnew:List.foldl (λx1 x2=>x1++x2) #[] (List.replicate (if its.toArray.isEmpty=true then 0 else k.toNat) its.toArray)=(List.replicate k.toNat its).flatten.toArray:=by
  have f0:∀m:Nat,List.foldl (λx1 x2=>x1++x2) #[] (List.replicate m its.toArray)=(List.replicate m its).flatten.toArray:=λm=>by
   have:=foldl_rep its m [];rw [List.nil_append]at this;exact this
  rw [f0];cases its with
  |nil=>simp
  |cons a r'=>rw [if_neg (by simp)]
 refine wpAny_binaryOp_repeat_ref (T := "list") (U := "int") (by decide) ⟨_,e,rfl⟩ (λs'=>typeIs_int s' k t) noFill_list_mul F.fills_int_mul F.slot_int_rmul repeat_list F.slot_int_index.lookup
  (call_meets F.slot_int_rmul (typeIs_int s k t) F.entry_int_rmul (F.args_int_rmul_2 _ _) (int___rmul___int_list k t l its.toArray n)
   ⟨e,rfl,⟨_,e,rfl⟩,call_meets F.slot_list_mul ⟨_,e,rfl⟩ F.entry_list_mul (F.args_list_mul_2 _ _) (AutoListH.list___mul___list_int_3 l its.toArray n k t hfit hcap hlong) ⟨e,?_⟩⟩)
 rw [hnew];exact ⟨.ref _,_,I.lnew (t':=s.toks) (r.rep k.toNat) (by rw [len_rep,Nat.mul_comm];exact hz),rfl,q _ I.fresh⟩
noncomputable def Bg (K:PySem.W.Frag):R2:=λx y H Q=>rI wD (λi j=>.int (i * j)) x y H Q\/Bq K x y H Q
theorem fO:OpR X (binaryOp .Mult) (Bg X.K):=Cs.or z_
theorem RepAll.rep {K:PySem.W.Frag} {F:Hp} {vs:List V} {ds:List PyData} (h:RepAll K F vs ds):∀k:Nat,RepAll K F (List.replicate k vs).flatten (List.replicate k ds).flatten
 |0=>.nil
 |k+1=>by
  rw [List.replicate_succ,List.replicate_succ,List.flatten_cons,List.flatten_cons];exact RepAll.app h (RepAll.rep h k)
theorem g6 (hK:X.K=M.K):Ok2 M (Bg X.K) jQ:=by
 rw [hK];intro x y dx dy F H fp Q s rx ry p;unfold jQ at p;split at p
 ·cases rx;cases ry
  split at p
  ·rename_i hc
   exact .inl ⟨_,_,rfl,rfl,AX hc,okI s p⟩
  ·exact p.elim
 ·cases ry
  split at p
  ·rename_i hc
   rw [Zv,Zv,decide_eq_true_eq,decide_eq_true_eq,decide_eq_true_eq]at hc;cases rx with
   |lst h1 h2=>exact .inr ⟨_,_,_,rfl,rfl,h1.same s,hc.1.1,hc.1.2,by rw [RepAll.len h2];exact jM hc.2,λa ha=>OkE.lstD s p (RepAll.rep h2 _) ha⟩
  ·exact p.elim
 ·exact p.elim
theorem eA:Ok2 M (rI (λ_ j=>0<j) λi j=>.int (i % j)) gI:=by
 intro x y dx dy F H fp Q s rx ry p;unfold gI at p;split at p
 ·cases rx;cases ry
  split at p
  ·rename_i hc
   exact ⟨_,_,rfl,rfl,hc,okI s p⟩
  ·exact p.elim
 ·exact p.elim
theorem jf:Ok2 M (rI FU λi j=>.int (i / j)) nE:=by
 intro x y dx dy F H fp Q s rx ry p;unfold nE at p;split at p
 ·cases rx;cases ry
  split at p
  ·rename_i hc
   exact ⟨_,_,rfl,rfl,hc,okI s p⟩
  ·exact p.elim
 ·exact p.elim
theorem g8:Ok1 M (rU λi=>.int (-i)) jw:=by
 intro x dx F H fp Q s rx p;unfold jw at p;split at p
 ·cases rx
  exact ⟨_,rfl,okI s p⟩
 ·exact p.elim
theorem t_:Ok2 M (rI0 λi j=>.bl (decide (i<j))) gLt:=by
 intro x y dx dy F H fp Q s rx ry p;unfold gLt at p;split at p
 ·cases rx;cases ry
  exact ⟨_,_,rfl,rfl,okB s p⟩
 ·exact p.elim
theorem BL:Ok2 M (rI0 λi j=>.bl (decide (j<i))) gGt:=by
 intro x y dx dy F H fp Q s rx ry p;unfold gGt at p;split at p
 ·cases rx;cases ry
  exact ⟨_,_,rfl,rfl,okB s p⟩
 ·exact p.elim
theorem uD:Ok2 M (rI0 λi j=>.bl (decide (j<=i))) gGe:=by
 intro x y dx dy F H fp Q s rx ry p;unfold gGe at p;split at p
 ·cases rx;cases ry
  exact ⟨_,_,rfl,rfl,okB s p⟩
 ·exact p.elim
mutual
theorem Rep.to2 {K:PySem.W.Frag} {H:Hp} {v:V} {d:PyData}:Rep K H v d->d.canLay0=true->L2.Rep K H v d
 |.non,_=>.non
 |.bl b,_=>.bl b
 |.int i,_=>.int i
 |.str x,_=>.str x
 |.lst h r,c=>.lst h.sq (RepAll.to2 r (by rw [PyData.canLay0]at c;exact c))
 |.tup h r,c=>.tup (SqT.of h) (RepAll.to2 r (by rw [PyData.canLay0]at c;exact c))
 |.dct _ _ _,c=>by
  unfold dD at c;rw [PyData.canLay0]at c;cases c
 |.ins _ _ _,c=>by
  unfold jN at c;rw [PyData.canLay0]at c;cases c
theorem RepAll.to2 {K:PySem.W.Frag} {H:Hp} {vs:List V} {ds:List PyData}:RepAll K H vs ds->PyData.canLayAll0 ds=true->L2.RepAll K H vs ds
 |.nil,_=>.nil
 |.cons h r,c=>by
  rw [PyData.canLayAll0,Zv]at c;exact .cons (Rep.to2 h c.1) (RepAll.to2 r c.2)
end
noncomputable def Hs (K:PySem.W.Frag):R2:=λx y H Q=>rEq x y H Q\/GX K x y H Q
noncomputable def Fh (K:PySem.W.Frag):R2:=λx y H Q=>rNe x y H Q\/G4 K x y H Q
theorem bc (hu:X.A.units+64<cLine):OpR X (compareOp .Eq) (Hs X.K):=Fw.or (EN hu)
theorem iW (hu:X.A.units+64<cLine):OpR X (compareOp .NotEq) (Fh X.K):=xQ.or (BU hu)
theorem xa {K:PySem.W.Frag} {F H:Hp} {fp:List Addr} {x y:V} {dx dy:PyData} {P:Bool->Prop} (rx:Rep K F x dx) (ry:Rep K F y dy) (p:aw M H fp P (eqD dx dy)) :
  (Er x y=true/\P (decide (x=y)))\/(SeqAt.shaped dx=true/\SeqAt.shaped dy=true/\P (PyData.eqv dx dy)):=by
 unfold eqD at p;split at p
 ·cases rx;cases ry
  refine .inl ⟨rfl,?_⟩;have e:∀i j:Int,decide (V.int i=V.int j)=decide (i=j):=λi j=>by
   by_cases h:i=j
   ·rw [h];simp
   ·rw [decide_eq_false h,decide_eq_false λz=>h (V.int.inj z)]
  rw [e];exact p
 ·cases rx;cases ry
  refine .inl ⟨rfl,?_⟩;have e:∀i j:Str,decide (V.str i=V.str j)=decide (i=j):=λi j=>by
   by_cases h:i=j
   ·rw [h];simp
   ·rw [decide_eq_false h,decide_eq_false λz=>h (V.str.inj z)]
  rw [e];exact p
 ·cases rx;cases ry
  refine .inl ⟨rfl,?_⟩;have e:∀i j:Bool,decide (V.bl i=V.bl j)=decide (i=j):=λi j=>by
   by_cases h:i=j
   ·rw [h];simp
   ·rw [decide_eq_false h,decide_eq_false λz=>h (V.bl.inj z)]
  rw [e];exact p
 ·unfold jV at p
  split at p
  ·rename_i h
   rw [Zv]at h;exact .inr ⟨h.1,h.2,p⟩
  ·exact p.elim
theorem cw (hK:X.K=M.K):Ok2 M (Hs X.K) gEq:=by
 rw [hK];intro x y dx dy F H fp Q s rx ry p;rcases xa rx ry (aw.bind p) with ⟨h,q⟩ | ⟨h1,h2,q⟩
 ·exact .inl ⟨h,okB s q⟩
 ·exact .inr ⟨dx,dy,(rx.same s).to2 (SeqAt.canLay_of_shaped h1),(ry.same s).to2 (SeqAt.canLay_of_shaped h2),h1,h2,okB s q⟩
theorem lN (hK:X.K=M.K):Ok2 M (Fh X.K) gNe:=by
 rw [hK];intro x y dx dy F H fp Q s rx ry p;rcases xa rx ry (aw.bind p) with ⟨h,q⟩ | ⟨h1,h2,q⟩
 ·exact .inl ⟨h,okB s q⟩
 ·exact .inr ⟨dx,dy,(rx.same s).to2 (SeqAt.canLay_of_shaped h1),(ry.same s).to2 (SeqAt.canLay_of_shaped h2),h1,h2,okB s q⟩
theorem uu {K:PySem.W.Frag} {F:Hp} {vs:List V} {ds:List PyData} {i:Int} {d:PyData} (h:RepAll K F vs ds) (e:atI ds i=some d):∃v,atI vs i=some v/\Rep K F v d:=by
 unfold atI at e ⊢;rw [RepAll.len h];cases q:ixN ds.length i with
 |none=>rw [q]at e;cases e
 |some j =>
  rw [q]at e;obtain ⟨v,h1,h2⟩:=RepAll.get h e;exact ⟨v,h1,h2⟩
theorem aE (hK:X.K=M.K):Ok2 M (rIx X.K) gIx:=by
 rw [hK];intro x y dx dy F H fp Q s rx ry p;unfold gIx at p;split at p
 ·cases ry
  unfold fZ at p;split at p
  ·rename_i d hd
   cases rx with
   |lst h1 h2 =>
    obtain ⟨v,e,r⟩:=uu h2 hd;exact .inl ⟨_,_,_,v,rfl,rfl,(h1.same s).sq,e,OkE.val s p r⟩
  ·exact p.elim
 ·cases ry
  unfold fZ at p;split at p
  ·rename_i d hd
   cases rx with
   |tup h1 h2 =>
    obtain ⟨v,e,r⟩:=uu h2 hd;exact .inr (.inl ⟨_,_,_,v,rfl,rfl,SqT.of (s _ _ h1),e,OkE.val s p r⟩)
  ·exact p.elim
 ·cases ry
  cases rx;split at p
  ·rename_i hl
   unfold fZ at p;split at p
   ·rename_i d hd
    obtain ⟨c,hc,rfl⟩:=Zp.mp hd;exact .inr (.inr ⟨_,_,c,rfl,rfl,jM hl,hc,OkE.val s p (.str _)⟩)
   ·exact p.elim
  ·exact p.elim
 ·exact p.elim
theorem yM (hK:X.K=M.K):OkS M (Hl X.K) w8:=by
 rw [hK];intro x lo hi dx F H fp Q s rx p;unfold w8 at p;split at p
 ·cases rx with
  |@lst a vs ds h1 h2 =>
   refine ⟨a,vs,rfl,(h1.same s).sq,λq hq=>?_⟩
   refine OkE.lstD s p ?_ hq;unfold rb cutD;rw [RepAll.len h2];exact RepAll.take _ (RepAll.drop _ h2)
 ·exact p.elim
noncomputable def BB (K:PySem.W.Frag):List V->Hp->VK->Prop:=λxs H Q=>(∃p ys,xs=[.ref p]/\(SqL K H p ys\/SqT K H p ys)/\Q (.int ys.length) H)\/(∃z,xs=[.str z]/\z.length<=sizeLine/\Q (.int z.length) H)
theorem aP:eV X (.builtin "len") (BB X.K):=pk.or qb
theorem bX (hK:X.K=M.K):OkC M (BB X.K) dJ:=by
 rw [hK];intro x dx F H fp Q s rx p;unfold dJ at p;split at p
 ·cases rx with
  |cons h r =>
   cases r;cases h with
   |lst h1 h2=>exact .inl ⟨_,_,rfl,.inl (h1.same s).sq,by rw [RepAll.len h2];exact okI s p⟩
 ·cases rx with
  |cons h r =>
   cases r;cases h with
   |tup h1 h2=>exact .inl ⟨_,_,rfl,.inr (SqT.of (s _ _ h1)),by rw [RepAll.len h2];exact okI s p⟩
 ·cases rx with
  |cons h r =>
   cases r;cases h;split at p
   ·rename_i hl
    exact .inr ⟨_,rfl,jM hl,okI s p⟩
   ·exact p.elim
 ·exact p.elim
theorem xP {K:PySem.W.Frag} {F:Hp} {x:List V} {i j:Int} (r:RepAll K F x [.int i,.int j]):x=[.int i,.int j]:=by
 cases r with
 |cons h r =>
  cases h;cases r with
  |cons h r =>
   cases h;cases r;rfl
theorem zt:OkC M (λxs H Q=>∃i j,xs=[.int i,.int j]/\Q (.int (if j<i then j else i)) H) t8:=by
 intro x dx F H fp Q s rx p;unfold t8 at p;split at p
 ·exact ⟨_,_,xP rx,okI s p⟩
 ·exact p.elim
theorem xU {K:PySem.W.Frag} {F:Hp} {x:List V} {ds:List PyData} {ns:List Int} (s:aB F H') (r:RepAll K F x [.list ds]) (e:dZ ds=some ns):∃a,x=[.ref a]/\SqL K H' a (ns.map V.int):=by
 cases r with
 |cons h r =>
  cases r;cases h with
  |lst h1 h2 =>
   rw [ip e]at h2;rw [RepAll.toInts h2]at h1;exact ⟨_,rfl,(h1.same s).sq⟩
theorem pM (hK:X.K=M.K):OkC M (Ga X.K) gN:=by
 rw [hK];intro x dx F H fp Q s rx p;unfold gN at p;split at p
 ·cases rx with
  |cons h r =>
   cases r;cases h with
   |lst h1 h2=>exact ⟨_,_,rfl,.inl (h1.same s).sq,λl hl=>OkE.lstD s p h2 hl⟩
 ·cases rx with
  |cons h r =>
   cases r;cases h with
   |tup h1 h2=>exact ⟨_,_,rfl,.inr (SqT.of (s _ _ h1)),λl hl=>OkE.lstD s p h2 hl⟩
 ·exact p.elim
theorem uz:OkC M (λxs H Q=>(∃i,xs=[.int i]/\Q (.int i) H)\/∃k,xs=[.bl k]/\Q (.int (if k then 1 else 0)) H) vv:=by
 intro x dx F H fp Q s rx p;unfold vv at p;split at p
 ·cases rx with
  |cons h r =>
   cases r;cases h;exact .inl ⟨_,rfl,okI s p⟩
 ·cases rx with
  |cons h r =>
   cases r;cases h;exact .inr ⟨_,rfl,okI s p⟩
 ·exact p.elim
noncomputable def eW (T:String) (a:Fe):Fe:=fun ρ=>(a ρ).bind λx=>g_ T x.er
noncomputable def Bv (K:PySem.W.Frag) (T:String):List V->Hp->VK->Prop:=λxs H Q=>∃x d b,xs=[x,.ty T]/\Rep K H x d/\Aw T d=some b/\Q (.bl b) H
theorem Cw {K:PySem.W.Frag} {T U:String} (hU:U = "int" \/ U = "bool" \/ U = "str" \/ U = "list" \/ U = "tuple" \/ U = "NoneType") (hT:T = "int" \/ T = "bool" \/ T = "str" \/ T = "list" \/ T = "tuple"):PySem.W.kitOne K (.type U) (.type T)=some (decide (T=U\/(U = "bool" /\ T = "int"))):=by
 rcases hU with rfl | rfl | rfl | rfl | rfl | rfl <;> rcases hT with rfl | rfl | rfl | rfl | rfl <;> rfl
theorem vj {K:PySem.W.Frag} {T U:String} {d:PyData} {b:Bool} (hk:Bp d=some U) (hU:U = "int" \/ U = "bool" \/ U = "str" \/ U = "list" \/ U = "tuple" \/ U = "NoneType") (e:Aw T d=some b):PySem.W.kitOne K (.type U) (.type T)=some b:=by
 unfold Aw at e;rw [hk]at e;have e':(if T = "int" \/ T = "bool" \/ T = "str" \/ T = "list" \/ T = "tuple" then some (decide (T=U\/(U = "bool" /\ T = "int"))) else none)=some b:=e
 by_cases hT:T = "int" \/ T = "bool" \/ T = "str" \/ T = "list" \/ T = "tuple"
 ·rw [if_pos hT]at e'
  rw [<-e'];exact Cw hU hT
 ·rw [if_neg hT]at e'
  cases e'
end
section
variable {M:Mx} {X:Cx} {e a b c:Expr} {es:List Expr} {pos:Pos} {fa fb:Fe} {ta tb:Ft} {al:Fa}
theorem uH (T:String):eV X (.builtin "isinstance") (Bv X.K T):=by
 intro pins s σ H xs us Q I r h;obtain ⟨x,d,b,rfl,rd,e,q⟩:=h;obtain ⟨u,v,rfl,ru,rv⟩:=Vals.two r;cases rv;have fin:∀tk,EP X pins σ Q (.bool b) { s with toks:=tk }:=λtk=>⟨.bl b,H,I.tok tk,rfl,q⟩
 cases rd with
 |non =>
  cases (show u=Value.none from ru)
  exact PySem.W.kia_one PySem.W.kitx_none I.kIn True.intro (vj rfl (by simp) e) (λz=>nomatch z) fin
 |bl y =>
  cases (show u=Value.bool y from ru)
  exact PySem.W.kia_one PySem.W.kitx_bool I.kIn True.intro (vj rfl (by simp) e) (λz=>nomatch z) fin
 |int i =>
  obtain ⟨t,hq⟩:=(show ∃t,u=Value.int i t from ru)
  cases hq;exact PySem.W.kia_one PySem.W.kitx_int I.kIn True.intro (vj rfl (by simp) e) (λz=>nomatch z) fin
 |str y =>
  obtain ⟨t,hq⟩:=(show ∃t,u=Value.str y t from ru)
  cases hq;exact PySem.W.kia_one PySem.W.kitx_str I.kIn True.intro (vj rfl (by simp) e) (λz=>nomatch z) fin
 |@lst a xs ds h1 h2 =>
  cases (show u=Value.ref a from ru)
  obtain ⟨_,its,n,_,_,he⟩:=h1.obj I;exact PySem.W.kia_one PySem.W.kitx_list I.kIn ⟨_,he,rfl⟩ (vj (d:=.list ds) rfl (by simp) e) (λz=>nomatch z) fin
 |@tup a xs ds h1 h2 =>
  cases (show u=Value.ref a from ru)
  obtain ⟨_,_,_,p⟩:=(show c9 X.prog X.w H s.heap a (.tup xs) from I.hok a _ h1)
  obtain ⟨o,k1,k2,_⟩:=p;exact PySem.W.kia_one PySem.W.kitx_tuple I.kIn ⟨o,k1,k2⟩ (vj (d:=.tuple ds) rfl (by simp) e) (λz=>nomatch z) fin
 |dct _ _ _ =>
  have e':(none:Option Bool)=some b:=e;cases e'
 |ins _ _ _ =>
  have e':(none:Option Bool)=some b:=e;cases e'
theorem GO {n:Nat} {σ:St} {H:Hp} {Q:VK} {T:String} (h:tD M n (eW T fa) σ H Q):tCB (Bv M.K T) (fv (tD M n fa) (fv (tC (.ty T)) nT)) σ H Q:=by
 obtain ⟨F,ρ,fp,S,p⟩:=h;refine ⟨F,ρ,fp,S,(aw.bind p).mono λx px v F1 H1 fx e1 r1 w1=>?_⟩
 obtain ⟨G1,d1,k1⟩:=r1.frz e1 w1;unfold g_ at px;split at px
 ·rename_i b hb
  exact ⟨v,x.er,b,rfl,k1.same d1.fh,hb,OkE.val d1.fh (OkE.pre d1 px) (.bl b)⟩
 ·exact px.elim
theorem cN {T:String} {x:Str} {p p2:Pos} (hg:Gl X "isinstance") (hm:X.mg "isinstance" = none) (hgT:Gl X x) (hmT:X.mg x=none) (hT:bootBuiltins x=some (.type T)) (h:DE M X e fa) (hnT:x ≠ "__name__" := by decide) (hdT:(x == ("__debug__" : Str))=false:=by decide)
  (hs1:starEach [e,.Name x p2] X.env=(false,eval e X.env) :: starEach [.Name x p2] X.env:=by rfl) (hs2:starEach [.Name x p2] X.env=(false,eval (.Name x p2) X.env) :: starEach [] X.env:=by rfl) (hpl:(backTo pos (starEach [.Name x p2] X.env)).any (·.1)=false:=by rfl) :
  DE M X (.Call (.Name "isinstance" p) [e,.Name x p2] [] pos) (eW T fa):=λhK hM=>by
 have q:=j8 (p:=p) (pos:=pos) (uH T) hg hm fB (b5 (h hK hM) (b5 (sW (v:=V.ty T) (pos:=p2) hgT hmT hT rfl hnT hdT) gF hs2) hs1) (by decide) (by decide) hs1 hpl
 rw [hK]at q;exact peI q λ_ _ _ z=>GO z
noncomputable def uP (a b:Fe):Fe:=fun ρ=>(a ρ).bind λx=>match x.er with
 |.list ds=>(b ρ).bind λy=>p9 ds y.er
 |_=>.bad
theorem qF {ap cp:Pos} (ha:DE M X a fa) (h:DE M X e fb)
  (hbase:attributeBase a "index" X.env (eval a X.env)=eval a X.env:=by rfl)
  (hfew:((backTo cp (starEach [e] X.env)).all (λx=>!x.1) && (backToKw cp (keywordEach [] X.env)).all (λx=>x.1.isSome) && decide (([e]:List Expr).length+([]:List Keyword).length+(if ([]:List Keyword).isEmpty then 0 else 1)<30))=true:=by rfl)
  (hline:(ap.endLine == cp.line)=true:=by rfl) (hs:starEach [e] X.env=(false,eval e X.env) :: starEach [] X.env:=by rfl) (hplain:(backTo cp (starEach [] X.env)).any (·.1)=false:=by rfl) :
  DE M X (.Call (.Attribute a "index" ap) [e] [] cp) (uP fa fb):=λhK hM=>by
 have q:=sY (apos:=ap) (cpos:=cp) PySem.F.plainAttrs_list PySem.F.slot_list_index PySem.F.type_list_index wZ (ha hK hM) (b5 (h hK hM) gF hs) hbase hfew hline hs hplain;refine peI q fun σ H Q h=>?_
 obtain ⟨F,ρ,fp,S,p⟩:=h;refine ⟨F,ρ,fp,S,(aw.bind p).mono λx px v F1 H1 fx e1 r1 w1=>?_⟩
 obtain ⟨G1,d1,k1⟩:=r1.frz e1 w1;generalize x.er=d at px k1
 cases k1 with
 |@lst a' vs ds h1 h2 =>
  have px':aw M H fp (OkE M F H Q) ((fb ρ).bind λy=>p9 ds y.er):=px
  refine ⟨.inl ⟨rfl,vs,by rw [hK];exact (h1.same d1.fh).sq⟩,G1,ρ,fp,S.ext d1,((aw.bind px').ext d1).mono λy py w F2 H2 fy e2 r2 w2=>?_⟩
  obtain ⟨G2,d2,k2⟩:=r2.frz e2 w2;unfold p9 at py;generalize y.er=d' at py k2
  cases k2 with
  |int z =>
   have py':aw M H fp (OkE M F H Q) (match dZ ds with | some ns=>if z∈ns then oI (ns.idxOf z:Nat) else .bad | none=>.bad):=py
   split at py'
   ·rename_i ns hn
    split at py'
    ·rename_i hz
     rw [ip hn]at h2;rw [RepAll.toInts h2]at h1;exact ⟨a',ns,z,rfl,rfl,by rw [hK];exact ((h1.same d2.ff).same d2.fh).sq,hz,OkE.val d2.fh (OkE.pre (d1.trans d2) py') (.int _)⟩
    ·exact py'.elim
   ·exact py'.elim
  |non=>exact py.elim
  |bl _=>exact py.elim
  |str _=>exact py.elim
  |dct _ _ _=>exact py.elim
  |ins _ _ _=>exact py.elim
  |lst _ _=>exact py.elim
  |tup _ _=>exact py.elim
 |non=>exact px.elim
 |bl _=>exact px.elim
 |int _=>exact px.elim
 |str _=>exact px.elim
 |dct _ _ _=>exact px.elim
 |ins _ _ _=>exact px.elim
 |tup _ _=>exact px.elim
end
theorem kR {K:PySem.W.Frag} {F H:Hp} (m:Nat):∀{vs:List V} {ds:List PyData},RepAll K F vs ds->OwnS K F H (vs.map some++List.replicate m none) ((ds.map λd=>some (OD.sh d))++List.replicate m none) []
 |_,_,.nil=>by
  show OwnS K F H (List.replicate m none) (List.replicate m none) []
  have:=OwnS.nones (K:=K) (F:=F) (H:=H) m .nil;rw [Zx,Zx]at this;exact this
 |_,_,.cons h r=>.yes (f:=[]) (.sh h) (kR m r)
theorem fn3 {P:Program} {w:World} {K:PySem.W.Frag} {mg:Str->Option Value} {base:Heap} {x qual:Str} {st:Stmt} {f:Addr} {fd:FuncData} {N ps:List Str} {k:Nat} {body:Fs} (F:Fun K x qual st f fd) (S:FnScope N ps (aj st))
  (h:∀(cdv:Value) (A:Around) (outer:List PySem.Env) (s:Shared) (H:Hp) (E:XK),Room k (A.deeper (envOfC qual (aj st) s.heap.objs.size f cdv))->DSs ⟨K,mg,E⟩ (nN CX0 P w K mg base N qual (aj st) f cdv A outer s H E).nox (aI st) body) :
  FnOk P w K mg base CX0 (k+1) f fd ps (sp3 K mg (bW ps.length N.length body)):=by
 have hpl:ps.length<=N.length:=by
  have:=congrArg List.length S.pre;rw [ZE]at this
  lia
 have hlen:∀vs H Q E,sp3 K mg (bW ps.length N.length body) vs H Q E->vs.length=ps.length:=by
  rintro vs H Q E ⟨F,ds,sm,ra,p⟩;by_cases hl:ds.length=ps.length
  ·rw [RepAll.len ra]
   exact hl
  ·unfold bW at p
   rw [if_neg hl]at p;exact p.elim
 refine F.ok S hlen λcdv A outer s H vs Q E hr hs=>?_
 have hvl:=hlen _ _ _ _ hs;obtain ⟨F0,ds,sm,ra,p⟩:=hs;have hdl:ds.length=ps.length:=by rw [<-RepAll.len ra];exact hvl
 unfold bW at p;rw [if_pos hdl]at p;refine ⟨_,h cdv A outer s H E hr rfl rfl,F0,kK N.length ds,[],⟨sm,?_,List.nodup_nil,(λ_ m=>by cases m),?_⟩,(aw.bind p).mono λo po=>?_⟩
 ·unfold L2.start kK
  rw [hvl,hdl];exact kR _ ra
 ·unfold kK
  show _=N.length
  rw [Zd,Zc,List.length_replicate,hdl]
  lia
 ·cases o with
  |nx ρ=>exact fun σ' F' H' fp' S' st=>po .non F' H' [] ⟨st.ff,λa o q=>st.keep a o q (by simp),S'.same,λa q z=>st.nw a q (by simp) z⟩ (Res.sh .non) λ_ m=>by cases m
  |rt y=>exact λv F' H' fx sm' r st=>po v F' H' fx ⟨st.ff,λa o q=>st.keep a o q (by simp),sm',λa q z=>st.nw a q (by simp) z⟩ r λa m=>(st.new a m).elim (λz=>by cases z) id
  |bk ρ=>exact po.elim
  |ct ρ=>exact po.elim
theorem u_ {P:Program} {w:World} {K:PySem.W.Frag} {mg mb:Str->Option Value} {CX:CXT} {k:Nat} {fa a:Addr} {fd:FuncData} {x:Str} {sp:Sp} {s₁:Shared} {vs:List Value} {ns:List Int}
  (KX:K.In s₁.heap) (hns:s₁.heap.Ns mainGlobals mg) (hb:s₁.heap.Ns builtinsNs mb) (hbb:∀x:Str,x ≠ "__name__" -> mb x=bootBuiltins x) (hlim:s₁.heap.NoLimit) (hg:s₁.gens=#[])
  (ha:s₁.heap.get? a=some { cls:=.type "list",data:=.seq vs.toArray }) (hi:IntsAre vs ns) (hl:ns.length<=sizeLine) (hr:Room k callerA)
  (F:∀base:Heap,K.In base->base.Ns mainGlobals mg->FnOk P w K mg base CX k fa fd [x] sp) (hbind:∀(s:Shared) (u:Value),BindsTo s fd ⟨[u],[]⟩ [(x,u)])
  (hsp:∀H:Hp,uZ H->RdK K H a (ns.map V.int)->sp [.ref a] H (λv _=>v=.bl true) λ_ _ _=>False)
  (hCX:∀H e s',CX [] H s₁ (λ_ _ _=>False) e s'->False) :
  codeAny (model P w) callerA (.call (.ref fa) ⟨[.ref a],[]⟩) (λr s'=>r=.ok (.ret (.bool true))/\OldK s₁.heap s'.heap/\s'.os=s₁.os/\AllBare s'.gens) s₁:=by
 have rv:=gE hi;have lenV:=hi.length;have core:∀H:Hp,uZ H->RdK K H a (ns.map V.int)->HOk P w H s₁.heap->(∀b,H b≠none->b=a)->(H a≠none->K.lookup a=none) ->
   codeAny (model P w) callerA (.call (.ref fa) ⟨[.ref a],[]⟩) (λr s'=>r=.ok (.ret (.bool true))/\OldK s₁.heap s'.heap/\s'.os=s₁.os/\AllBare s'.gens) s₁:=by
  intro H hO hS hok hA hK;have base_of:∀{b:Addr} {o:Obj},s₁.heap.get? b=some o->H b=none->(kI s₁.heap H).get? b=some o:=λe n=>qS e n
  have noA:∀{b:Addr} {o:Obj} {es:Array DictEntry} {ep:Nat},s₁.heap.get? b=some o->o.data=.dict es ep->H b=none:=fun {b o es ep} e d=>by
   cases q:H b with
   |none=>rfl
   |some u =>
    have e':b=a:=hA b (by rw [q];simp)
    subst e';rw [ha]at e;cases e;have d':Data.seq vs.toArray _=Data.dict es ep:=d;cases d'
  have nsK:∀{b:Addr} {m:Str->Option Value},s₁.heap.Ns b m->(kI s₁.heap H).Ns b m:=fun {b m} ⟨o,es,ep,e,d,r⟩=>⟨o,es,ep,base_of e (noA e d),d,r⟩
  have hKb:K.In (kI s₁.heap H):=λb o e=>base_of (KX b o e) (by
   cases q:H b with
   |none=>rfl
   |some u =>
    have e':b=a:=hA b (by rw [q];simp)
    subst e';rw [hK (by rw [q];simp)]at e;cases e)
  have hM:Mod K mg (kI s₁.heap H):=⟨hKb,nsK hns,⟨mb,nsK hb,hbb⟩,let ⟨mc,h1,h2⟩:=hlim;⟨mc,nsK h1,h2⟩⟩;have e0:Env0 P w K mg (kI s₁.heap H) callerA [] s₁ H:=⟨rfl,hM,λb o e=>um e,Nat.le_of_eq (oZ _ _),trivial,λb hb=>absurd (show b∈([]:List Addr) from hb) (by simp),hok,.of_eq hg⟩
  refine codeAny_mono ((F _ hKb (nsK hns)).run callerA [] s₁ H ⟨[.ref a],[]⟩ [.ref a] [.ref a] _ _ hr e0 (hbind s₁ (.ref a)) (.cons rfl .nil) (hsp H hO hS)) λr s' h=>?_
  cases r with
  |error e=>exact (hCX H e s' h).elim
  |ok fl =>
   cases fl with
   |next=>exact False.elim h
   |brk=>exact False.elim h
   |cont=>exact False.elim h
   |ret u =>
    obtain ⟨v,H',os,bare,un,hok',r',q⟩:=h;have q':v=.bl true:=q;subst q';obtain rfl:u=Value.bool true:=r';refine ⟨rfl,OldK.of_keep λb o e=>?_,os,bare⟩
    cases q:H b with
    |none=>exact un.keep b o e q (by intro z;exact absurd (show b∈([]:List Addr) from z) (by simp)) (by simp)
    |some u =>
     rcases hO b with z | ⟨ob,xs,z⟩
     ·rw [q]at z;cases z
     ·have z2:=un.frzs b ob _ z
      obtain ⟨e1,_⟩:=hok b _ z;obtain ⟨e2,_⟩:=hok' b _ z2;rw [e]at e1;cases e1;exact e2
 cases hk:K.lookup a with
 |some o =>
  have e:=KX a o hk;rw [ha]at e;cases e;refine core (λ_=>none) (λ_=>.inl rfl) (.inr ⟨vs.toArray,_,hk,by rw [ZA,lenV];exact hl,by simpa using rv⟩) (λb u z=>by have z':(none:Option HO)=some u:=z;cases z') (λb z=>absurd rfl z) λz=>absurd rfl z
 |none =>
  refine core (λb=>if b=a then some (.frz { cls:=.type "list",data:=.seq vs.toArray } (.lst (ns.map V.int))) else none) (λb=>?_) (.inl (.inr ⟨{ cls:=.type "list",data:=.seq vs.toArray },if_pos rfl⟩)) (λb u z=>?_) (λb z=>?_) λ_=>hk
  ·by_cases hb:b=a
   ·exact .inr ⟨_,_,if_pos hb⟩
   ·exact .inl (if_neg hb)
  ·by_cases hb:b=a
   ·have z':=(if_pos hb).symm.trans z
    cases z';subst hb;exact ⟨ha,by rw [Zc];exact hl,vs,_,rv,ha⟩
   ·have z':=(if_neg hb).symm.trans z
    cases z'
  ·by_cases hb:b=a
   ·exact hb
   ·exact absurd (if_neg hb) z
theorem yg {l:PySem.W.OpenLaw} {n k:Nat} {q:Program} {loose:List Str} {XP:(Str->Option Value)->Heap->Prop} {YP:World->Heap->Prop} {d:DefRec} {K:Params->PySem.W.Frag} {CX:World->CXT} {sp:World->Sp} {x:Str}
  (hn:l.most=some n) (hn2:n<=sizeLine) (hdf:d.params.defaults=[]) (hr:Room k callerA)
  (hY:∀(w:World) (h:Heap),YP w h->(K w.params).In h)
  (F:∀(w:World) (mg:Str->Option Value) (fa:Addr) (h:Heap),(K w.params).In h->h.Ns mainGlobals mg->mg d.name=some (.ref fa) ->
   ∃fd:FuncData,(∀(s:Shared) (u:Value),BindsTo s fd ⟨[u],[]⟩ [(x,u)]) /\
    ∀base:Heap,(K w.params).In base->base.Ns mainGlobals mg->FnOk l.prog w (K w.params) mg base (CX w) k fa fd [x] (sp w))
  (hsp:∀(w:World) (H:Hp) (a:Addr) (ns:List Int),ns.length<=n->uZ H->RdK (K w.params) H a (ns.map V.int)->sp w [.ref a] H (λv _=>v=.bl true) λ_ _ _=>False)
  (hCX:∀(w:World) (H:Hp) (s:Shared) (e:Value) (s':Shared),CX w [] H s (λ_ _ _=>False) e s'->False) :
  PySem.W.WalkO q loose XP YP l.row.toRowW d [] (λf vs=>PySem.call f vs):=by
 refine Att.lE hn hdf λw s₀ s₁ mg mb fa o pm cd doc a vs ns G Y ho hd hcd hmg hobj hints hlen hg=>?_
 have KX:=hY w _ Y;obtain ⟨fd,hb,hF⟩:=F w mg fa _ KX G.T.g hmg;exact u_ KX G.T.g G.T.b G.T.builtins G.T.nolimit hg hobj hints (ZG hlen hn2) hr hF hb (λH hO hS=>hsp w H a ns hlen hO hS) λH e s'=>hCX w H s₁ e s'
theorem E0 {l:PySem.W.OpenLaw} {q:Program} {loose:List Str} {XP:(Str->Option Value)->Heap->Prop} {YP:World->Heap->Prop} {d:DefRec} {K:Params->PySem.W.Frag} {x:Str} {k:Nat} {fn:Fn} (hn:l.most=some 63) (hdf:d.params.defaults=[]) (hr:Room k callerA)
  (hY:∀(w:World) (h:Heap),YP w h->(K w.params).In h) (hl:∀ns:List Int,ns.length<=63->fn [.list (ns.map PyData.int)]=.ok (.sh (.bool true)))
  (F:∀(w:World) (mg:Str->Option Value) (fa:Addr) (h:Heap),(K w.params).In h->h.Ns mainGlobals mg->mg d.name=some (.ref fa) ->
   ∃fd:FuncData,(∀(s:Shared) (u:Value),BindsTo s fd ⟨[u],[]⟩ [(x,u)])/\∀base:Heap,(K w.params).In base->base.Ns mainGlobals mg->FnOk l.prog w (K w.params) mg base CX0 k fa fd [x] (sp3 (K w.params) mg fn)) :
  PySem.W.WalkO q loose XP YP l.row.toRowW d [] (λf vs=>PySem.call f vs):=by
 refine yg (n:=63) (k:=k) (x:=x) (CX:=λ_=>CX0) (sp:=λw vs H Q E=>∃F ds x,aB F H/\RepAll (K w.params) F vs ds/\fn ds=.ok x/\OkE ⟨K w.params,λ_=>none,E⟩ F H Q x) hn (by decide) hdf hr hY (λw mg fa h a b c=>?_) (λw H a ns hlen _ hS=>?_) λ_ _ _ _ _ z=>z
 ·obtain ⟨fd,h1,h2⟩:=F w mg fa h a b c
  refine ⟨fd,h1,λbase kb nb=>(h2 base kb nb).imp ?_⟩
  rintro vs H Q E ⟨F0,ds,y,sm,ra,e,p⟩;refine ⟨F0,ds,sm,ra,?_⟩;rw [e];exact λv F' H' fx=>p v F' H' fx
 ·refine ⟨H,[.list (ns.map PyData.int)],_,aB.refl _,.cons (.lst hS (RepAll.ofInts ns)) .nil,hl ns hlen,?_⟩
  intro v F' H' fx e r w;cases r.own with
  |sh q =>
   cases q;rfl
end L3
namespace L3
open PySem L2 PySem.Spec PyProof.Rows
theorem fm {P:Program} {w:World} {K:PySem.W.Frag} {mg:Str->Option Value} {base:Heap} {x qual:Str} {st:Stmt} {f:Addr} {fd:FuncData} {N ps:List Str} {k np n:Nat} {body:Fs} {fn:Fn} (hf:fn=bW np n body) (hp:ps.length=np) (hn:N.length=n) (F:Fun K x qual st f fd) (S:FnScope N ps (aj st))
  (h:∀(cdv:Value) (A:Around) (outer:List PySem.Env) (s:Shared) (H:Hp) (E:XK),Room k (A.deeper (envOfC qual (aj st) s.heap.objs.size f cdv))->DSs ⟨K,mg,E⟩ (nN CX0 P w K mg base N qual (aj st) f cdv A outer s H E).nox (aI st) body) :
  FnOk P w K mg base CX0 (k+1) f fd ps (sp3 K mg fn):=by
 subst hf hp hn;exact fn3 F S h
theorem aS {X:Cx} {E:XK}:Passes CX0 X E:=λ_ _ _ _ _ _ _ h=>h.elim
noncomputable def EZ:PyData->PyData->R OD
 |.int i,.int j=>oI (i+j)
 |_,_=>.bad
section
variable {M:Mx} {X:Cx}
end
end L3
namespace L3
open PySem L2
theorem CQ (i:Int):g_ "int" (.int i)=oB true:=rfl
theorem Dn (i:Int):g_ "bool" (.int i)=oB false:=rfl
theorem Cc (i:Int):g_ "str" (.int i)=oB false:=rfl
theorem Ep (i:Int):g_ "list" (.int i)=oB false:=rfl
theorem CO (i:Int):g_ "tuple" (.int i)=oB false:=rfl
theorem BV (i:Bool):g_ "int" (.bool i)=oB true:=rfl
theorem DM (i:Bool):g_ "bool" (.bool i)=oB true:=rfl
theorem DZ (i:Str):g_ "int" (.str i)=oB false:=rfl
theorem Eg (i:Str):g_ "bool" (.str i)=oB false:=rfl
theorem El (i:Str):g_ "str" (.str i)=oB true:=rfl
theorem Ew (i:List PyData):g_ "list" (.list i)=oB true:=rfl
theorem Ct (i:List PyData):g_ "tuple" (.list i)=oB false:=rfl
theorem BM (i:List PyData):g_ "int" (.list i)=oB false:=rfl
theorem EW (i:List PyData):g_ "tuple" (.tuple i)=oB true:=rfl
theorem Ey (i:List PyData):g_ "list" (.tuple i)=oB false:=rfl
theorem DC (i:List PyData):g_ "int" (.tuple i)=oB false:=rfl
theorem Jn:(0<=BIG)=True:=by decide
theorem Ja:(1<=BIG)=True:=by decide
theorem Jx:(2<=BIG)=True:=by decide
theorem IY:(3<=BIG)=True:=by decide
theorem Jw:(4<=BIG)=True:=by decide
theorem ID:(0<BIG)=True:=by decide
theorem rm {g:Fg} {b:Fs} (I:Nat->Env->Prop):∀(ds:List PyData) (k:Nat) (ρ:Env),I k ρ->(∀(i:Nat) (d:PyData) (ρ:Env),ds[i]?=some d->I (k+i) ρ->∃ρ1 ρ2,g (.sh d) ρ=.ok ρ1/\(b ρ1=.ok (.nx ρ2)\/b ρ1=.ok (.ct ρ2))/\I (k+i+1) ρ2) ->
  ∃ρ',cy g b ds ρ=.ok (.nx ρ')/\I (k+ds.length) ρ'
 |[],k,ρ,h,_=>⟨ρ,rfl,h⟩
 |d :: ds,k,ρ,h,st=>by
  obtain ⟨ρ1,ρ2,h1,h2,h3⟩:=st 0 d ρ rfl h;obtain ⟨ρ',e,h4⟩:=rm I ds (k+1) ρ2 h3 λi d' ρ hd hi=>by
   have:=st (i+1) d' ρ (by simpa using hd) (by rw [show k+(i+1)=k+1+i by lia];exact hi)
   rw [show k+(i+1)+1=k+1+i+1 by lia]at this
   exact this
  refine ⟨ρ',?_,by rw [Zr,show k+(ds.length+1)=k+1+ds.length by lia];exact h4⟩
  rw [cy,h1,aV];rcases h2 with h2 | h2
  ·rw [h2,aV]
   exact e
  ·rw [h2,aV]
   exact e
theorem vB {g:Fg} {b:Fs} {ds:List PyData} {ρ:Env} (S:Nat->Env->Prop) (h0:S 0 ρ) (st:∀(i:Nat) (d:PyData) (ρ:Env),ds[i]?=some d->S i ρ->∃ρ1 ρ2,g (.sh d) ρ=.ok ρ1/\(b ρ1=.ok (.nx ρ2)\/b ρ1=.ok (.ct ρ2))/\S (i+1) ρ2) :
  ∃ρ',cy g b ds ρ=.ok (.nx ρ')/\S ds.length ρ':=by
 obtain ⟨ρ',e,h⟩:=rm S ds 0 ρ h0 λi d ρ hd hi=>by
  rw [Nat.zero_add]at hi ⊢;exact st i d ρ hd hi
 exact ⟨ρ',e,by rw [Nat.zero_add]at h;exact h⟩
theorem jd {lo:Int} {n i:Nat} {d:PyData} (h:(jv lo n)[i]?=some d):i<n/\d=.int (lo+i):=by
 unfold jv at h;rw [Za]at h;obtain ⟨j,hj,rfl⟩:=Zp.mp h;obtain ⟨h1,h2⟩:=Zb.mp hj;have h3:i=j:=by simpa using h2
 subst h3;exact ⟨by simpa using h1,rfl⟩
theorem kf (lo:Int) (n:Nat):(jv lo n).length=n:=by unfold jv;simp
theorem uS {t:Ft} {b:Fs} {ρ:Env} {n:Nat} {o:Out} (h:dG t b n ρ=.ok o):gH t b ρ=.ok o:=by
 have mono:∀(n:Nat) (ρ:Env),dG t b n ρ≠.bad->∀m,n<=m->dG t b m ρ=dG t b n ρ:=by
  intro n
  induction n with
  |zero=>intro ρ hn;exact absurd rfl hn
  |succ n ih =>
   intro ρ hn m hm;obtain ⟨m,rfl⟩:∃k,m=k+1:=⟨m-1,by lia⟩
   rw [dG]at hn ⊢;rw [dG];cases ht:t ρ with
   |bad=>rfl
   |ex c=>rfl
   |ok c =>
    rw [ht,aV]at hn;rw [aV,aV];cases c with
    |false=>rfl
    |true =>
     rw [if_pos rfl]at hn ⊢;rw [if_pos rfl];cases hb:b ρ with
     |bad=>rfl
     |ex c=>rfl
     |ok o =>
      rw [hb,aV]at hn;rw [aV,aV];cases o with
      |nx ρ2=>exact ih ρ2 hn m (by lia)
      |ct ρ2=>exact ih ρ2 hn m (by lia)
      |bk ρ2=>rfl
      |rt x=>rfl
 unfold gH;have hx:∃n,dG t b n ρ≠.bad:=⟨n,by rw [h];exact λz=>by cases z⟩
 rw [dif_pos hx];have e1:=mono n ρ (by rw [h];exact λz=>by cases z) (n+hx.choose) (by lia)
 have e2:=mono hx.choose ρ hx.choose_spec (n+hx.choose) (by lia)
 rw [<-e2,e1,h]
theorem vp {t:Ft} {b:Fs} (I:Nat->Env->Prop) (Q:Env->Prop) (st:∀m ρ,I m ρ->(t ρ=.ok false/\Q ρ)\/(t ρ=.ok true/\∃ρ2 m',(b ρ=.ok (.nx ρ2)\/b ρ=.ok (.ct ρ2))/\m'<m/\I m' ρ2)):∀(m:Nat) (ρ:Env),I m ρ->∃ρ',gH t b ρ=.ok (.nx ρ')/\Q ρ':=by
 have go:∀(m:Nat) (ρ:Env),I m ρ->∃n ρ',dG t b n ρ=.ok (.nx ρ')/\Q ρ':=by
  intro m
  induction m using Nat.strongRecOn with
  |ind m ih =>
   intro ρ h;rcases st m ρ h with ⟨h1,h2⟩ | ⟨h1,ρ2,m',h2,h3,h4⟩
   ·exact ⟨1,ρ,by rw [dG,h1];rfl,h2⟩
   ·obtain ⟨n,ρ',e,q⟩:=ih m' h3 ρ2 h4
    refine ⟨n+1,ρ',?_,q⟩;rw [dG,h1,aV,if_pos rfl];rcases h2 with h2 | h2
    ·rw [h2,aV]
     exact e
    ·rw [h2,aV]
     exact e
 intro m ρ h;obtain ⟨n,ρ',e,q⟩:=go m ρ h;exact ⟨ρ',uS e,q⟩
noncomputable def ET:Option (Option OD)->R OD
 |some (some (.sh d))=>.ok (.sh d)
 |_=>.bad
noncomputable def opK (g:PyData->PyData->R OD):R OD->R OD->R OD
 |.ok x,.ok y=>g x.er y.er
 |.ok _,.ex c=>.ex c
 |.ok _,.bad=>.bad
 |.ex c,_=>.ex c
 |.bad,_=>.bad
noncomputable def unK {α β:Type} (g:α->R β):R α->R β
 |.ok x=>g x
 |.ex c=>.ex c
 |.bad=>.bad
noncomputable def DP (r:R Bool) (b:Ft) (ρ:Env):R Bool:=match r with
 |.ok true=>b ρ
 |.ok false=>.ok false
 |.ex c=>.ex c
 |.bad=>.bad
noncomputable def orK (r:R Bool) (b:Ft) (ρ:Env):R Bool:=match r with
 |.ok true=>.ok true
 |.ok false=>b ρ
 |.ex c=>.ex c
 |.bad=>.bad
noncomputable def zL (r:R Bool) (b:Fe) (ρ:Env):R OD:=match r with
 |.ok true=>b ρ
 |.ok false=>.ok (.sh (.bool false))
 |.ex c=>.ex c
 |.bad=>.bad
noncomputable def orV (r:R Bool) (b:Fe) (ρ:Env):R OD:=match r with
 |.ok true=>.ok (.sh (.bool true))
 |.ok false=>b ρ
 |.ex c=>.ex c
 |.bad=>.bad
noncomputable def ifV (r:R Bool) (a b:Fe) (ρ:Env):R OD:=match r with
 |.ok true=>a ρ
 |.ok false=>b ρ
 |.ex c=>.ex c
 |.bad=>.bad
noncomputable def ifK (r:R Bool) (a b:Fs) (ρ:Env):R Out:=match r with
 |.ok true=>a ρ
 |.ok false=>b ρ
 |.ex c=>.ex c
 |.bad=>.bad
noncomputable def Bz:R OD->R (List OD)->R (List OD)
 |.ok x,.ok xs=>.ok (x :: xs)
 |.ok _,.ex c=>.ex c
 |.ok _,.bad=>.bad
 |.ex c,_=>.ex c
 |.bad,_=>.bad
noncomputable def vM (r:R Out) (b:Fs):R Out:=match r with
 |.ok (.nx ρ)=>b ρ
 |.ok o=>.ok o
 |.ex c=>.ex c
 |.bad=>.bad
noncomputable def FR (r:R OD) (g:Fg) (ρ:Env):R Out:=match r with
 |.ok x=>unK (fun ρ'=>.ok (.nx ρ')) (g x ρ)
 |.ex c=>.ex c
 |.bad=>.bad
noncomputable def Gd (r:R (List PyData)) (g:Fg) (b:Fs) (ρ:Env):R Out:=match r with
 |.ok ds=>cy g b ds ρ
 |.ex c=>.ex c
 |.bad=>.bad
noncomputable def BF (r:R (List PyData)) (g:Fg) (t:Ft) (el:Fe) (ρ0:Env):R OD:=match r with
 |.ok ds=>unK (λxs=>.ok (.ol xs)) (cK g t el ρ0 ds [])
 |.ex c=>.ex c
 |.bad=>.bad
noncomputable def slK (g:PyData->Option Int->Option Int->R OD) (a:R OD) (l h:R (Option Int)):R OD:=match a,l,h with
 |.ok x,.ok i,.ok j=>g x.er i j
 |.ok _,.ok _,.ex c=>.ex c
 |.ok _,.ok _,.bad=>.bad
 |.ok _,.ex c,_=>.ex c
 |.ok _,.bad,_=>.bad
 |.ex c,_,_=>.ex c
 |.bad,_,_=>.bad
noncomputable def HK (a:R OD) (b:Fe) (ρ:Env):R OD:=match a with
 |.ok x=>match x.er with
  |.list ds=>unK (λy=>p9 ds y.er) (b ρ)
  |_=>.bad
 |.ex c=>.ex c
 |.bad=>.bad
noncomputable def EM (o:Option (Option OD)) (a:R OD) (i:Nat) (ρ:Env):R Out:=match o with
 |some (some (.ol xs))=>unK (λy=>if xs.length<BIG then .ok (.nx (ρ.set i (some (.ol (xs++[y]))))) else .bad) a
 |_=>.bad
noncomputable def yq:Option (Option OD)->R Out
 |some (some x)=>.ok (.rt x)
 |_=>.bad
noncomputable def CV (o:Option (Option OD)) (i:Nat) (ρ:Env):Env:=match o with
 |some (some x)=>ρ.set i (some (.sh x.er))
 |_=>ρ
noncomputable def Ay:R Out->R OD
 |.ok (.rt x)=>.ok x
 |.ok (.nx _)=>.ok (.sh .none)
 |.ok (.bk _)=>.bad
 |.ok (.ct _)=>.bad
 |.ex c=>.ex c
 |.bad=>.bad
noncomputable def BS (o:Option (Option OD)) (g:PyData->PyData->R OD) (a:R OD) (i:Nat) (ρ:Env):R Out:=match o with
 |some (some (.sh d))=>unK (λy=>unK (λz=>.ok (.nx (ρ.set i (some z)))) (g d y.er)) a
 |_=>.bad
section
variable {ρ:Env} {a b:Fe} {s t:Ft} {p q:Fs}
theorem v_var (i:Nat):af i ρ=ET ρ[i]?:=by
 unfold af ET;rfl
theorem v_c (d:PyData):eC d ρ=.ok (.sh d):=rfl
theorem IV (g:PyData->PyData->R OD):eOp g a b ρ=opK g (a ρ) (b ρ):=by
 unfold eOp;cases a ρ <;> cases b ρ <;> rfl
theorem cC {α β:Type} (r:R α) (g:α->R β):r.bind g=unK g r:=by cases r <;> rfl
theorem IL (g:PyData->R OD):eUn g a ρ=unK (λx=>g x.er) (a ρ):=cC _ _
theorem CD:ay a ρ=unK (λx=>truth x.er) (a ρ):=cC _ _
theorem Ca:qz s t ρ=DP (s ρ) t ρ:=by
 unfold qz;cases s ρ with
 |ok c=>cases c <;> rfl
 |ex c=>rfl
 |bad=>rfl
theorem FF:kP s t ρ=orK (s ρ) t ρ:=by
 unfold kP;cases s ρ with
 |ok c=>cases c <;> rfl
 |ex c=>rfl
 |bad=>rfl
theorem Ex:dX s ρ=unK (λc=>.ok (!c)) (s ρ):=cC _ _
noncomputable def tru (r:R OD):R Bool:=unK (λx=>truth x.er) r
theorem v_and:i_ a b ρ=zL (tru (a ρ)) b ρ:=by
 unfold i_ tru;cases a ρ with
 |ok x =>
  show (truth x.er).bind _=zL (truth x.er) b ρ
  cases truth x.er with
  |ok c=>cases c <;> rfl
  |ex c=>rfl
  |bad=>rfl
 |ex c=>rfl
 |bad=>rfl
theorem v_or:eOr a b ρ=orV (tru (a ρ)) b ρ:=by
 unfold eOr tru;cases a ρ with
 |ok x =>
  show (truth x.er).bind _=orV (truth x.er) b ρ
  cases truth x.er with
  |ok c=>cases c <;> rfl
  |ex c=>rfl
  |bad=>rfl
 |ex c=>rfl
 |bad=>rfl
theorem v_not:xn a ρ=unK (λc=>.ok (.sh (.bool (!c)))) (tru (a ρ)):=by
 unfold xn tru;cases a ρ with
 |ok x =>
  show (truth x.er).bind _=unK _ (truth x.er)
  exact cC _ _
 |ex c=>rfl
 |bad=>rfl
theorem IA:eIf s a b ρ=ifV (s ρ) a b ρ:=by
 unfold eIf;cases s ρ with
 |ok c=>cases c <;> rfl
 |ex c=>rfl
 |bad=>rfl
theorem Dj:au ρ=.ok []:=rfl
theorem zm {r:Fa}:ag a r ρ=Bz (a ρ) (r ρ):=by
 unfold ag;cases a ρ <;> cases r ρ <;> rfl
theorem Ha {r:Fa}:mO r ρ=unK (λxs=>if xs.length<=BIG then .ok (mkT xs) else .bad) (r ρ):=cC _ _
theorem Gp {r:Fa}:fJ r ρ=unK (λxs=>if xs.length<=BIG then .ok (.ol xs) else .bad) (r ρ):=cC _ _
theorem CB {f:Fn} {r:Fa}:aT f r ρ=unK (λxs=>f (xs.map OD.er)) (r ρ):=cC _ _
theorem v_b {f:List PyData->R OD} {r:Fa}:eB f r ρ=unK (λxs=>f (xs.map OD.er)) (r ρ):=cC _ _
theorem Ea:eSh a ρ=unK (λx=>.ok (.sh x.er)) (a ρ):=cC _ _
theorem v_bor:xN a ρ=unK (λx=>if flat x.er=true then .ok (.sh x.er) else .bad) (a (erase ρ)):=cC _ _
theorem Cz:u7 s ρ=s (erase ρ):=rfl
noncomputable def yT:OD->R OD
 |.ol xs=>if xs.all (λy=>flat y.er)=true then .ok (.ol (xs.map λy=>.sh y.er)) else .bad
 |_=>.bad
theorem B_:md a ρ=unK yT (a (erase ρ)):=by
 unfold md;cases a (erase ρ) with
 |ok x=>cases x <;> rfl
 |ex c=>rfl
 |bad=>rfl
theorem Iv:erase []=[]:=rfl
theorem GY (x:OD):erase (some x :: ρ)=some (.sh x.er) :: erase ρ:=rfl
theorem GN:erase (none :: ρ)=none :: erase ρ:=rfl
theorem zX:tj ρ=.ok none:=rfl
noncomputable def yp:PyData->R (Option Int)
 |.int i=>.ok (some i)
 |_=>.bad
theorem zO:kx a ρ=unK (λx=>yp x.er) (a ρ):=by
 unfold kx;rw [cC];cases a ρ with
 |ok x =>
  show (match x.er with | .int i=>R.ok (some i) | _=>.bad)=yp x.er
  cases x.er <;> rfl
 |ex c=>rfl
 |bad=>rfl
theorem Jp {g:PyData->Option Int->Option Int->R OD} {l h:Fo}:eSl g a l h ρ=slK g (a ρ) (l ρ) (h ρ):=by
 unfold eSl;cases a ρ <;> cases l ρ <;> cases h ρ <;> rfl
noncomputable def lstK:PyData->R (List PyData)
 |.list ds=>.ok ds
 |_=>.bad
noncomputable def tupK:PyData->R (List PyData)
 |.tuple ds=>.ok ds
 |_=>.bad
noncomputable def r1K:PyData->R (List PyData)
 |.int j=>if ba j=true then .ok (jv 0 j.toNat) else .bad
 |_=>.bad
noncomputable def enK:PyData->R (List PyData)
 |.list ds=>.ok (dN ds)
 |_=>.bad
theorem ED:gY a ρ=unK (λx=>lstK x.er) (a ρ):=by
 unfold gY;rw [cC];cases a ρ with
 |ok x =>
  show (match x.er with | .list ds=>R.ok ds | _=>.bad)=lstK x.er
  cases x.er <;> rfl
 |ex c=>rfl
 |bad=>rfl
theorem nt:iTp a ρ=unK (λx=>tupK x.er) (a ρ):=by
 unfold iTp;rw [cC];cases a ρ with
 |ok x =>
  show (match x.er with | .tuple ds=>R.ok ds | _=>.bad)=tupK x.er
  cases x.er <;> rfl
 |ex c=>rfl
 |bad=>rfl
theorem Jl:iR1 a ρ=unK (λx=>r1K x.er) (a ρ):=by
 unfold iR1;rw [cC];cases a ρ with
 |ok x =>
  show (match x.er with | .int j=>if ba j=true then R.ok (jv 0 j.toNat) else .bad | _=>.bad)=r1K x.er
  cases x.er <;> rfl
 |ex c=>rfl
 |bad=>rfl
theorem IK:iEn a ρ=unK (λx=>enK x.er) (a ρ):=by
 unfold iEn;rw [cC];cases a ρ with
 |ok x =>
  show (match x.er with | .list ds=>R.ok (dN ds) | _=>.bad)=enK x.er
  cases x.er <;> rfl
 |ex c=>rfl
 |bad=>rfl
noncomputable def AD (g:PyData->PyData->R (List PyData)):R OD->R OD->R (List PyData)
 |.ok x,.ok y=>g x.er y.er
 |.ok _,.ex c=>.ex c
 |.ok _,.bad=>.bad
 |.ex c,_=>.ex c
 |.bad,_=>.bad
theorem IP:iR2 a b ρ=AD r2F (a ρ) (b ρ):=by
 unfold iR2;cases a ρ <;> cases b ρ <;> rfl
theorem Jh:iZp a b ρ=AD F8 (a ρ) (b ρ):=by
 unfold iZp;cases a ρ <;> cases b ρ <;> rfl
theorem FC (i:Nat) (x:OD):gNm i x ρ=.ok (ρ.set i (some x)):=rfl
theorem HV:gm [] ρ=.ok ρ:=rfl
theorem HI {g:Fg} {r:Fgs} {x:OD} {xs:List OD}:bK g r (x :: xs) ρ=unK (fun ρ'=>r xs ρ') (g x ρ):=cC _ _
theorem FJ {n:Nat} {r:Fgs} {ds:List PyData}:gTp n r (.sh (.tuple ds)) ρ=if ds.length=n then r (ds.map OD.sh) ρ else .bad:=rfl
theorem GB {n:Nat} {r:Fgs} {xs:List OD}:gTp n r (.ot xs) ρ=if xs.length=n then r xs ρ else .bad:=rfl
theorem Cn {it:Fi} {g:Fg} {k:Nat} {outs:List Nat}:dH it g t a k outs ρ=BF (it ρ) g t a (sl3 k outs ρ):=by
 unfold dH;cases it ρ with
 |ok ds=>exact cC _ _
 |ex c=>rfl
 |bad=>rfl
theorem HE {k:Nat} {outs:List Nat}:sl3 k outs ρ=List.replicate k none++outs.map λi=>lB ρ[i]?:=rfl
theorem Jt:sNx ρ=.ok (.nx ρ):=rfl
theorem Ji:sBk ρ=.ok (.bk ρ):=rfl
theorem IS:sCt ρ=.ok (.ct ρ):=rfl
theorem HZ:aH p q ρ=vM (p ρ) q:=by
 unfold aH;cases p ρ with
 |ok o=>cases o <;> rfl
 |ex c=>rfl
 |bad=>rfl
theorem Fz {g:Fg}:AF a g ρ=FR (a ρ) g ρ:=by
 unfold AF;cases a ρ with
 |ok x=>exact cC _ _
 |ex c=>rfl
 |bad=>rfl
theorem Ic (i:Nat):bU i a ρ=unK (λx=>.ok (.nx (ρ.set i (some x)))) (a ρ):=cC _ _
theorem Dq:gT a ρ=unK (λ_=>.ok (.nx ρ)) (a ρ):=cC _ _
theorem HJ:bI a ρ=unK (λx=>.ok (.rt x)) (a ρ):=cC _ _
theorem DL:EY ρ=.ok (.rt (.sh .none)):=rfl
theorem Dd (i:Nat):kL i ρ=yq ρ[i]?:=by
 unfold kL yq;rfl
theorem Hf:sIf s p q ρ=ifK (s ρ) p q ρ:=by
 unfold sIf;cases s ρ with
 |ok c=>cases c <;> rfl
 |ex c=>rfl
 |bad=>rfl
theorem Gf (i:Nat):qi i p ρ=p (yj i ρ):=rfl
theorem Em (i:Nat):yj i ρ=CV ρ[i]? i ρ:=by
 unfold yj CV;rfl
theorem Fv (i:Nat) {g:PyData->PyData->R OD}:Io i g a ρ=BS ρ[i]? g (a ρ) i ρ:=by
 unfold Io BS;generalize ρ[i]?=o
 cases o with
 |none=>rfl
 |some o =>
  cases o with
  |none=>rfl
  |some x =>
   cases x with
   |sh d =>
    show ((a ρ).bind λy=>(g d y.er).bind λz=>R.ok (Out.nx (ρ.set i (some z))))=_
    rw [cC];show unK _ (a ρ)=unK _ (a ρ)
    first
     |done
     | (congr 1;funext y;exact cC _ _)
     | (congr 1)
   |ol xs=>rfl
   |ot xs=>rfl
   |od xs=>rfl
   |oi _ _ _=>rfl
   |pl _ _=>rfl
theorem Fx (i:Nat):nV i a ρ=EM ρ[i]? (a ρ) i ρ:=by
 unfold nV EM;generalize ρ[i]?=o
 cases o with
 |none=>rfl
 |some o =>
  cases o with
  |none=>rfl
  |some x =>
   cases x with
   |sh d=>rfl
   |ol xs=>exact cC _ _
   |ot xs=>rfl
   |od xs=>rfl
   |oi _ _ _=>rfl
   |pl _ _=>rfl
theorem Ho {it:Fi} {g:Fg}:gX it g p ρ=Gd (it ρ) g p ρ:=by
 unfold gX;cases it ρ <;> rfl
theorem Gh (T:String):eW T a ρ=unK (λx=>g_ T x.er) (a ρ):=cC _ _
theorem Gx:uP a b ρ=HK (a ρ) b ρ:=by
 unfold uP;cases a ρ with
 |ok x =>
  show (match x.er with | .list ds=>(b ρ).bind λy=>p9 ds y.er | _=>.bad)=(match x.er with | .list ds=>unK (λy=>p9 ds y.er) (b ρ) | _=>.bad)
  cases x.er with
  |list ds=>exact cC _ _
  |_=>rfl
 |ex c=>rfl
 |bad=>rfl
theorem Hy {np n:Nat} {ds:List PyData}:bW np n p ds=if ds.length=np then Ay (p (kK n ds)) else .bad:=by
 unfold bW;congr 1
 cases p (kK n ds) with
 |ok o=>cases o <;> rfl
 |ex c=>rfl
 |bad=>rfl
theorem Iw (d:PyData):ET (some (some (.sh d)))=.ok (.sh d):=rfl
theorem IB {g:PyData->PyData->R OD} {x y:OD}:opK g (.ok x) (.ok y)=g x.er y.er:=rfl
theorem Fj {g:PyData->PyData->R (List PyData)} {x y:OD}:AD g (.ok x) (.ok y)=g x.er y.er:=rfl
theorem Jc {α β:Type} {g:α->R β} {x:α}:unK g (.ok x)=g x:=rfl
theorem HY {α β:Type} {g:α->R β} {c:Str}:unK g (.ex c)=.ex c:=rfl
theorem CM:DP (.ok true) t ρ=t ρ:=rfl
theorem Cj:DP (.ok false) t ρ=.ok false:=rfl
theorem Hg:orK (.ok true) t ρ=.ok true:=rfl
theorem E_:orK (.ok false) t ρ=t ρ:=rfl
theorem AI:zL (.ok true) a ρ=a ρ:=rfl
theorem zT:zL (.ok false) a ρ=.ok (.sh (.bool false)):=rfl
theorem C3:orV (.ok true) a ρ=.ok (.sh (.bool true)):=rfl
theorem Cy:orV (.ok false) a ρ=a ρ:=rfl
theorem CG:ifV (.ok true) a b ρ=a ρ:=rfl
theorem DD:ifV (.ok false) a b ρ=b ρ:=rfl
theorem G9:ifK (.ok true) p q ρ=p ρ:=rfl
theorem G6:ifK (.ok false) p q ρ=q ρ:=rfl
theorem C5 {x:OD} {xs:List OD}:Bz (.ok x) (.ok xs)=.ok (x :: xs):=rfl
theorem Gb:vM (.ok (.nx ρ)) p=p ρ:=rfl
theorem C_ {x:OD}:vM (.ok (.rt x)) p=.ok (.rt x):=rfl
theorem Eh:vM (.ok (.ct ρ)) p=.ok (.ct ρ):=rfl
theorem Dr:vM (.ok (.bk ρ)) p=.ok (.bk ρ):=rfl
theorem GA {x:OD} {g:Fg}:FR (.ok x) g ρ=unK (fun ρ'=>.ok (.nx ρ')) (g x ρ):=rfl
theorem Hb {ds:List PyData} {g:Fg}:Gd (.ok ds) g p ρ=cy g p ds ρ:=rfl
theorem DY {ds:List PyData} {g:Fg}:BF (.ok ds) g t a ρ=unK (λxs=>.ok (.ol xs)) (cK g t a ρ ds []):=rfl
theorem IW {g:PyData->Option Int->Option Int->R OD} {x:OD} {i j:Option Int}:slK g (.ok x) (.ok i) (.ok j)=g x.er i j:=rfl
theorem GD {xs:List OD} {y:OD} {i:Nat}:EM (some (some (.ol xs))) (.ok y) i ρ=if xs.length<BIG then .ok (.nx (ρ.set i (some (.ol (xs++[y]))))) else .bad:=rfl
theorem Dw {x:OD}:yq (some (some x))=.ok (.rt x):=rfl
theorem HS {x:OD} {i:Nat}:CV (some (some x)) i ρ=ρ.set i (some (.sh x.er)):=rfl
theorem EK {x:OD}:Ay (.ok (.rt x))=.ok x:=rfl
theorem Cr:Ay (.ok (.nx ρ))=.ok (.sh .none):=rfl
theorem Ip (x:OD):tru (.ok x)=truth x.er:=rfl
theorem Al (c:Bool):truth (.bool c)=.ok c:=rfl
theorem Hr {ds:List PyData}:HK (.ok (.sh (.list ds))) b ρ=unK (λy=>p9 ds y.er) (b ρ):=rfl
theorem EX {d:PyData} {g:PyData->PyData->R OD} {y:OD} {i:Nat}:BS (some (some (.sh d))) g (.ok y) i ρ=unK (λz=>.ok (.nx (ρ.set i (some z)))) (g d y.er):=rfl
theorem G8 (ds:List PyData):lstK (.list ds)=.ok ds:=rfl
theorem Fm (ds:List PyData):tupK (.tuple ds)=.ok ds:=rfl
theorem Jr (ds:List PyData):enK (.list ds)=.ok (dN ds):=rfl
theorem IQ (j:Int):r1K (.int j)=if ba j=true then .ok (jv 0 j.toNat) else .bad:=rfl
theorem Jy (i j:Int):r2F (.int i) (.int j)=if (ba i && ba j)=true then .ok (jv i (j-i).toNat) else .bad:=rfl
theorem GF (ds es:List PyData):F8 (.list ds) (.list es)=.ok (lX ds es):=rfl
theorem EC (i:Int):yp (.int i)=.ok (some i):=rfl
theorem B0 (n:Nat) (ds:List PyData):kK n ds=(ds.map λd=>some (OD.sh d))++List.replicate (n-ds.length) none:=rfl
theorem HW (d:PyData):lB (some (some (.sh d)))=some (.sh d):=rfl
theorem H_:lB (some none)=none:=rfl
theorem Eb (xs:List OD):lB (some (some (.ol xs)))=none:=rfl
theorem F6 (d:PyData):mkT [.sh d]=.sh (.tuple [d]):=rfl
theorem FO (d e:PyData):mkT [.sh d,.sh e]=.sh (.tuple [d,e]):=rfl
theorem Ik (d e f:PyData):mkT [.sh d,.sh e,.sh f]=.sh (.tuple [d,e,f]):=rfl
theorem Ig (d e f g:PyData):mkT [.sh d,.sh e,.sh f,.sh g]=.sh (.tuple [d,e,f,g]):=rfl
theorem G5 (i j:Int):gj (.int i) (.int j)=.ok (.sh (.int (i+j))):=rfl
theorem Iq (i j:Int):Hn (.int i) (.int j)=.ok (.sh (.int (i-j))):=rfl
theorem FN (i j:Int):jQ (.int i) (.int j)=if iU i j=true then .ok (.sh (.int (i * j))) else .bad:=rfl
theorem GP (i j:Int):gI (.int i) (.int j)=if 0<j then .ok (.sh (.int (i % j))) else .bad:=rfl
theorem Hk (i j:Int):nE (.int i) (.int j)=if 0<j/\j<1073741824 then .ok (.sh (.int (i / j))) else .bad:=rfl
theorem GQ (i j:Int):I_ (.int i) (.int j)=if 0<=j/\j<=1000000/\i.natAbs<2 ^ 64 then .ok (.sh (.int (i ^ j.toNat))) else .bad:=rfl
theorem GW (i:Int):jw (.int i)=.ok (.sh (.int (-i))):=rfl
theorem Jf (i j:Int):gLt (.int i) (.int j)=.ok (.sh (.bool (decide (i<j)))):=rfl
theorem Js (i j:Int):gLe (.int i) (.int j)=.ok (.sh (.bool (decide (i<=j)))):=rfl
theorem IF (i j:Int):gGt (.int i) (.int j)=.ok (.sh (.bool (decide (j<i)))):=rfl
theorem Jd (i j:Int):gGe (.int i) (.int j)=.ok (.sh (.bool (decide (j<=i)))):=rfl
theorem II (i j:Int):gEq (.int i) (.int j)=.ok (.sh (.bool (decide (i=j)))):=rfl
theorem Jq (i j:Int):gNe (.int i) (.int j)=.ok (.sh (.bool (!decide (i=j)))):=rfl
theorem Dl (i j:Int):EZ (.int i) (.int j)=.ok (.sh (.int (i+j))):=rfl
theorem Ht (xs:List PyData) (i:Int):gIx (.list xs) (.int i)=fZ (atI xs i):=rfl
theorem HR (xs:List PyData) (i:Int):gIx (.tuple xs) (.int i)=fZ (atI xs i):=rfl
theorem CJ (xs:List PyData):dJ [.list xs]=.ok (.sh (.int xs.length)):=rfl
theorem EF (xs:List PyData):dJ [.tuple xs]=.ok (.sh (.int xs.length)):=rfl
theorem Ci (x:Str):dJ [.str x]=if x.length<=BIG then .ok (.sh (.int x.length)) else .bad:=rfl
theorem Ed (i j:Int):t8 [.int i,.int j]=.ok (.sh (.int (if j<i then j else i))):=rfl
theorem Es (i j:Int):HP [.int i,.int j]=.ok (.sh (.int (if i<j then j else i))):=rfl
theorem CN (ds:List PyData):gN [.list ds]=.ok (.ol (ds.map OD.sh)):=rfl
theorem Iu (i:Int):vv [.int i]=.ok (.sh (.int i)):=rfl
theorem Ek (c:Bool):vv [.bool c]=.ok (.sh (.int (if c then 1 else 0))):=rfl
theorem Ff (ns:List Int) (z:Int) (h:z∈ns):p9 (ns.map PyData.int) (.int z)=.ok (.sh (.int (ns.idxOf z:Nat))):=by
 show (match dZ (ns.map PyData.int) with | some ns=>if z∈ns then oI (ns.idxOf z:Nat) else .bad | none=>.bad)=_
 rw [gL];show (if z∈ns then oI (ns.idxOf z:Nat) else .bad)=_
 rw [if_pos h];rfl
theorem Fp (xs:List PyData) (i j:Option Int):w8 (.list xs) i j=.ok (.ol ((cutD xs i j).map OD.sh)):=rfl
theorem Dc (d:PyData):fZ (some d)=.ok (.sh d):=rfl
theorem at0 {α:Type} (x:α) (xs:List α):atI (x :: xs) 0=some x:=by
 have:atI (x :: xs) ((0:Nat):Int)=some x:=dj rfl;exact this
theorem at1 {α:Type} (x y:α) (xs:List α):atI (x :: y :: xs) 1=some y:=by
 have:atI (x :: y :: xs) ((1:Nat):Int)=some y:=dj rfl;exact this
theorem at2 {α:Type} (x y z:α) (xs:List α):atI (x :: y :: z :: xs) 2=some z:=by
 have:atI (x :: y :: z :: xs) ((2:Nat):Int)=some z:=dj rfl;exact this
theorem FP (c:Bool):oB c=.ok (.sh (.bool c)):=rfl
end
theorem zw {i j:Int} (h1:-18446744073709551616<i) (h2:i<18446744073709551616):iU i j=true:=by
 unfold iU;rw [Bool.or_eq_true,Zv,decide_eq_true_eq,decide_eq_true_eq];exact .inl ⟨by lia,by lia⟩
theorem IJ {i j:Int} (h1:-18446744073709551616<j) (h2:j<18446744073709551616):iU i j=true:=by
 unfold iU;rw [Bool.or_eq_true,Zv,Zv,decide_eq_true_eq,decide_eq_true_eq,decide_eq_true_eq,decide_eq_true_eq];exact .inr ⟨by lia,by lia⟩
theorem sI {i:Int} (h1:-4611686018427387904<=i) (h2:i<4611686018427387904):ba i=true:=gU.mpr ⟨by lia,by lia⟩
theorem ja {n:Nat} (h:n<1000):(n<BIG)=True:=eq_true (ZI h (by decide))
theorem cJ {n:Nat} (h:n<=1000):(n<=BIG)=True:=eq_true (ZG h (by decide))
theorem fA (i:Int) {j:Int} (h:0<j):0<=i % j/\i % j<j:=⟨Int.emod_nonneg _ (by lia),Int.emod_lt_of_pos _ h⟩
theorem rT {α:Type} (xs:List α) (i:Int) (h0:0<=i) (h1:i<xs.length):∃x,xs[i.toNat]?=some x/\atI xs i=some x:=by
 obtain ⟨j,rfl⟩:∃j:Nat,i=j:=⟨i.toNat,by lia⟩
 have hj:j<xs.length:=by lia
 exact ⟨xs[j],by simp [hj],dj (by simp [hj])⟩
theorem xS {g:Fg} {b:Fs} {ds:List PyData} {ρ:Env} {r:R Out} (hL:cy g b ds ρ=r) (S:Nat->Env->Prop) (h0:S 0 ρ) (st:∀(i:Nat) (d:PyData) (ρ:Env),ds[i]?=some d->S i ρ->∃ρ1 ρ2,g (.sh d) ρ=.ok ρ1/\(b ρ1=.ok (.nx ρ2)\/b ρ1=.ok (.ct ρ2))/\S (i+1) ρ2) :
  ∃ρ',r=.ok (.nx ρ')/\S ds.length ρ':=by
 obtain ⟨ρ',e,h⟩:=vB S h0 st;exact ⟨ρ',by rw [<-hL,e],h⟩
noncomputable def lA (S:Env->Prop):R Out->Prop
 |.ok (.nx ρ)=>S ρ
 |.ok (.ct ρ)=>S ρ
 |_=>False
theorem Gq {S:Env->Prop} {ρ:Env}:lA S (.ok (.nx ρ))=S ρ:=rfl
theorem HB {S:Env->Prop} {ρ:Env}:lA S (.ok (.ct ρ))=S ρ:=rfl
theorem uA {S:Env->Prop} {b:Fs} {r:R Env} (h:lA S (unK b r)):∃ρ1 ρ2,r=.ok ρ1/\(b ρ1=.ok (.nx ρ2)\/b ρ1=.ok (.ct ρ2))/\S ρ2:=by
 cases r with
 |ok ρ1 =>
  have h':lA S (b ρ1):=h;cases hb:b ρ1 with
  |ok o =>
   rw [hb]at h';cases o with
   |nx ρ2=>exact ⟨ρ1,ρ2,rfl,.inl hb,h'⟩
   |ct ρ2=>exact ⟨ρ1,ρ2,rfl,.inr hb,h'⟩
   |bk _=>exact h'.elim
   |rt _=>exact h'.elim
  |ex _=>rw [hb]at h';exact h'.elim
  |bad=>rw [hb]at h';exact h'.elim
 |ex c=>exact h.elim
 |bad=>exact h.elim
theorem gc {P:Prop} {g:Fg} {b:Fs} {ds:List PyData} {ρ:Env} {r:R Out} (hL:cy g b ds ρ=r) (S:Nat->Env->Prop) (h0:S 0 ρ) (st:∀(i:Nat) (d:PyData) (ρ:Env),ds[i]?=some d->S i ρ->lA (S (i+1)) (unK b (g (.sh d) ρ)))
  (fin:∀ρ',r=.ok (.nx ρ')->S ds.length ρ'->P):P:=by
 obtain ⟨ρ',e,h⟩:=xS hL S h0 λi d ρ hd hS=>by
  obtain ⟨ρ1,ρ2,a,b,c⟩:=uA (st i d ρ hd hS);exact ⟨ρ1,ρ2,a,b,c⟩
 exact fin ρ' e h
theorem uh {P:Prop} {t:Ft} {b:Fs} {ρ:Env} {r:R Out} (hL:gH t b ρ=r) (I:Nat->Env->Prop) (m:Nat) (h0:I m ρ) (Q:Env->Prop) (st:∀m ρ,I m ρ->(t ρ=.ok false/\Q ρ)\/(t ρ=.ok true/\lA (fun ρ2=>∃m',m'<m/\I m' ρ2) (b ρ)))
  (fin:∀ρ',r=.ok (.nx ρ')->Q ρ'->P):P:=by
 obtain ⟨ρ',e,h⟩:=vp I Q (λm ρ hI=>by
  rcases st m ρ hI with h | ⟨h1,h2⟩
  ·exact .inl h
  ·obtain ⟨ρ1,ρ2,a,b,m',c,d⟩:=uA (r:=.ok ρ) h2
   cases a;exact .inr ⟨h1,ρ2,m',b,c,d⟩) m ρ h0
 exact fin ρ' (by rw [<-hL,e]) h
noncomputable def DX (o:Option (Option OD)) (a k:R OD) (i:Nat) (ρ:Env):R Out:=match o with
 |some (some (.ol xs))=>unK (λy=>unK (λz=>match z.er with
  |.int q=>match ixN xs.length q with
   |some j=>.ok (.nx (ρ.set i (some (.ol (xs.set j y)))))
   |none=>.bad
  |_=>.bad) k) a
 |_=>.bad
theorem nv {β:Type} (o:Option (Option OD)):o=none\/o=some none\/(∃d,o=some (some (.sh d)))\/(∃xs,o=some (some (.ol xs)))\/(∃xs,o=some (some (.ot xs)))\/(∃xs,o=some (some (.od xs)))\/(∃p nm xs,o=some (some (.oi p nm xs)))\/∃a xs,o=some (some (.pl a xs)):=by
 cases o with
 |none=>exact .inl rfl
 |some o =>
  cases o with
  |none=>exact .inr (.inl rfl)
  |some x =>
   cases x with
   |sh d=>exact .inr (.inr (.inl ⟨d,rfl⟩))
   |ol xs=>exact .inr (.inr (.inr (.inl ⟨xs,rfl⟩)))
   |ot xs=>exact .inr (.inr (.inr (.inr (.inl ⟨xs,rfl⟩))))
   |od xs=>exact .inr (.inr (.inr (.inr (.inr (.inl ⟨xs,rfl⟩)))))
   |oi p nm xs=>exact .inr (.inr (.inr (.inr (.inr (.inr (.inl ⟨p,nm,xs,rfl⟩))))))
   |pl a xs=>exact .inr (.inr (.inr (.inr (.inr (.inr (.inr ⟨a,xs,rfl⟩))))))
section
variable {ρ:Env} {a b k:Fe} {s t:Ft} {p q:Fs}
theorem v_sub (i:Nat):uV i k a ρ=DX ρ[i]? (a ρ) (k ρ) i ρ:=by
 unfold uV DX;generalize ρ[i]?=o
 rcases nv (β:=Nat) o with rfl | rfl | ⟨d,rfl⟩ | ⟨xs,rfl⟩ | ⟨xs,rfl⟩ | ⟨xs,rfl⟩ | ⟨p,nm,xs,rfl⟩ | ⟨c,xs,rfl⟩
 ·rfl
 ·rfl
 ·rfl
 ·cases a ρ <;> cases k ρ <;> rfl
 ·rfl
 ·rfl
 ·rfl
 ·rfl
theorem Hd {xs:List OD} {y:OD} {z:Int} {i j:Nat} (h:ixN xs.length z=some j):DX (some (some (.ol xs))) (.ok y) (.ok (.sh (.int z))) i ρ=.ok (.nx (ρ.set i (some (.ol (xs.set j y))))):=by
 show (match (OD.sh (PyData.int z)).er with
  |.int q=>match ixN xs.length q with
   |some j=>R.ok (Out.nx (ρ.set i (some (.ol (xs.set j y)))))
   |none=>.bad
  |_=>.bad)=_
 rw [cq];show (match ixN xs.length z with
   |some j=>R.ok (Out.nx (ρ.set i (some (.ol (xs.set j y)))))
   |none=>.bad)=_
 rw [h]
theorem qr {n j:Nat} (h:j<n):ixN n (j:Int)=some j:=by
 unfold ixN;rw [if_pos (by lia),if_pos (by lia)]
 simp
noncomputable def Cf (o:Option (Option OD)) (i:Nat) (ρ:Env):R Out:=match o with
 |some (some (.ol xs))=>.ok (.nx (ρ.set i (some (.ol xs.reverse))))
 |_=>.bad
noncomputable def EH (o:Option (Option OD)) (i:Nat) (ρ:Env):R Out:=match o with
 |some (some (.ol xs))=>.ok (.nx (ρ.set i (some (.ol []))))
 |_=>.bad
theorem FY (i:Nat):HF i ρ=Cf ρ[i]? i ρ:=by unfold HF Cf;rfl
theorem Hm (i:Nat):uJ i ρ=EH ρ[i]? i ρ:=by unfold uJ EH;rfl
theorem FK {xs:List OD} {i:Nat}:Cf (some (some (.ol xs))) i ρ=.ok (.nx (ρ.set i (some (.ol xs.reverse)))):=rfl
theorem Gj {xs:List OD} {i:Nat}:EH (some (some (.ol xs))) i ρ=.ok (.nx (ρ.set i (some (.ol [])))):=rfl
noncomputable def zj (o:Option (Option OD)) (g:Fg) (i:Nat) (ρ:Env):R Out:=match o with
 |some (some (.ol xs))=>match xs.getLast? with
  |some (.sh d)=>unK (fun ρ'=>.ok (.nx ρ')) (g (.sh d) (ρ.set i (some (.ol xs.dropLast))))
  |_=>.bad
 |_=>.bad
theorem He (i:Nat) {g:Fg}:vK i g ρ=zj ρ[i]? g i ρ:=by
 unfold vK zj;generalize ρ[i]?=o
 rcases nv (β:=Nat) o with rfl | rfl | ⟨d,rfl⟩ | ⟨xs,rfl⟩ | ⟨xs,rfl⟩ | ⟨xs,rfl⟩ | ⟨p,nm,xs,rfl⟩ | ⟨c,xs,rfl⟩
 ·rfl
 ·rfl
 ·rfl
 ·show (match xs.getLast? with
   |some (.sh d)=>(g (.sh d) (ρ.set i (some (.ol xs.dropLast)))).bind fun ρ'=>R.ok (Out.nx ρ')
   |_=>.bad)=(match xs.getLast? with
   |some (.sh d)=>unK (fun ρ'=>R.ok (Out.nx ρ')) (g (.sh d) (ρ.set i (some (.ol xs.dropLast))))
   |_=>R.bad)
  cases xs.getLast? with
  |none=>rfl
  |some x =>
   cases x with
   |sh d=>exact cC _ _
   |ol _=>rfl
   |ot _=>rfl
   |od _=>rfl
   |oi _ _ _=>rfl
   |pl _ _=>rfl
 ·rfl
 ·rfl
 ·rfl
 ·rfl
theorem tu {xs:List OD} {d:PyData} {i:Nat} {g:Fg}:zj (some (some (.ol (xs++[.sh d])))) g i ρ=unK (fun ρ'=>R.ok (Out.nx ρ')) (g (.sh d) (ρ.set i (some (.ol xs)))):=by
 have h1:(xs++[OD.sh d]).getLast?=some (.sh d):=by simp
 unfold zj;simp only [h1,List.dropLast_concat]
noncomputable def Eo (o:Option (Option OD)) (a:R OD) (i:Nat) (ρ:Env):R Out:=match o with
 |some (some (.ol xs))=>unK (λy=>match y with
  |.ol ys=>if xs.length+ys.length<=BIG then .ok (.nx (ρ.set i (some (.ol (xs++ys))))) else .bad
  |_=>.bad) a
 |_=>.bad
theorem GG (i:Nat):GR i a ρ=Eo ρ[i]? (a ρ) i ρ:=by
 unfold GR Eo;generalize ρ[i]?=o
 rcases nv (β:=Nat) o with rfl | rfl | ⟨d,rfl⟩ | ⟨xs,rfl⟩ | ⟨xs,rfl⟩ | ⟨xs,rfl⟩ | ⟨p,nm,xs,rfl⟩ | ⟨c,xs,rfl⟩
 ·rfl
 ·rfl
 ·rfl
 ·cases a ρ with
  |ok y=>cases y <;> rfl
  |ex c=>rfl
  |bad=>rfl
 ·rfl
 ·rfl
 ·rfl
 ·rfl
theorem F9 {xs ys:List OD} {i:Nat}:Eo (some (some (.ol xs))) (.ok (.ol ys)) i ρ=if xs.length+ys.length<=BIG then .ok (.nx (ρ.set i (some (.ol (xs++ys))))) else .bad:=rfl
theorem Aq {i:Nat} {xs ys:List OD} {z:Int} {j:Nat} {y:OD} (h1:ρ[i]?=some (some (.ol xs))) (h2:k ρ=.ok (.sh (.int z))) (h3:ixN xs.length z=some j) (h4:xs[j]?=some (.ol ys)) (h5:a ρ=.ok y) (h6:ys.length<BIG) :
  kX i k a ρ=.ok (.nx (ρ.set i (some (.ol (xs.set j (.ol (ys++[y]))))))):=by
 unfold kX;rw [h1,h2];simp only [aV,cq,h3,h4,h5,h6,if_true]
end
theorem jS {α:Type} {g:Fg} {el:Fe} {ρ0:Env} {ds:List PyData} {r:R (List OD)} (hL:cK g h_ el ρ0 ds []=r) (emb:α->PyData) (y:α->OD) (L:List α) (e:ds=L.map emb) (hl:L.length<=BIG) (h:∀x∈L,unK el (g (.sh (emb x)) ρ0)=.ok (y x)):r=.ok (L.map y):=by
 subst e;rw [<-hL];have go:∀(L:List α) (acc:List OD),(∀x∈L,unK el (g (.sh (emb x)) ρ0)=.ok (y x))->acc.length+L.length<=BIG->cK g h_ el ρ0 (L.map emb) acc=.ok (acc++L.map y):=by
  intro L
  induction L with
  |nil=>intro acc _ _;rw [List.map_nil,cK,List.map_nil,Zx]
  |cons x L ih =>
   intro acc h hl;have hx:=h x Zf;rw [Zr]at hl;rw [Zk,cK];cases hg:g (.sh (emb x)) ρ0 with
   |ok ρ =>
    rw [hg]at hx;have hx':el ρ=.ok (y x):=hx;simp only [qq,aV,h_,if_true,hx'];rw [if_pos (by lia),ih (acc++[y x]) (λz hz=>h z (Ze _ hz)) (by rw [Zd,List.length_singleton];lia),Zk,ZD]
    rfl
   |ex c=>rw [hg]at hx;cases hx
   |bad=>rw [hg]at hx;cases hx
 rw [go L [] h (by simpa using hl)]
 rfl
theorem jo {α:Type} {g:Fg} {t:Ft} {el:Fe} {ρ0:Env} {ds:List PyData} {r:R (List OD)} (hL:cK g t el ρ0 ds []=r) (emb:α->PyData) (p:α->Bool) (y:α->OD) (L:List α) (e:ds=L.map emb) (hl:L.length<=BIG) (h:∀x∈L,unK t (g (.sh (emb x)) ρ0)=.ok (p x)/\(p x=true->unK el (g (.sh (emb x)) ρ0)=.ok (y x))):r=.ok ((L.filter p).map y):=by
 subst e;rw [<-hL];have go:∀(L:List α) (acc:List OD),(∀x∈L,unK t (g (.sh (emb x)) ρ0)=.ok (p x)/\(p x=true->unK el (g (.sh (emb x)) ρ0)=.ok (y x)))->acc.length+L.length<=BIG->cK g t el ρ0 (L.map emb) acc=.ok (acc++(L.filter p).map y):=by
  intro L
  induction L with
  |nil=>intro acc _ _;rw [List.map_nil,cK,List.filter_nil,List.map_nil,Zx]
  |cons x L ih =>
   intro acc h hl;obtain ⟨hx,hy⟩:=h x Zf;rw [Zr]at hl;rw [Zk,cK];cases hg:g (.sh (emb x)) ρ0 with
   |ok ρ =>
    rw [hg]at hx hy;have hx':t ρ=.ok (p x):=hx;have hy':p x=true->el ρ=.ok (y x):=hy;simp only [qq,aV,hx'];by_cases hp:p x=true
    ·rw [if_pos hp,hy' hp]
     simp only [aV];rw [if_pos (by lia),ih (acc++[y x]) (λz hz=>h z (Ze _ hz)) (by rw [Zd,List.length_singleton];lia),List.filter_cons_of_pos hp,Zk,ZD]
     rfl
    ·rw [if_neg hp,ih acc (λz hz=>h z (Ze _ hz)) (by lia),List.filter_cons_of_neg hp]
   |ex c=>rw [hg]at hx;cases hx
   |bad=>rw [hg]at hx;cases hx
 rw [go L [] h (by simpa using hl)]
 rfl
noncomputable def lay (n:Nat) (d:PyData):Prop:=d.canLay0=true/\d.depth<=n
theorem zi (i:Int):lay 0 (.int i):=⟨rfl,Zn _⟩
theorem sT {n:Nat}:∀{xs:List PyData},(∀x∈xs,lay n x)->PyData.canLayAll0 xs=true/\PyData.depthAll xs<=n
 |[],_=>⟨rfl,Nat.zero_le _⟩
 |x :: xs,h=>by
  obtain ⟨a1,a2⟩:=h x Zf;obtain ⟨b1,b2⟩:=sT (xs:=xs) λy hy=>h y (Ze _ hy)
  unfold PyData.canLayAll0 PyData.depthAll;rw [a1,b1];exact ⟨rfl,by lia⟩
theorem wJ {n:Nat} {xs:List PyData} (h:∀x∈xs,lay n x):lay (n+1) (.list xs):=by
 obtain ⟨b1,b2⟩:=sT h;refine ⟨by unfold PyData.canLay0;exact b1,?_⟩
 unfold PyData.depth
 lia
theorem fw {n:Nat} {d:PyData} (h:lay n d) (hn:n<=64):SeqAt.shaped d=true:=by
 unfold SeqAt.shaped;rw [Zv];exact ⟨h.1,decide_eq_true (ZG h.2 hn)⟩
theorem lay_ints (ns:List Int):lay 1 (.list (ns.map PyData.int)):=wJ λx hx=>by
 obtain ⟨n,_,rfl⟩:=ZC.mp hx;exact zi n
theorem mZ (a b:List PyData):eqD (.list a) (.list b)=jV (.list a) (.list b):=rfl
theorem vh {n:Nat} {d:PyData} (h:lay n d) (hn:n<=64):jV d d=.ok true:=by
 unfold jV;rw [fw h hn,Bool.and_self,if_pos rfl,SeqAt.eqv_refl _ (SeqAt.canLay_of_shaped (fw h hn))]
theorem qO {n:Nat} {a:List PyData} (h:lay n (.list a)) (hn:n<=64:=by decide):gNe (.list a) (.list a)=.ok (.sh (.bool false)):=by
 unfold gNe;rw [mZ,vh h hn];rfl
theorem HN (z:Str) (i:Int):gIx (.str z) (.int i)=if z.length<=BIG then fZ ((atI z.cps.toList i).map λc=>.str ⟨#[c]⟩) else .bad:=rfl
theorem Cg (x y:Str):gj (.str x) (.str y)=if x.length+y.length<=BIG then .ok (.sh (.str (x++y))) else .bad:=rfl
theorem BZ (x y:List PyData):gj (.list x) (.list y)=if x.length+y.length<=BIG then .ok (.ol ((x++y).map OD.sh)) else .bad:=rfl
theorem C0 (xs:List PyData) (k:Int):jQ (.list xs) (.int k)=if (decide (-(2 ^ 63)<=k) && decide (k<2 ^ 63) && decide (xs.length * k.toNat<=BIG))=true then .ok (.ol ((List.replicate k.toNat xs).flatten.map OD.sh)) else .bad:=rfl
theorem tQ (x:PyData) (n:Nat) (h:n<=1000):jQ (.list [x]) (.int n)=.ok (.ol ((List.replicate n x).map OD.sh)):=by
 rw [C0,if_pos]
 ·rw [Int.toNat_natCast]
  congr 2
  induction n with
  |zero=>rfl
  |succ n ih=>rw [List.replicate_succ,List.flatten_cons,Zl,ih (by lia),List.replicate_succ,Zk];rfl
 ·rw [Zv,Zv,decide_eq_true_eq,decide_eq_true_eq,decide_eq_true_eq]
  refine ⟨⟨by lia,by lia⟩,?_⟩
  rw [Int.toNat_natCast,List.length_singleton,Nat.one_mul];exact of_eq_true (cJ h)
theorem GL (x y:Str):gEq (.str x) (.str y)=.ok (.sh (.bool (decide (x=y)))):=rfl
theorem HU (x y:Str):gNe (.str x) (.str y)=.ok (.sh (.bool (!decide (x=y)))):=rfl
noncomputable def ya (S:Env->Prop) (T:OD->Prop):R Out->Prop
 |.ok (.nx ρ)=>S ρ
 |.ok (.ct ρ)=>S ρ
 |.ok (.rt x)=>T x
 |_=>False
theorem Gg {S:Env->Prop} {T:OD->Prop} {ρ:Env}:ya S T (.ok (.nx ρ))=S ρ:=rfl
theorem GI {S:Env->Prop} {T:OD->Prop} {ρ:Env}:ya S T (.ok (.ct ρ))=S ρ:=rfl
theorem Fu {S:Env->Prop} {T:OD->Prop} {x:OD}:ya S T (.ok (.rt x))=T x:=rfl
end L3
namespace L3
open PySem L2 PySem.Spec PyProof.Rows
section
variable {X:Cx} {tg:Expr}
end
noncomputable def Ju (lo:Int) (n:Nat):List PyData:=(List.range n).map λk:Nat=>PyData.int (lo-k)
noncomputable def iR3 (a b c:Fe):Fi:=fun ρ=>(a ρ).bind λx=>(b ρ).bind λy=>(c ρ).bind λz=>match x.er,y.er,z.er with
 |.int i,.int j,.int k=>if (ba i && ba j && decide (k=-1))=true then .ok (Ju i (i-j).toNat) else .bad
 |_,_,_=>.bad
section
variable {M:Mx} {n:Nat} {H:Hp} {σ:St} {R':It->Hp->Prop} {X:Cx} {a b c e:Expr} {fa fb fc:Fe} {pos:Pos} {D:Ends}
noncomputable def Bw (K:PySem.W.Frag):V->Hp->VK->Prop:=λx H Q=>∃a xs,x=.ref a/\SqL K H a xs/\∀p,H p=none->Q (.ref p) (upd H p (.lst xs.reverse))
noncomputable def tRv (r:V->Hp->VK->Prop) (te ts:TE):TE:=fun σ H Q=>te σ H λx H1=>ts σ H1 λz H2=>z=.int (-1)/\r x H2 Q
theorem B4 {te ts:TE} {st:Expr} {p2:Pos} {ops:Value->Value->List Value} (he:PE X e te) (hs:PE X st ts) (hsub:∀v u,subscripted (.Slice none none (some st) p2) false v u=operate (ops v u) (getItem v u)):PE X (.Subscript e (.Slice none none (some st) p2) pos) (tRv (Bw X.K) te ts):=by
 intro pins s σ H Q I h;refine Subscript_ (thn (he pins s σ H _ I h) λv s1 ⟨x,H1,I1,r1,q1⟩=>?_)
 refine wpAny_Slice ?_;rw [evalPart_none];refine wpAny_pure ?_;refine wpAny_pure ?_;rw [evalPart_some];refine thn (hs pins s1 σ H1 _ I1 q1) λvs s3 ⟨z,H3,I3,r3,q3⟩=>?_
 obtain ⟨rfl,q3⟩:=q3;obtain ⟨t3,rfl⟩:=r3;obtain ⟨a,xs,rfl,hx,q⟩:=q3;cases r1;have I4:Inv X pins σ H3 { s3 with heap:=s3.heap.push { cls:=.type "slice",data:=.fields #[.none,.none,.int (-1) t3] } }:=I3.kept (t':=s3.toks) λb ob q=>Heap.get?_push_of_some _ q
 show wpAny (model X.prog X.w) X.A (subscriptTail e (.Slice none none (some st) p2) (.ref a) (.ref s3.heap.objs.size)) (EP X pins σ Q) X.xe { s3 with heap:=s3.heap.push { cls:=.type "slice",data:=.fields #[.none,.none,.int (-1) t3] } }
 obtain ⟨its,r,ht,hz⟩:=I4.list hx;refine tail_any (ops:=ops (.ref a) (.ref s3.heap.objs.size)) ht.isList.typeIs slot_list_getitem.lookup ?_ (hsub _ _);refine wpAny_getItem_list_slice ht.isList (Heap.IsSliceOf.new ..) .none .none (.int (-1) t3) (by simp) ?_ (by rw [ZA,<-r.length];exact hz)
 rw [PySem.W.krv_pick];refine ⟨.ref _,_,I4.laid (t':=s3.toks) (o:=.lst xs.reverse) (λb ob q=>Heap.get?_push_of_some _ q) (Zn _) ?_,rfl,q _ (I4.hok.fresh (Zn _))⟩
 refine ⟨by rw [List.length_reverse];exact hz,its.reverse,0,r.reverse,?_⟩
 have e:its.toArray.toList.reverse.toArray=its.reverse.toArray:=by simp
 rw [e];exact Heap.get?_push_size _ rfl
noncomputable def wj (a s:Fe):Fe:=fun ρ=>(a ρ).bind λx=>(s ρ).bind λz=>match x.er,z.er with
 |.list ds,.int k=>if k=-1 then .ok (.ol (ds.reverse.map OD.sh)) else .bad
 |_,_=>.bad
theorem RepAll.rev {K:PySem.W.Frag} {F:Hp}:∀{vs:List V} {ds:List PyData},RepAll K F vs ds->RepAll K F vs.reverse ds.reverse
 |_,_,.nil=>.nil
 |_,_,.cons h r=>by
  rw [List.reverse_cons,List.reverse_cons];exact RepAll.app (RepAll.rev r) (.cons h .nil)
theorem HA {Q:VK} (h:tD M n (wj fa fb) σ H Q):tRv (Bw M.K) (tD M n fa) (tD M n fb) σ H Q:=by
 obtain ⟨F,ρ,fp,S,p⟩:=h;refine ⟨F,ρ,fp,S,(aw.bind p).mono λx px v F1 H1 fx e1 r1 w1=>?_⟩
 obtain ⟨G1,d1,k1⟩:=r1.frz e1 w1;refine ⟨G1,ρ,fp,S.ext d1,((aw.bind px).ext d1).mono λy py v2 F2 H2 fy e2 r2 w2=>?_⟩
 obtain ⟨G2,d2,k2⟩:=r2.frz e2 w2;have e12:=d1.trans d2;generalize x.er=dx at py k1
 generalize y.er=dy at py k2
 split at py
 ·rename_i ds k
  cases k2;by_cases hk:k=-1
  ·rw [if_pos hk]at py
   cases k1 with
   |@lst a vs _ h1 h2=>exact ⟨by rw [hk],a,vs,rfl,((h1.same d2.ff).same d2.fh).sq,λp hp=>OkE.lstD d2.fh (OkE.pre e12 py) (RepAll.rev (h2.same d2.ff)) hp⟩
  ·rw [if_neg hk]at py
   exact py.elim
 ·exact py.elim
theorem EJ {st:Expr} {p2:Pos} (ops:Value->Value->List Value) (he:DE M X e fa) (hs:DE M X st fb) (hsub:∀v u,subscripted (.Slice none none (some st) p2) false v u=operate (ops v u) (getItem v u):=by intro _ _;with_unfolding_all rfl):DE M X (.Subscript e (.Slice none none (some st) p2) pos) (wj fa fb):=λhK hM=>by
 have q:=B4 (pos:=pos) (p2:=p2) (he hK hM) (hs hK hM) hsub;rw [hK]at q;exact peI q λ_ _ _ z=>HA z
theorem vT {ρ:Env}:wj fa fb ρ=opK (λx z=>match x,z with
 |.list ds,.int k=>if k=-1 then .ok (.ol (ds.reverse.map OD.sh)) else .bad
 |_,_=>.bad) (fa ρ) (fb ρ):=by
 unfold wj;cases fa ρ <;> cases fb ρ <;> rfl
noncomputable def xt (i:Nat) (a:Fe):Fs:=fun ρ=>match ρ[i]? with
 |some (some x)=>(a ρ).bind λy=>.ok (.rt (.ot [x,y]))
 |_=>.bad
noncomputable def nC (a:Fe) (i:Nat):Fs:=fun ρ=>(a ρ).bind λy=>match ρ[i]? with
 |some (some x)=>.ok (.rt (.ot [y,x]))
 |_=>.bad
theorem vZ {f g:List Addr} {p:Addr} (hf:f.Nodup) (hg:g.Nodup) (d:∀a∈f,a∉g) (n1:p∉f) (n2:p∉g):(p :: (f++(g++[]))).Nodup:=by
 rw [Zx,List.nodup_cons,ZK];exact ⟨λm=>(Zs.mp m).elim n1 n2,hf,hg,λa ha b hb e=>d a ha (e▸hb)⟩
theorem Iz {i:Nat} (h:tS M n (xt i fa) D σ H):xh (zW (fv (d9 i) (fv (tD M n fa) nT))) D σ H:=by
 obtain ⟨F,ρ,fp,S,p⟩:=h;unfold xt at p;split at p
 ·rename_i x e
  obtain ⟨v,f,g1,g2,h1,h2,rfl,h4⟩:=S.own.at e;have sub:∀a∈f,a∈g1++(f++g2):=λa m=>Zq _ (Zw _ m)
  have fnd:f.Nodup:=by
   have nd:=S.nd;simp only [ZK]at nd;exact nd.2.1.1
  refine ⟨v,h1,F,ρ,_,S,(aw.bind p).mono λy py w F1 H1 fy e1 r1 w1=>⟨by show 2<=sizeLine;decide,λq hq=>?_⟩⟩
  have x1:Own M.K F1 H1 v x f:=h2.mono e1.ff λa _ o z=>e1.hh _ _ z
  have q1:q∉f:=λm=>by
   obtain ⟨o,z⟩:=x1.dom q m;rw [hq]at z;cases z
  have q2:q∉fy:=λm=>by
   obtain ⟨o,z⟩:=r1.own.dom q m;rw [hq]at z;cases z
  have dd:∀a∈f,a∉fy:=λa m z=>by
   obtain ⟨o,u⟩:=h2.dom a m;rw [w1 a z]at u;cases u
  have up:∀a o,H1 a=some o->upd H1 q (.tup [v,w]) a=some o:=λa o z=>by
   rw [az (aU z hq)];exact z
  refine py (.ref q) F1 (upd H1 q (.tup [v,w])) (q :: (f++(fy++[]))) (Ext.alloc e1.fh hq).fh ⟨.ot aZ (.cons (x1.mono (aB.refl _) λa _ o z=>up a o z) (.cons (r1.own.mono (aB.refl _) λa _ o z=>up a o z) .nil)),vZ fnd r1.nd dd q1 q2,λa m=>?_⟩ ⟨e1.ff,λa o z _=>up a o (e1.hh _ _ z),λa m=>?_,λa z _ u=>e1.nw a z u⟩
  ·rw [Zx]at m
   rcases Zo.mp m with rfl | m
   ·exact e1.fh.free hq
   ·rcases Zs.mp m with m | m
    ·exact let ⟨_,z⟩:=h2.dom a m;e1.nw a (bF z) (S.fr a (sub a m))
    ·exact r1.fr a m
  ·rw [Zx]at m
   rcases Zo.mp m with rfl | m
   ·exact .inr (e1.hh.free hq)
   ·rcases Zs.mp m with m | m
    ·exact .inl (sub a m)
    ·exact .inr (w1 a m)
 ·exact p.elim
theorem zg {i:Nat} (h:tS M n (nC fa i) D σ H):xh (zW (fv (tD M n fa) (fv (d9 i) nT))) D σ H:=by
 obtain ⟨F,ρ,fp,S,p⟩:=h;refine ⟨F,ρ,fp,S,(aw.bind p).mono λy py w F1 H1 fy e1 r1 w1=>?_⟩
 split at py
 ·rename_i x e
  obtain ⟨v,f,g1,g2,h1,h2,rfl,h4⟩:=S.own.at e;have sub:∀a∈f,a∈g1++(f++g2):=λa m=>Zq _ (Zw _ m)
  have fnd:f.Nodup:=by
   have nd:=S.nd;simp only [ZK]at nd;exact nd.2.1.1
  refine ⟨v,h1,by show 2<=sizeLine;decide,λq hq=>?_⟩
  have x1:Own M.K F1 H1 v x f:=h2.mono e1.ff λa _ o z=>e1.hh _ _ z
  have q1:q∉f:=λm=>by
   obtain ⟨o,z⟩:=x1.dom q m;rw [hq]at z;cases z
  have q2:q∉fy:=λm=>by
   obtain ⟨o,z⟩:=r1.own.dom q m;rw [hq]at z;cases z
  have dd:∀a∈fy,a∉f:=λa z m=>by
   obtain ⟨o,u⟩:=h2.dom a m;rw [w1 a z]at u;cases u
  have up:∀a o,H1 a=some o->upd H1 q (.tup [w,v]) a=some o:=λa o z=>by
   rw [az (aU z hq)];exact z
  refine py (.ref q) F1 (upd H1 q (.tup [w,v])) (q :: (fy++(f++[]))) (Ext.alloc e1.fh hq).fh ⟨.ot aZ (.cons (r1.own.mono (aB.refl _) λa _ o z=>up a o z) (.cons (x1.mono (aB.refl _) λa _ o z=>up a o z) .nil)),vZ r1.nd fnd dd q2 q1,λa m=>?_⟩ ⟨e1.ff,λa o z _=>up a o (e1.hh _ _ z),λa m=>?_,λa z _ u=>e1.nw a z u⟩
  ·rw [Zx]at m
   rcases Zo.mp m with rfl | m
   ·exact e1.fh.free hq
   ·rcases Zs.mp m with m | m
    ·exact r1.fr a m
    ·exact let ⟨_,z⟩:=h2.dom a m;e1.nw a (bF z) (S.fr a (sub a m))
  ·rw [Zx]at m
   rcases Zo.mp m with rfl | m
   ·exact .inr (e1.hh.free hq)
   ·rcases Zs.mp m with m | m
    ·exact .inr (w1 a m)
    ·exact .inl (sub a m)
 ·exact py.elim
theorem yE (i:Nat) {x:Str} {p:Pos} {x1} {pt:Pos} (h:DE M X e fa) (hN:X.N[i]?=some x:=by rfl) (hv:Vis X.env.scope x:=by first | exact Or.inl rfl | exact Or.inr (Or.inl rfl) | exact Or.inr (Or.inr rfl)) (hd:(x == ("__debug__" : Str))=false:=by decide)
  (hcd:(x == ("__classdict__" : Str))=false:=by decide) (hs1:starEach [e,.Name x p] X.env=(false,eval e X.env) :: starEach [.Name x p] X.env:=by rfl) (hs2:starEach [.Name x p] X.env=(false,eval (.Name x p) X.env) :: starEach [] X.env:=by rfl) :
  DS M X (.Return (some (.Tuple [e,.Name x p] x1 pt)) pos) (nC fa i):=λhK hM=>psI (k_ (wR (b5 (h hK hM) (b5 (a9 hN hv hd hcd) gF hs2) hs1))) λ_ _ _ q=>zg q
theorem Ag {i:Nat} {ρ:Env} {x y:OD} (h1:ρ[i]?=some (some x)) (h2:fa ρ=.ok y):nC fa i ρ=.ok (.rt (.ot [y,x])):=by
 unfold nC;rw [h2,aV,h1]
end
noncomputable def gu (i:Nat) (kk:Int) (a:Fe):Nat->Nat->Env->R Out
 |0,_,ρ=>.ok (.nx ρ)
 |c+1,m,ρ=>match ρ[i]? with
  |some (some (.ol xs))=>match xs[m]? with
   |some (.ol ys)=>(a ρ).bind λy=>match ixN ys.length kk with
    |some q=>gu i kk a c (m+1) (ρ.set i (some (.ol (xs.set m (.ol (ys.set q y))))))
    |none=>.bad
   |_=>.bad
  |_=>.bad
section
variable {M:Mx} {n:Nat} {σ:L3.St} {H:Hp} {D:Ends}
end
section
variable {M:Mx} {X:Cx} {e b:Expr} {fa:Fe} {x y:Str} {p p1 p2 p3 pos pos':Pos}
end
noncomputable def keyOf:PyData->Option Key
 |.int i=>some (.inl i)
 |.str x=>some (.inr x)
 |_=>none
theorem qA (k:Key):keyOf (kD k)=some k:=by cases k <;> rfl
noncomputable def mL (kvs:List (Key×PyData)) (k:Key):Option PyData:=(kvs.find? λkv=>decide (kv.1=k)).map (·.2)
noncomputable def putD (kvs:List (Key×PyData)) (k:Key) (d:PyData):List (Key×PyData) :=
 if (kvs.any λkv=>decide (kv.1=k))=true then kvs.map (λkv=>if kv.1=k then (kv.1,d) else kv) else kvs++[(k,d)]
noncomputable def jF (kvs:List (PyData×PyData)) (k:Key):Option PyData:=(kvs.find? λkv=>decide (keyOf kv.1=some k)).map (·.2)
theorem qT (kvs:List (Key×PyData)) (k:Key):jF (kvs.map λp=>(kD p.1,p.2)) k=mL kvs k:=by
 unfold jF mL
 induction kvs with
 |nil=>rfl
 |cons p r ih =>
  rw [Zk,List.find?_cons,List.find?_cons];by_cases h:p.1=k
  ·rw [decide_eq_true h,decide_eq_true (by show keyOf (kD p.1)=some k;rw [qA,h])]
   rfl
  ·rw [decide_eq_false h,decide_eq_false (by show ¬keyOf (kD p.1)=some k;rw [qA];exact λz=>h (Zz z))]
   exact ih
noncomputable def gDx:PyData->PyData->R OD
 |.dict kvs,y=>match keyOf y with
  |some k=>fZ (jF kvs k)
  |none=>.bad
 |_,_=>.bad
theorem IU (kvs:List (Key×PyData)) (i:Int):gDx (dD kvs) (.int i)=fZ (mL kvs (.inl i)):=by
 show fZ (jF _ _)=_
 rw [qT]
noncomputable def eD1 (a b:Fe):Fe:=fun ρ=>(a ρ).bind λx=>(b ρ).bind λy=>match keyOf x.er with
 |some k=>.ok (.od [(k,y.er)])
 |none=>.bad
noncomputable def sDP (i:Nat) (k a:Fe):Fs:=fun ρ=>match ρ[i]? with
 |some (some (.od kvs))=>(a ρ).bind λy=>(k ρ).bind λz=>match keyOf z.er with
  |some q=>if kvs.length<BIG then .ok (.nx (ρ.set i (some (.od (putD kvs q y.er))))) else .bad
  |none=>.bad
 |_=>.bad
section
variable {K:PySem.W.Frag} {F H:Hp}
theorem qB:∀{kvs:List (Key×V)} {ds:List (Key×PyData)} {k:Key} {d:PyData},kvs.map (·.1)=ds.map (·.1)->RepAll K F (kvs.map (·.2)) (ds.map (·.2))->mL ds k=some d->∃v,nj kvs k=some v/\Rep K F v d
 |[],[],_,_,_,_,e=>by cases e
 |[],_ :: _,_,_,h,_,_=>by cases h
 |_ :: _,[],_,_,h,_,_=>by cases h
 |p :: kvs,q :: ds,k,d,h,r,e=>by
  rw [Zk,Zk]at h r;obtain ⟨h1,h2⟩:=List.cons.inj h;cases r with
  |cons r1 r2 =>
   unfold mL at e;rw [List.find?_cons]at e;by_cases hq:q.1=k
   ·rw [decide_eq_true hq]at e
    have e':=Zz e;exact ⟨p.2,j7 (h1.trans hq),by rw [<-e'];exact r1⟩
   ·rw [decide_eq_false hq]at e
    obtain ⟨v,a,b⟩:=qB (k:=k) (d:=d) h2 r2 e;exact ⟨v,by rw [j_ (λz=>hq (h1.symm.trans z))];exact a,b⟩
theorem yr {kvs:List (Key×V)} {ds:List (Key×PyData)} (k:Key) (h:kvs.map (·.1)=ds.map (·.1)):(kvs.any λkv=>decide (kv.1=k))=(ds.any λkv=>decide (kv.1=k)):=by
 have e1:(kvs.any λkv=>decide (kv.1=k))=(kvs.map (·.1)).any λx=>decide (x=k):=by rw [List.any_map];rfl
 have e2:(ds.any λkv=>decide (kv.1=k))=(ds.map (·.1)).any λx=>decide (x=k):=by rw [List.any_map];rfl
 rw [e1,e2,h]
theorem rq {k:Key} {v:V} {d:PyData} (hv:Rep K F v d):∀{kvs:List (Key×V)} {ds:List (Key×PyData)},kvs.map (·.1)=ds.map (·.1)->RepAll K F (kvs.map (·.2)) (ds.map (·.2)) ->
  (kvs.map λkv=>if kv.1=k then (kv.1,v) else kv).map (·.1)=(ds.map λkv=>if kv.1=k then (kv.1,d) else kv).map (·.1)/\RepAll K F ((kvs.map λkv=>if kv.1=k then (kv.1,v) else kv).map (·.2)) ((ds.map λkv=>if kv.1=k then (kv.1,d) else kv).map (·.2))
 |[],[],_,_=>⟨rfl,.nil⟩
 |[],_ :: _,h,_=>by cases h
 |_ :: _,[],h,_=>by cases h
 |p :: kvs,q :: ds,h,r=>by
  rw [Zk,Zk]at h r;obtain ⟨h1,h2⟩:=List.cons.inj h;cases r with
  |cons r1 r2 =>
   obtain ⟨a,b⟩:=rq hv h2 r2;rw [Zk,Zk,Zk,Zk,Zk,Zk,a];by_cases hq:q.1=k
   ·rw [if_pos hq,if_pos (h1.trans hq)]
    exact ⟨by rw [h1],.cons hv b⟩
   ·rw [if_neg hq,if_neg (λz=>hq (h1.symm.trans z))]
    exact ⟨by rw [h1],.cons r1 b⟩
theorem w9 {kvs:List (Key×V)} {ds:List (Key×PyData)} {k:Key} {v:V} {d:PyData} (hv:Rep K F v d) (h:kvs.map (·.1)=ds.map (·.1)) (r:RepAll K F (kvs.map (·.2)) (ds.map (·.2))) :
  (putK kvs k v).map (·.1)=(putD ds k d).map (·.1)/\RepAll K F ((putK kvs k v).map (·.2)) ((putD ds k d).map (·.2)):=by
 unfold putK putD;rw [yr k h];by_cases ha:(ds.any λkv=>decide (kv.1=k))=true
 ·rw [if_pos ha,if_pos ha]
  exact rq hv h r
 ·rw [if_neg ha,if_neg ha,Zl,Zl,Zl,Zl,h]
  exact ⟨rfl,r.app (.cons hv .nil)⟩
theorem jK {y:V} {d:PyData} {k:Key} (r:Rep K F y d) (e:keyOf d=some k):y=kV k:=by
 cases r with
 |non=>cases e
 |bl _=>cases e
 |int i=>cases e;rfl
 |str x=>cases e;rfl
 |lst _ _=>cases e
 |tup _ _=>cases e
 |dct _ _ _ =>
  have e':(none:Option Key)=some k:=e;cases e'
 |ins _ _ _ =>
  have e':(none:Option Key)=some k:=e;cases e'
end
section
variable {M:Mx} {n:Nat} {σ:L3.St} {H:Hp} {D:Ends} {Q:VK} {fa fb:Fe}
noncomputable def HX:R2:=λx y H Q=>∃a v,x=.ref a/\AN H a y (some v)/\Q v H
theorem yI (nm:Str) (ds:List (Str×PyData)) (k:Key):jF ((.none,.str nm) :: ds.map λp=>(.tuple [.str p.1],p.2)) k=none:=by
 unfold jF;rw [Option.map_eq_none_iff,List.find?_eq_none];intro x hx;rcases Zo.mp hx with rfl | hx
 ·exact λh=>by cases k <;> simp [keyOf]at h
 ·obtain ⟨p,_,rfl⟩:=ZC.mp hx
  exact λh=>by cases k <;> simp [keyOf]at h
theorem Gk:Ok2 M HX gDx:=by
 intro x y dx dy F H fp Q s rx ry p;cases rx with
 |non=>exact p.elim
 |bl _=>exact p.elim
 |int _=>exact p.elim
 |str _=>exact p.elim
 |lst _ _=>exact p.elim
 |tup _ _=>exact p.elim
 |@ins a C dx fs nm ds h1 h2 h3 =>
  have p1:aw M H fp (OkE M F H Q) (match keyOf dy with
   |some k=>fZ (jF ((.none,.str nm) :: ds.map λp=>(.tuple [.str p.1],p.2)) k)
   |none=>.bad):=p
  cases hk:keyOf dy with
  |none =>
   rw [hk]at p1;exact p1.elim
  |some k =>
   rw [hk]at p1;have p2:aw M H fp (OkE M F H Q) (fZ (jF ((.none,.str nm) :: ds.map λp=>(.tuple [.str p.1],p.2)) k)):=p1
   rw [yI]at p2;exact p2.elim
 |@dct a kvs ds h1 h2 h3 =>
  have p1:aw M H fp (OkE M F H Q) (match keyOf dy with
   |some k=>fZ (jF (ds.map λp=>(kD p.1,p.2)) k)
   |none=>.bad):=p
  cases hk:keyOf dy with
  |none =>
   rw [hk]at p1;exact p1.elim
  |some k =>
   rw [hk]at p1;have p2:aw M H fp (OkE M F H Q) (fZ (jF (ds.map λp=>(kD p.1,p.2)) k)):=p1
   rw [qT]at p2;cases hv:mL ds k with
   |none =>
    rw [hv]at p2;exact p2.elim
   |some d =>
    rw [hv]at p2;obtain ⟨v,v1,v2⟩:=qB h2 h3 hv;exact ⟨a,v,rfl,.inl ⟨kvs,k,.inl (s _ _ h1),jK ry hk,v1.symm⟩,OkE.val s p2 v2⟩
theorem Aa (h:tD M n (eD1 fa fb) σ H Q):Bn [(tD M n fa,tD M n fb)] σ H Q:=by
 obtain ⟨F,ρ,fp,S,p⟩:=h;intro q hq;have e0:Ext F H F (upd H q (.dK [])):=Ext.alloc S.same hq;refine ⟨F,ρ,fp,S.ext e0,((aw.bind p).ext e0).mono λx px v F1 H1 fx e1 r1 w1=>?_⟩
 obtain ⟨G1,d1,k1⟩:=r1.frz e1 w1;have e01:=e0.trans d1;refine ⟨G1,ρ,fp,(S.ext e0).ext d1,((aw.bind px).ext e01).mono λy py u F2 H2 fy e2 r2 w2=>?_⟩
 obtain ⟨G2,d2,k2⟩:=r2.frz e2 w2;have hq2:H2 q=some (.dK []):=d2.hh _ _ (d1.hh _ _ aZ);refine ⟨hq2,?_⟩;cases hk:keyOf x.er with
 |none =>
  rw [hk]at py;exact py.elim
 |some k =>
  rw [hk]at py;have kv:=jK k1 hk;refine ⟨[(k,u)],by rw [kv];rfl,(show 1<=15 by decide),?_⟩
  have em:lC [] [(k,u)]=[(k,u)]:=rfl;rw [em];have py':OkE M F H Q (.od [(k,y.er)]):=py;have d02:=e01.trans d2;have Fq:F q=none:=S.same.free hq;have G2q:G2 q=none:=(d1.trans d2).nw q (bF aZ) Fq;refine py' (.ref q) G2 _ [q] ⟨d02.ff,λb o z=>?_,λb o z=>?_,λb z w=>?_⟩ ⟨.od aZ rfl (.cons k2 .nil),by simp,λb m=>?_⟩ λb m=>?_
  ·have hb:b≠q:=by
    rintro rfl;rw [hq]at z;cases z
   rw [az hb];exact d2.hh _ _ (d1.hh _ _ (by rw [az hb];exact z))
  ·have hb:b≠q:=by
    rintro rfl;rw [G2q]at z;cases z
   rw [az hb];exact d2.fh _ _ z
  ·have hb:b≠q:=by
    rintro rfl;exact z hq
   exact (d1.trans d2).nw b (by rw [az hb];exact z) w
  ·have:b=q:=by simpa using m
   rw [this];exact G2q
  ·have:b=q:=by simpa using m
   rw [this];exact hq
theorem Stt.writeD {K:PySem.W.Frag} {F:Hp} {ρ:Env} {fp:List Addr} (S:Stt K n F H σ ρ fp) {i:Nat} {ds:List (Key×PyData)} (hx:ρ[i]?=some (some (.od ds))) :
  ∃a kvs,σ[i]?=some (some (.ref a))/\H a=some (.dK kvs)/\kvs.map (·.1)=ds.map (·.1)/\RepAll K F (kvs.map (·.2)) (ds.map (·.2)) /\
   ∀F1 H1 kvs' ds',Ext F H F1 H1->kvs'.map (·.1)=ds'.map (·.1)->RepAll K F1 (kvs'.map (·.2)) (ds'.map (·.2)) ->
    ∃fp',Stt K n F1 (upd H1 a (.dK kvs')) σ (ρ.set i (some (.od ds'))) fp'/\Stp F H fp F1 (upd H1 a (.dK kvs')) fp':=by
 obtain ⟨v,f0,g1,g2,h1,h2,rfl,h4⟩:=S.own.at hx;cases h2 with
 |@od a kvs _ ha hk hr =>
  have nd:=S.nd;simp only [ZK,Zs,List.cons_append,List.nodup_cons,Zo,List.nil_append]at nd;obtain ⟨n1,⟨na,n2⟩,n5⟩:=nd;refine ⟨a,kvs,h1,ha,hk,hr,λF1 H1 kvs' ds' e q1 q2=>?_⟩
  have fa:F1 a=none:=e.nw a (bF ha) (S.fr a (by simp))
  have own:=h4 F1 (upd H1 a (.dK kvs')) e.ff (λb m o q=>by
   have:b≠a:=by
    rintro rfl;rcases Zs.mp m with m | m
    ·exact n5 b m b (.inl rfl) rfl
    ·exact na m
   rw [az this];exact e.hh _ _ q) (.ref a) (.od ds') [a] (.od aZ q1 q2)
  rw [iQ h1]at own;have frs:∀b∈g1++([a]++g2),F1 b=none:=λb m=>let ⟨_,q⟩:=S.own.dom b m;e.nw b (bF q) (S.fr b m)
  refine ⟨g1++([a]++g2),⟨?_,own,S.nd,frs,by rw [ZJ];exact S.len⟩,⟨e.ff,λb o q m=>?_,λb m=>.inl m,λb q m z=>e.nw b q z⟩⟩
  ·intro b o q
   rw [az (aU q fa)];exact e.fh _ _ q
  ·have hb:b≠a:=by
    rintro rfl;exact m (by simp)
   rw [az hb];exact e.hh _ _ q
theorem Dt {i:Nat} {k a:Fe} (h:tS M n (sDP i k a) D σ H):Bd (d9 i) (tD M n k) (tD M n a) D σ H:=by
 obtain ⟨F,ρ,fp,S,p⟩:=h;unfold sDP at p;split at p
 ·rename_i ds e
  refine ⟨F,ρ,fp,S,(aw.bind p).mono λy py v F1 H1 fy e1 r1 w1=>?_⟩
  obtain ⟨G1,d1,k1⟩:=r1.frz e1 w1;obtain ⟨l,kvs,h1,h2,h3,h4,wr⟩:=S.writeD e;refine ⟨_,h1,G1,ρ,fp,S.ext d1,((aw.bind py).ext d1).mono λz pz u F2 H2 fz e2 r2 w2=>?_⟩
  obtain ⟨G2,d2,k2⟩:=r2.frz e2 w2;have e12:=d1.trans d2;cases hk:keyOf z.er with
  |none =>
   rw [hk]at pz;exact pz.elim
  |some q =>
   rw [hk]at pz;have pz':aw M H fp (eG M n F H fp D) (if ds.length<BIG then .ok (.nx (ρ.set i (some (.od (putD ds q y.er))))) else .bad):=pz
   by_cases hl:ds.length<BIG
   ·rw [if_pos hl]at pz'
    have hlen:kvs.length=ds.length:=by
     have:=congrArg List.length h3;rw [Zc,Zc]at this;exact this
    have rp:=w9 (k:=q) (k1.same d2.ff) h3 (h4.same e12.ff);obtain ⟨fp',S',st⟩:=wr G2 H2 _ _ e12 rp.1 rp.2;exact ⟨l,_,rfl,.inl ⟨kvs,q,e12.hh _ _ h2,jK k2 hk,by rw [hlen];exact pU hl,rfl⟩,pz' σ G2 _ fp' S' st⟩
   ·rw [if_neg hl]at pz'
    exact pz'.elim
 ·exact p.elim
end
section
variable {M:Mx} {X:Cx} {a b e:Expr} {fa fb:Fe} {x:Str} {p pos pos':Pos}
theorem Gn (hu:X.A.units+1<cLine) (ha:DE M X a fa) (hb:DE M X b fb) (hs:B5 b):DE M X (.Subscript a b pos) (eOp gDx fa fb):=λhK hM =>
 peI (zU hu (ha hK hM) (hb hK hM) hs) λ_ _ _ q=>xG Gk q
theorem Gm (ha:DE M X a fa) (hb:DE M X b fb):DE M X (.Dict [some a] [b] pos) (eD1 fa fb):=λhK hM =>
 peI (AK (yu (ha hK hM) (hb hK hM) zN) rfl rfl (by simp) (show 1<=15 by decide)) λ_ _ _ q=>Aa q
theorem tM (i:Nat) (hu:X.A.units+1<cLine) (hb:DE M X b fb) (h:DE M X e fa) (hN:X.N[i]?=some x:=by rfl) (hv:Vis X.env.scope x:=by first | exact Or.inl rfl | exact Or.inr (Or.inl rfl) | exact Or.inr (Or.inr rfl)) (hd:(x == ("__debug__" : Str))=false:=by decide) (hcd:(x == ("__classdict__" : Str))=false:=by decide)
  (hs:swapsWith e (some (.Subscript (.Name x p) b pos')) pos.line X.env=pure false:=by rfl):DS M X (.Assign [.Subscript (.Name x p) b pos'] e pos) (sDP i fb fa):=λhK hM =>
 psI (zh hu (a9 hN hv hd hcd) (hb hK hM) (h hK hM) hs) λ_ _ _ q=>Dt q
end
section
variable {ρ:Env} {a b k:Fe}
noncomputable def xv (o:Option (Option OD)) (a k:R OD) (i:Nat) (ρ:Env):R Out:=match o with
 |some (some (.od kvs))=>unK (λy=>unK (λz=>match keyOf z.er with
  |some q=>if kvs.length<BIG then .ok (.nx (ρ.set i (some (.od (putD kvs q y.er))))) else .bad
  |none=>.bad) k) a
 |_=>.bad
theorem xD (i:Nat):sDP i k a ρ=xv ρ[i]? (a ρ) (k ρ) i ρ:=by
 unfold sDP xv;generalize ρ[i]?=o
 rcases nv (β:=Nat) o with rfl | rfl | ⟨d,rfl⟩ | ⟨xs,rfl⟩ | ⟨xs,rfl⟩ | ⟨xs,rfl⟩ | ⟨p,nm,xs,rfl⟩ | ⟨c,xs,rfl⟩
 ·rfl
 ·rfl
 ·rfl
 ·rfl
 ·rfl
 ·cases a ρ <;> cases k ρ <;> rfl
 ·rfl
 ·rfl
theorem xu {kvs:List (Key×PyData)} {d:PyData} {z:Int} {i:Nat}:xv (some (some (.od kvs))) (.ok (.sh d)) (.ok (.sh (.int z))) i ρ=if kvs.length<BIG then .ok (.nx (ρ.set i (some (.od (putD kvs (.inl z) d))))) else .bad:=by
 show (match keyOf (OD.sh (PyData.int z)).er with
  |some q=>if kvs.length<BIG then R.ok (Out.nx (ρ.set i (some (.od (putD kvs q (OD.sh d).er))))) else .bad
  |none=>.bad)=_
 rw [cq,cq];rfl
end
theorem r9 {k:Nat} {A:Around} (r:Room k A):A.units+1<cLine:=by have:=r.units;lia
section
variable {X:Cx} {M:Mx}
end
section
variable {X:Cx} {M:Mx}
end
noncomputable def signs (x:Str):List PyData:=x.cps.toList.map λc=>PyData.str ⟨#[c]⟩
section
variable {M:Mx} {n:Nat} {σ:L2.St} {H:Hp} {Q:VK} {al ak:Fa}
noncomputable def gK {α:Type} (m j:Nat) (us ws:List α):List α:=if us.length=m/\ws.length=j then us++ws else []
end
section
variable {M:Mx} {X:Cx} {e:Expr} {es:List Expr} {pos kpos:Pos} {fa:Fe} {al ak:Fa} {kws:List Keyword} {nm:Option Str}
end
structure FunD (K:PySem.W.Frag) (x qual:Str) (st:Stmt) (f:Addr) (fd:FuncData):Prop where
 ex:∃(oc:Value) (od:Option Addr) (dV kV doc pm:Value) (an:Option Addr) (cdv ct:Value) (osl:Array (Option Value)),
  fd=PySem.W.fnOf x qual (aQ st) (aI st) (aj st) dV kV doc pm an cdv ct/\K.lookup f=some ⟨oc,od,.func fd,osl⟩/\PySem.W.codeIn K cdv qual=true
 kp:PySem.W.keepIn K (.ref f)=true
structure DefD (K:PySem.W.Frag) (mg:Str->Option Value) (x:Str) (st:Stmt) (ps ks:List Str) (m:Nat) (dvs:List V) (f:Addr) (fd:FuncData):Prop where
 F:FunD K x x st f fd
 g:mg x=some (.ref f)
 b:Binds K fd ps []
 d:∃ds,Binds K fd ps ds/\Vals dvs ds
 k:KBinds K fd ps ks (gK m dvs.length) (gK m dvs.length)
noncomputable def zD (x:PyData) (lo hi:Option Int):R OD:=match x with
 |.tuple ds=>if HT.sIx ds.length 0 lo=0/\HT.sIx ds.length ds.length hi=ds.length then .bad else .ok (.sh (.tuple (cutD ds lo hi)))
 |_=>.bad
theorem DJ {X:Cx} {M:Mx} (hK:X.K=M.K):OkS M (Fl X.K) zD:=by
 rw [hK];intro x lo hi dx F H fp Q s rx p;unfold zD at p;split at p
 ·cases rx with
  |@tup a vs ds h1 h2 =>
   split at p
   ·exact p.elim
   ·rename_i hw
    refine ⟨a,vs,rfl,SqT.of (s _ _ h1),by rw [RepAll.len h2];exact hw,λq hq=>?_⟩
    refine OkE.tupF s p (Ext.refl s) ?_ hq;unfold rb cutD;rw [RepAll.len h2];exact RepAll.take _ (RepAll.drop _ h2)
 ·exact p.elim
section
variable {M:Mx} {n:Nat} {σ:L2.St} {H:Hp} {D:Ends}
end
section
variable {M:Mx} {X:Cx} {e b:Expr} {x:Str} {p ap cp pos:Pos} {fa fb:Fe}
end
section
variable {ρ:Env} {k a:Fe}
end
section
variable {M:Mx} {n:Nat} {σ:L2.St} {H:Hp} {D:Ends}
end
section
variable {M:Mx} {X:Cx} {sc scope:Scope} {p p1 p2 p3 p4 p5 pos spos:Pos} {x y z b:Str}
end
end L3
namespace L3
open PySem L2
end L3
namespace L2
open PySem PySem.Spec PyProof.Rows
structure BlkK (X:Cx) (sc scope:Scope) (outs:List (Nat×Str)):Prop where
 hsc:X.env.scope=sc
 kind:scope.kind=.function
 loc:∀x∈scope.names,x.2=.local->scope.names.lookup x.1=some .local
 own:∀x∈scope.names,x.2=.cell->scope.names.lookup x.1=some .cell
 ap:∀x∈scope.names,x.2=.free->(x.1,NameKind.cell)∉scope.names
 fr:∀x∈scope.names,x.2=.free->sc.names.lookup x.1=some .cell\/sc.names.lookup x.1=some .free
 out:kS X scope outs
section
variable {X:Cx} {sc scope:Scope} {own:List Str} {outs:List (Nat×Str)} {elt tg iter:Expr} {ifs:List Expr} {pos:Pos} {g:TG} {tc:TT} {te:TE}
end
end L2
namespace L3
open PySem L2 PySem.Spec PyProof.Rows
section
variable {M:Mx} {X:Cx} {e a b c:Expr} {es:List Expr} {pos:Pos} {fa fb:Fe} {ta tb:Ft} {al:Fa} {x:Str} {p ap cp:Pos}
variable {sc scope:Scope} {outs:List (Nat×Str)} {elt tg iter:Expr} {ifs:List Expr} {it:Fi} {gg:Fg} {is:List Nat} {el:Fe}
end
noncomputable def insI (x:Int):List Int->List Int
 |[]=>[x]
 |y :: r=>if x<=y then x :: y :: r else y :: insI x r
noncomputable def lD:List Int->List Int
 |[]=>[]
 |x :: r=>insI x (lD r)
theorem insI_perm (x:Int):∀r:List Int,(insI x r).Perm (x :: r)
 |[]=>.refl _
 |y :: r=>by
  unfold insI;split
  ·exact .refl _
  ·exact ((insI_perm x r).cons y).trans (.swap x y r)
theorem mT:∀r:List Int,(lD r).Perm r
 |[]=>.refl _
 |x :: r=>(insI_perm x (lD r)).trans ((mT r).cons x)
theorem lL (x:Int):∀{r:List Int},r.Pairwise (·<=·)->(insI x r).Pairwise (·<=·)
 |[],_=>List.pairwise_singleton _ _
 |y :: r,h=>by
  have h':=List.pairwise_cons.mp h;unfold insI;split
  ·rename_i hxy
   refine List.pairwise_cons.mpr ⟨λz hz=>?_,h⟩
   rcases Zo.mp hz with rfl | hz
   ·exact hxy
   ·exact Int.le_trans hxy (h'.1 z hz)
  ·rename_i hxy
   refine List.pairwise_cons.mpr ⟨λz hz=>?_,lL x h'.2⟩
   rcases Zo.mp ((insI_perm x r).mem_iff.mp hz) with rfl | hz
   ·lia
   ·exact h'.1 z hz
theorem ki:∀r:List Int,(lD r).Pairwise (·<=·)
 |[]=>List.Pairwise.nil
 |x :: r=>lL x (ki r)
theorem jA:∀{a b:List Int},a.Perm b->a.Pairwise (·<=·)->b.Pairwise (·<=·)->a=b
 |[],b,p,_,_=>(List.nil_perm.mp p).symm▸rfl
 |x :: r,[],p,_,_=>by
  have:=p.length_eq;simp at this
 |x :: r,y :: t,p,ha,hb=>by
  have ha':=List.pairwise_cons.mp ha;have hb':=List.pairwise_cons.mp hb;have e:x=y:=by
   have m1:=Zo.mp (p.mem_iff.mp Zf);have m2:=Zo.mp (p.mem_iff.mpr (Zf (a:=y) (l:=t)));rcases m1 with e | m1
   ·exact e
   ·rcases m2 with e | m2
    ·exact e.symm
    ·exact Int.le_antisymm (ha'.1 _ m2) (hb'.1 _ m1)
  subst e;rw [jA p.cons_inv ha'.2 hb'.2]
noncomputable def zK:List PyData->R OD
 |[.list ds]=>match dZ ds with
  |some ns=>if ns.length<64 then .ok (.ol (((lD ns).map PyData.int).map OD.sh)) else .bad
  |_=>.bad
 |_=>.bad
theorem gE:∀{us:List Value} {ns:List Int},IntsAre us ns->Vals (ns.map V.int) us
 |_,_,.nil=>.nil
 |_,_,.cons n t r=>.cons ⟨t,rfl⟩ (gE r)
theorem mz {K:PySem.W.Frag} {F:Hp}:∀(ns:List Int),RepAll K F (ns.map V.int) (ns.map PyData.int)
 |[]=>.nil
 |n :: r=>.cons (.int n) (mz r)
noncomputable def C6 (K:PySem.W.Frag):List V->Hp->VK->Prop:=λxs H Q=>∃(a:Addr) (ns:List Int),xs=[.ref a]/\SqL K H a (ns.map V.int)/\ns.length<64/\∀ns':List Int,ns'.Perm ns->ns'.Pairwise (·<=·)->∀l,H l=none->Q (.ref l) (upd H l (.lst (ns'.map V.int)))
section
variable {X:Cx} {M:Mx}
theorem vV:eV X (.builtin "sorted") (C6 X.K):=by
 intro pins s σ H xs us Q I r h;obtain ⟨a,ns,rfl,hq,hl,q⟩:=h;obtain ⟨u,rfl,ru⟩:=Vals.one r;cases ru;obtain ⟨its,rv,pl,hz⟩:=I.list hq;have hi:IntsAre its ns:=intsAre_of rv;have hlen:its.length=ns.length:=IntsAre.length hi;refine sorted_ints pl.isList hi (by lia) λout ns' a1 a2 a3=>?_
 obtain ⟨e,he⟩:=sortedAll_at s.heap its out;have hz':(ns'.map V.int).length<=sizeLine:=by
  rw [Zc,a2.length_eq];rw [Zc]at hz;exact hz
 refine ⟨.ref (s.heap.objs.size+1),_,I.laid (t':=s.toks) (o:=.lst (ns'.map V.int)) (λb o hb=>sortedAll_old hb) (Nat.le_succ _) ⟨hz',out.toList,e,gE a1,?_⟩,rfl,q ns' a2 a3 _ (I.hok.fresh (Nat.le_succ _))⟩
 rw [Array.toArray_toList];exact he
theorem uU (K:PySem.W.Frag) (h:X.K=K):eV X (.builtin "sorted") (C6 K):=by
 subst h;exact vV
theorem C9 (hK:X.K=M.K):OkC M (C6 X.K) zK:=by
 rw [hK];intro x dx F H fp Q s rx p;unfold zK at p;split at p
 ·split at p
  ·rename_i ns e
   obtain ⟨a,rfl,h⟩:=xU s rx e;split at p
   ·rename_i hl
    refine ⟨a,ns,rfl,h,hl,λns' h1 h2 l hl=>?_⟩
    have e:ns'=lD ns:=jA (h1.trans (mT ns).symm) h2 (ki ns);subst e;exact OkE.lstD s p (mz _) hl
   ·exact p.elim
  ·exact p.elim
 ·exact p.elim
noncomputable def qc:List PyData->R OD
 |[.int j]=>if 0<=j/\j<=65536 then .ok (.ol ((((List.range j.toNat).map λk:Nat=>(k:Int)).map PyData.int).map OD.sh)) else .bad
 |_=>.bad
noncomputable def Hj:List V->Hp->VK->Prop:=λxs H Q=>∃j:Int,xs=[.int j]/\(0<=j/\j<=65536)/\∀l,H l=none->Q (.ref l) (upd H l (.lst (((List.range j.toNat).map λk:Nat=>(k:Int)).map V.int)))
theorem CZ:OkC M Hj qc:=by
 intro x dx F H fp Q s rx p;unfold qc at p;split at p
 ·cases rx with
  |cons h r =>
   cases r;cases h;split at p
   ·rename_i j hj
    exact ⟨_,rfl,hj,λl hl=>OkE.lstD s p (mz _) hl⟩
   ·exact p.elim
 ·exact p.elim
theorem yc (j:Int):Builtin.Range.rangeSize 0 j 1=((j.toNat:Nat):Int):=by rw [rangeSize_one];split <;> lia
theorem mY:∀(us:List Value) (a:Nat),(∀(i:Nat) (v:Value),us[i]?=some v->∃t,v=.int (((a+i:Nat)):Int) t)->Vals ((List.range' a us.length).map λk:Nat=>V.int k) us
 |[],_,_=>.nil
 |u :: us,a,h=>by
  rw [Zr,List.range'_succ,Zk];obtain ⟨t,ht⟩:=h 0 u rfl;refine .cons ⟨t,ht⟩ (mY us (a+1) λi v hv=>?_)
  obtain ⟨t,ht⟩:=h (i+1) v hv;refine ⟨t,?_⟩;rw [ht];congr 1
  lia
theorem EI {a:Expr} {ta:TA} {p p2 pos pos2:Pos} (hc:X.calm=true) (hgl:Gl X "list") (hml:X.mg "list" = none) (hvl:bootBuiltins "list" = some (.type "list")) (hg:Gl X "range") (hm:X.mg "range" = none) (ha:PA X [a] ta)
  (hs:starEach [a] X.env=[(false,eval a X.env)]:=by rfl)
  (hs2:starEach [Expr.Call (.Name "range" p2) [a] [] pos2] X.env=[(false,eval (Expr.Call (.Name "range" p2) [a] [] pos2) X.env)]:=by rfl) :
  PE X (.Call (.Name "list" p) [.Call (.Name "range" p2) [a] [] pos2] [] pos) (tCB Hj ta):=by
 intro pins s σ H Q I h;refine wpAny_Call_Name_kw (iD I hgl hml hvl ?_);refine PyProof.Rows.callWith_type1 ?_ hs2 rfl;rw [hs2];show wpAny _ _ (spliced ((false,eval (Expr.Call (.Name "range" p2) [a] [] pos2) X.env) :: backTo pos [])) _ _ s
 refine Calls.spliced_cons ?_;refine Call_ (iD I hg hm boot_range (PyProof.Rows.callWith_type1 (thn (ha pos2 pins s σ H _ I h) λus s1 ⟨vs,H1,I1,r1,q1⟩=>?_) hs rfl))
 obtain ⟨j,e,⟨hj0,hj⟩,q⟩:=q1;subst e;cases r1 with
 |cons r rr =>
  cases rr;obtain ⟨t,rfl⟩:=r;refine call_range_1 ?_;refine Calls.spliced_nil ?_;have I2:Inv X pins σ H1 { s1 with heap:=s1.heap.push { cls:=.type "range",data:=.fields #[.int 0 s1.toks,.int j t,.int 1 (s1.toks+1)] },toks:=s1.toks+1+1 }:=I1.kept λb o e=>Heap.get?_push_of_some _ e
  refine call_list_range (I.ok.hd hc) (IsRange.new ..) (small_one (by lia) (by lia) (by lia) (by lia)) (yc j) (by lia) λh' tk acc c hk hS hI=>?_
  ·refine ⟨.ref _,_,I2.laid (t':=tk) (o:=.lst (((List.range j.toNat).map λk:Nat=>(k:Int)).map V.int)) hk (Zn _) ⟨?_,acc.toList,c,?_,?_⟩,rfl,q _ (I2.hok.fresh (Zn _))⟩
   ·rw [Zc,Zc,Zh,sizeLine_eq]
    lia
   ·have k:=mY acc.toList 0 λi v hv=>by
     obtain ⟨t,ht⟩:=hI.2 i v (by rw [<-hv,Array.getElem?_toList])
     exact ⟨t,by rw [ht];congr 1;lia⟩
    rw [Array.length_toList,hI.1]at k;rw [Zi,List.range_eq_range'];exact k
   ·rw [Array.toArray_toList]
    exact hS
theorem wX {a:Expr} {al:Fa} {p p2 pos pos2:Pos} (hc:X.calm=true) (hgl:Gl X "list") (hml:X.mg "list" = none) (hvl:bootBuiltins "list" = some (.type "list")) (hg:Gl X "range") (hm:X.mg "range" = none) (ha:DA M X [a] al)
  (hs:starEach [a] X.env=[(false,eval a X.env)]:=by rfl)
  (hs2:starEach [Expr.Call (.Name "range" p2) [a] [] pos2] X.env=[(false,eval (Expr.Call (.Name "range" p2) [a] [] pos2) X.env)]:=by rfl) :
  DE M X (.Call (.Name "list" p) [.Call (.Name "range" p2) [a] [] pos2] [] pos) (eB qc al):=λhK hM=>peI (EI hc hgl hml hvl hg hm (ha hK hM) hs hs2) λ_ _ _ q=>Ee CZ q
end
section
variable {M:Mx} {n:Nat} {σ:L2.St} {H:Hp} {D:Ends} {Q Q':VK}
end
noncomputable def yZ:OD->Bool
 |.sh _=>true
 |_=>false
open Classical in
noncomputable def j0 (F:Hp) (f:List Addr):Hp:=λb=>if b∈f then none else F b
theorem j6 {F:Hp} {f:List Addr} {b:Addr} (h:b∈f):j0 F f b=none:=by unfold j0;rw [if_pos h]
theorem eE {F:Hp} {f:List Addr} {b:Addr} (h:b∉f):j0 F f b=F b:=by unfold j0;rw [if_neg h]
section
variable {K:PySem.W.Frag} {F H:Hp} {f:List Addr}
theorem ph:∀{vs:List V} {xs:List OD} {g:List Addr},OwnL K F H vs xs g->xs.all yZ=true->g=[]
 |_,_,_,.nil,_=>rfl
 |_,_,_,.cons h r,e=>by
  rw [List.all_cons,Zv]at e;have:=ph r e.2;subst this;cases h with
  |sh _=>rfl
  |ol _ _=>cases e.1
  |ot _ _=>cases e.1
  |od _ _ _=>cases e.1
  |oi _ _ _=>cases e.1
  |pl _ _=>cases e.1
end
section
variable {M:Mx} {n:Nat} {σ:L2.St} {H:Hp} {Q:VK}
end
section
variable {M:Mx} {X:Cx} {e:Expr} {fa fb:Fe}
end
theorem ex1 {α:Type} {us:List α} (h:us.length=1):∃a,us=[a]:=by
 cases us with
 |nil=>cases h
 |cons a r =>
  cases r with
  |nil=>exact ⟨a,rfl⟩
  |cons b r=>cases h
theorem ex2 {α:Type} {us:List α} (h:us.length=2):∃a b,us=[a,b]:=by
 cases us with
 |nil=>cases h
 |cons a r =>
  obtain ⟨b,e⟩:=ex1 (Nat.succ.inj h);exact ⟨a,b,by rw [e]⟩
theorem ex3 {α:Type} {us:List α} (h:us.length=3):∃a b c,us=[a,b,c]:=by
 cases us with
 |nil=>cases h
 |cons a r =>
  obtain ⟨b,c,e⟩:=ex2 (Nat.succ.inj h);exact ⟨a,b,c,by rw [e]⟩
theorem ex4 {α:Type} {us:List α} (h:us.length=4):∃a b c d,us=[a,b,c,d]:=by
 cases us with
 |nil=>cases h
 |cons a r =>
  obtain ⟨b,c,d,e⟩:=ex3 (Nat.succ.inj h);exact ⟨a,b,c,d,by rw [e]⟩
theorem ex5 {α:Type} {us:List α} (h:us.length=5):∃a b c d f,us=[a,b,c,d,f]:=by
 cases us with
 |nil=>cases h
 |cons a r =>
  obtain ⟨b,c,d,f,e⟩:=ex4 (Nat.succ.inj h);exact ⟨a,b,c,d,f,by rw [e]⟩
noncomputable def eD0:Fe:=λ_=>.ok (.od [])
section
variable {M:Mx} {n:Nat} {σ:L2.St} {H:Hp} {Q:VK}
theorem IE (h:tD M n eD0 σ H Q):we σ H Q:=by
 obtain ⟨F,ρ,fp,S,p⟩:=h;intro q hq;have py':OkE M F H Q (.od []):=p;have Fq:F q=none:=S.same.free hq;refine py' (.ref q) F _ [q] ⟨λ_ _ z=>z,λb o z=>?_,λb o z=>?_,λb z w=>w⟩ ⟨.od aZ rfl .nil,by simp,λb m=>?_⟩ λb m=>?_
 ·have hb:b≠q:=by
   rintro rfl;rw [hq]at z;cases z
  rw [az hb];exact z
 ·have hb:b≠q:=by
   rintro rfl;rw [Fq]at z;cases z
  rw [az hb];exact S.same _ _ z
 ·have:b=q:=by simpa using m
  rw [this];exact Fq
 ·have:b=q:=by simpa using m
  rw [this];exact hq
end
section
variable {X:Cx} {M:Mx}
theorem Ie {pos:Pos}:DE M X (.Dict [] [] pos) eD0:=λ_ _=>peI xV λ_ _ _ q=>IE q
end
end L3
namespace L3
open PySem L2 PySem.Spec PyProof.Rows PySem.W PySem.Calls
end L3
namespace L2
open PySem PySem.Spec PyProof.Rows
noncomputable def jg (n0 n:Nat):List Value:=(List.range n).map λj=>Value.ref (n0+j)
structure ZS (h:Heap) (n0 n:Nat) (ls:Nat->Nat) (is:Nat->Nat) (f0:Value) (arr:List Value):Prop where
 zp:h.get? (n0+n+2)=some { cls:=.type "zip",dict:=none,data:=.fields #[f0,.bool false,.bool false,.ref (n0+n),.ref (n0+n+1)],slots:=#[] }
 ti:h.get? (n0+n)=some { cls:=.type "tuple",data:=.seq (jg n0 n).toArray }
 to:h.get? (n0+n+1)=some { cls:=.type "tuple",data:=.seq arr.toArray }
 it:∀j,j<n->h.IsListIter (n0+j) (ls j) (is j)
theorem neN {a b:Nat} (h:a≠b):@Ne Addr a b:=h
theorem Je {n j:Nat} {x:Nat->Value} {arr:List Value} (ha:arr.length=n) (hj:j<n):((List.range j).map x++arr.drop j).toArray.setIfInBounds j (x j)=((List.range (j+1)).map x++arr.drop (j+1)).toArray:=by
 rw [List.setIfInBounds_toArray];congr 1
 have e:arr.drop j=arr[j] :: arr.drop (j+1):=List.drop_eq_getElem_cons (by lia)
 rw [e,List.set_append_right _ _ (by simp),Zc,Zh,Nat.sub_self,List.set_cons_zero,List.range_succ,Zl,ZD]
 rfl
theorem yS {n0 n j:Nat} {y:Value×Nat} {rest:List (Value×Nat)} (h:y :: rest=(jg n0 n).zipIdx.drop j):j<n/\y=(.ref (n0+j),j)/\rest=(jg n0 n).zipIdx.drop (j+1):=by
 have hl:(jg n0 n).zipIdx.length=n:=by rw [List.length_zipIdx];unfold jg;rw [Zc,Zh]
 have hj:j<n:=by
  have:=congrArg List.length h;rw [Zr,ZF,hl]at this
  lia
 have e:=List.drop_eq_getElem_cons (l:=(jg n0 n).zipIdx) (i:=j) (by lia)
 rw [e]at h;injection h with h1 h2
 refine ⟨hj,?_,h2⟩;rw [h1,List.getElem_zipIdx];unfold jg;rw [List.getElem_map,List.getElem_range,Nat.zero_add]
section
variable {prog:Program} {w:World} {A:Around} {E:Value->Shared->Prop} {s:Shared}
end
noncomputable def zfp (n0 n:Nat):List Addr:=(List.range (n+3)).map λj=>n0+j
theorem p_ {n0 n c:Nat} (h:c∈zfp n0 n):n0<=c/\c<n0+n+3:=by
 unfold zfp at h;obtain ⟨j,hj,rfl⟩:=ZC.mp h;have:=ZH.mp hj
 lia
theorem k7 {n0 n c:Nat} (h1:n0<=c) (h2:c<n0+n+3):c∈zfp n0 n:=ZC.mpr ⟨c-n0,ZH.mpr (by lia),by lia⟩
theorem tX {n0 n c:Nat} (h:c∉zfp n0 n):c<n0\/n0+n+2<c:=by
 by_cases h1:n0<=c
 ·by_cases h2:c<n0+n+3
  ·exact absurd (k7 h1 h2) h
  ·lia
 ·lia
theorem Vals.of_get:∀{vs:List V} {us:List Value},vs.length=us.length->(∀j,j<vs.length->∃v u,vs[j]?=some v/\us[j]?=some u/\RelV v u)->Vals vs us
 |[],[],_,_=>.nil
 |v :: vs,u :: us,hl,h=>by
  obtain ⟨v',u',e1,e2,r⟩:=h 0 (by simp)
  cases e1;cases e2;refine .cons r (Vals.of_get (by simpa using hl) λj hj=>?_)
  obtain ⟨v',u',e1,e2,r⟩:=h (j+1) (by simpa using hj)
  exact ⟨v',u',by simpa using e1,by simpa using e2,r⟩
end L2
namespace L3
open PySem L2 PySem.Spec PyProof.Rows
section
variable {M:Mx} {n:Nat} {F H:Hp} {σ:St} {D:Ends} {R':It->Hp->Prop} {X:Cx}
end
section
variable {M:Mx} {n:Nat} {F H:Hp} {σ:St} {D:Ends} {R':It->Hp->Prop} {X:Cx}
end
end L3
namespace L2
open PySem PySem.Spec PyProof.Rows
end L2
namespace L3
open PySem L2 PySem.Spec PyProof.Rows
section
variable {M:Mx} {n:Nat} {F H:Hp} {σ:St} {D:Ends} {X:Cx} {b e:Expr} {fa fb:Fe} {x:Str} {p pos:Pos}
end
end L3
namespace L2
open PySem PySem.Spec PyProof.Rows
section
variable {prog:Program} {w:World} {A:Around} {E:Value->Shared->Prop} {s:Shared}
theorem iO {it l:Addr} {i:Nat} {items:Array Value} {x:Value} {Q:Value->Shared->Prop} (hit:s.heap.IsTupleIter it l i)
  (hl:s.heap.IsTuple l items) (hx:items[i]?=some x) (hQ:∀h',h'.IsTupleIter it l (i+1)->Heap.SameBut it s.heap h'->Q x { s with heap:=h' }) :
  wpAny (model prog w) A (Builtin.SmallTypes.nextOf (.ref it)) Q E s:=by
 obtain ⟨o,ho,hc,hd⟩:=id hit;obtain ⟨ol,hol,_,nl,hdl⟩:=hl;unfold Builtin.SmallTypes.nextOf;refine wpAny_bind (wpAny_callSpecial?_slot (name:=Str.ofString "__next__") hit.typeIs PySem.F.slot_tuple_iterator_next (wpAny_call_entry PySem.F.slot_tuple_iterator_next hit.typeIs PySem.F.entry_tuple_iterator_next ?_ (PySem.F.args_tuple_iterator_next_1 _)));show wpAny _ _ (field (.ref it) 0 >>= _) _ _ s;refine wpAny_bind (wpAny_field ho hd (x:=.ref l) rfl ?_);show wpAny _ _ (if (Value.ref l == Value.none)=true then _ else _) _ _ s;rw [if_neg (show ¬((Value.ref l == Value.none)=true) from Zm)];show wpAny _ _ (field (.ref it) 1 >>= _) _ _ s;refine wpAny_bind (wpAny_field ho hd (x:=.int i 0) rfl ?_);show wpAny _ _ (seqItems? (.ref l) >>= _) _ _ s;refine wpAny_bind (wpAny_seqItems hol hdl ?_);simp only [Int.toNat_natCast,hx];refine wpAny_bind (wpAny_setField ho hd (by simp) (wpAny_pure ⟨x,rfl,wpAny_pure (hQ _ ?_ (Heap.SameBut.update ..))⟩));exact ⟨_,Heap.get?_update_self _ ho (Obj.isFreed_of_fields (Obj.data_mapFields hd _)),(Obj.cls_mapFields ..).trans hc,by rw [Obj.data_mapFields hd];simp [rawInt]⟩
theorem iS {it l:Addr} {i:Nat} {items:Array Value} {Q:Value->Shared->Prop} (hh:A.handled=none) (hit:s.heap.IsTupleIter it l i) (hl:s.heap.IsTuple l items) (hx:items[i]?=none)
  (hE:∀h' e,Heap.ExtBut it s.heap h'->(∃o,h'.get? e=some o/\o.cls=.type "StopIteration")->E (.ref e) { s with heap:=h' }):wpAny (model prog w) A (Builtin.SmallTypes.nextOf (.ref it)) Q E s:=by
 obtain ⟨o,ho,hc,hd⟩:=id hit;obtain ⟨ol,hol,_,nl,hdl⟩:=hl;unfold Builtin.SmallTypes.nextOf;refine wpAny_bind (wpAny_callSpecial?_slot (name:=Str.ofString "__next__") hit.typeIs PySem.F.slot_tuple_iterator_next (wpAny_call_entry PySem.F.slot_tuple_iterator_next hit.typeIs PySem.F.entry_tuple_iterator_next ?_ (PySem.F.args_tuple_iterator_next_1 _)));show wpAny _ _ (field (.ref it) 0 >>= _) _ _ s;refine wpAny_bind (wpAny_field ho hd (x:=.ref l) rfl ?_);show wpAny _ _ (if (Value.ref l == Value.none)=true then _ else _) _ _ s;rw [if_neg (show ¬((Value.ref l == Value.none)=true) from Zm)];show wpAny _ _ (field (.ref it) 1 >>= _) _ _ s;refine wpAny_bind (wpAny_field ho hd (x:=.int i 0) rfl ?_);show wpAny _ _ (seqItems? (.ref l) >>= _) _ _ s;refine wpAny_bind (wpAny_seqItems hol hdl ?_);simp only [Int.toNat_natCast,hx];refine wpAny_bind (wpAny_rule (wpAny_bind (wpAny_setField ho hd (by simp) ?_)));show wpAny _ _ (newExc (.type "StopIteration") [] >>= _) _ _ _;refine wpAny_bind ?_;simp only [newExc,newTuple];refine wpAny_bind (wpAny_newObj_type ?_ (by size_fits));refine wpAny_bind (m:=firstArgMember _ _) (wpAny_of_eq (a:=Value.none) (by first | rfl | (simp only [firstArgMember];rfl)) ?_);refine wpAny_newObj_type ?_ (by size_fits);simp only [raiseNew];refine wpAny_bind (wpAny_handled ?_);(first | rw [show A.in1.handled=none from hh] | rw [hh]);refine wpAny_bind (wpAny_pure (wpAny_throw ?_));exact hE _ _ (((Heap.SameBut.update ..).extBut.push _).push _) ⟨_,Heap.get?_push_size _ rfl,rfl⟩
theorem Heap.IsTupleIter.at' {h h':Heap} {a l i:Nat} (x:h.IsTupleIter a l i) (k:∀o,h.get? a=some o->h'.get? a=some o):h'.IsTupleIter a l i:=let ⟨o,ho,r⟩:=x;⟨o,k o ho,r⟩
theorem Heap.IsTuple.at' {h h':Heap} {a:Nat} {xs:Array Value} (x:h.IsTuple a xs) (k:∀o,h.get? a=some o->h'.get? a=some o):h'.IsTuple a xs:=let ⟨o,ho,r⟩:=x;⟨o,k o ho,r⟩
end
structure ZT (h:Heap) (n0 n:Nat) (ls:Nat->Nat) (is:Nat->Nat) (f0:Value) (arr:List Value):Prop where
 zp:h.get? (n0+n+2)=some { cls:=.type "zip",dict:=none,data:=.fields #[f0,.bool false,.bool false,.ref (n0+n),.ref (n0+n+1)],slots:=#[] }
 ti:h.get? (n0+n)=some { cls:=.type "tuple",data:=.seq (jg n0 n).toArray }
 to:h.get? (n0+n+1)=some { cls:=.type "tuple",data:=.seq arr.toArray }
 it:∀j,j<n->h.IsTupleIter (n0+j) (ls j) (is j)
theorem ZT.draw {h h1 h2:Heap} {n0 n j:Nat} {ls:Nat->Nat} {is:Nat->Nat} {f0:Value} {arr arr':List Value} (Z:ZT h n0 n ls is f0 arr) (hj:j<n) (hs1:Heap.SameBut (n0+j) h h1) (hI:h1.IsTupleIter (n0+j) (ls j) (is j+1))
  (hs2:Heap.SameBut (n0+n+1) h1 h2) (hT:h2.get? (n0+n+1)=some { cls:=.type "tuple",data:=.seq arr'.toArray }):ZT h2 n0 n ls (λm=>if m=j then is m+1 else is m) f0 arr':=by
 have up:∀c,c≠n0+j->c≠n0+n+1->h2.get? c=h.get? c:=λc c1 c2=>(hs2.2 c (neN c2)).trans (hs1.2 c (neN c1))
 refine ⟨(up _ (by lia) (by lia)).trans Z.zp,(up _ (by lia) (by lia)).trans Z.ti,hT,λm hm=>?_⟩
 by_cases e:m=j
 ·subst e
  show h2.IsTupleIter _ _ (if m=m then _ else _)
  rw [if_pos rfl];exact Heap.IsTupleIter.at' hI λo q=>(hs2.2 _ (neN (by lia))).trans q
 ·show h2.IsTupleIter _ _ (if m=j then _ else _)
  rw [if_neg e];exact Heap.IsTupleIter.at' (Z.it m hm) λo q=>(up _ (by lia) (by lia)).trans q
theorem ZT.flag {h h1:Heap} {n0 n:Nat} {ls:Nat->Nat} {is:Nat->Nat} {f0 f1:Value} {arr:List Value} (Z:ZT h n0 n ls is f0 arr) (hs:Heap.ExtBut (n0+n+2) h h1)
  (hz:h1.get? (n0+n+2)=some { cls:=.type "zip",dict:=none,data:=.fields #[f1,.bool false,.bool false,.ref (n0+n),.ref (n0+n+1)],slots:=#[] }):ZT h1 n0 n ls is f1 arr :=
 ⟨hz,hs _ _ (neN (by lia)) Z.ti,hs _ _ (neN (by lia)) Z.to,λm hm=>Heap.IsTupleIter.at' (Z.it m hm) λo q=>hs _ _ (neN (by lia)) q⟩
theorem ZT.pos {h:Heap} {n0 n:Nat} {ls:Nat->Nat} {is is':Nat->Nat} {f0:Value} {arr:List Value} (Z:ZT h n0 n ls is f0 arr) (e:∀j,j<n->is j=is' j):ZT h n0 n ls is' f0 arr :=
 ⟨Z.zp,Z.ti,Z.to,λm hm=>by rw [<-e m hm];exact Z.it m hm⟩
section
variable {prog:Program} {w:World} {A:Around} {E:Value->Shared->Prop} {s:Shared}
theorem vF {n0 k:Nat} {ls:Nat->Nat} {xs:Nat->Array Value} {x:Nat->Value} {arr:List Value} {Q:Value->Shared->Prop} (hlt:∀j,j<2->ls j<n0) (Z:ZT s.heap n0 2 ls (λ_=>k) .none arr) (ha:arr.length=2)
  (hl:∀j,j<2->s.heap.IsTuple (ls j) (xs j)) (hx:∀j,j<2->(xs j)[k]?=some (x j))
  (hQ:∀h',ZT h' n0 2 ls (λ_=>k+1) (rawInt s.heap.objs.size) ((List.range 2).map x)->h'.get? s.heap.objs.size=some { cls:=.type "tuple",data:=.seq ((List.range 2).map x).toArray } ->
   (∀c o,(c<n0\/n0+2+2<c)->s.heap.get? c=some o->h'.get? c=some o)->Q (.ref s.heap.objs.size) { s with heap:=h' }) :
  wpAny (model prog w) A (Builtin.«zip.__next__» ⟨[.ref (n0+2+2)],[]⟩) (λfin s'=>∃v,fin=.done (.ret v)/\Q v s') E s:=by
 show wpAny _ _ (field _ 2 >>= _) _ _ _
 refine wpAny_bind (wpAny_field Z.zp rfl (x:=.bool false) rfl ?_);show wpAny _ _ (field _ (2+1) >>= _) _ _ _
 refine wpAny_bind (wpAny_field Z.zp rfl (x:=.ref (n0+2)) rfl ?_);refine wpAny_bind (wpAny_seqItems Z.ti rfl ?_);show wpAny _ _ (Builtin.SmallTypes.ownedTupleIsFree _ >>= _) _ _ _
 refine wpAny_bind ?_;unfold Builtin.SmallTypes.ownedTupleIsFree;refine wpAny_bind (wpAny_field Z.zp rfl (x:=.none) rfl (wpAny_pure ?_));simp only [if_true];refine wpAny_bind (wpAny_rule ?_);refine wpAny_bind (wpAny_field Z.zp rfl (x:=.ref (n0+2+1)) rfl ?_);refine wpAny_bind (wpAny_setField_rec Z.zp (by simp) λh₁ hz₁ hs₁=>?_)
 refine wpAny_bind ?_;have Z1:ZT h₁ n0 2 ls (λ_=>k) .ellipsis arr:=Z.flag hs₁.extBut hz₁
 refine wpAny_forIn_list _ (λrest b s'=>b=(none,())/\∃j hp,j<=2/\rest=(jg n0 2).zipIdx.drop j/\s'={ s with heap:=hp }/\ZT hp n0 2 ls (λm=>if m<j then k+1 else k) .ellipsis ((List.range j).map x++arr.drop j) /\
  hp.objs.size=s.heap.objs.size/\∀c o,(c<n0\/n0+2+2<c)->s.heap.get? c=some o->hp.get? c=some o) _ ?_ ?_ _ _ ⟨rfl,0,h₁,Nat.zero_le _,rfl,rfl,Z1.pos λj _=>rfl,hs₁.1,λc o hc q=>(hs₁.2 c (neN (by lia))).trans q⟩
 ·rintro y rest b s' ⟨rfl,j,hp,hj3,hr,rfl,Zj,hsz,hk⟩
  obtain ⟨hj,rfl,hr2⟩:=yS hr;refine wpAny_bind (wpAny_onRaise ?_);show wpAny _ _ (Builtin.SmallTypes.nextOf (.ref (n0+j)) >>= _) _ _ _
  have hi:=Zj.it j hj;have e0:(if j<j then k+1 else k)=k:=if_neg (Nat.lt_irrefl _)
  have hlj:hp.IsTuple (ls j) (xs j):=Heap.IsTuple.at' (hl j hj) λo q=>hk _ _ (Or.inl (hlt j hj)) q
  refine wpAny_bind (iO (s:={ s with heap:=hp }) hi hlj (by rw [e0];exact hx j hj) λh2 hI2 hs2=>wpAny_pure ?_)
  have hT2:h2.get? (n0+2+1)=some { cls:=.type "tuple",data:=.seq ((List.range j).map x++arr.drop j).toArray }:=(hs2.2 _ (neN (by lia))).trans Zj.to
  refine wpAny_bind (wpAny_seqItems hT2 rfl ?_);have hlen:((List.range j).map x++arr.drop j).length=2:=by rw [Zd,Zc,Zh,ZF,ha];lia
  refine wpAny_bind (wpAny_updateSeq hT2 rfl ?_ (by rw [ZA,hlen];decide) (by rw [Array.size_setIfInBounds,ZA,hlen];decide))
  refine wpAny_bind (wpAny_letGo (wpAny_pure ?_));have hs3:=Heap.SameBut.update h2 (n0+2+1) (Obj.mapSeq (·.setIfInBounds j (x j)));have hT3:(h2.update (n0+2+1) (Obj.mapSeq (·.setIfInBounds j (x j)))).get? (n0+2+1)=some { cls:=.type "tuple",data:=.seq ((List.range (j+1)).map x++arr.drop (j+1)).toArray }:=by
   rw [Heap.get?_update_self _ hT2 rfl,<-Je ha hj];simp only [Obj.mapSeq,Array.size_setIfInBounds,beq_self_eq_true,if_true]
  refine ⟨rfl,j+1,_,by lia,hr2,rfl,(Zj.draw hj hs2 hI2 hs3 hT3).pos λm hm=>?_,hs3.1.trans (hs2.1.trans hsz),λc o hc q=>(hs3.2 c (neN (by lia))).trans ((hs2.2 c (neN (by lia))).trans (hk c o hc q))⟩
  by_cases e:m=j
  ·subst e
   rw [if_pos rfl,if_neg (Nat.lt_irrefl _),if_pos (Nat.lt_succ_self _)]
  ·rw [if_neg e]
   by_cases e2:m<j
   ·rw [if_pos e2,if_pos (by lia)]
   ·rw [if_neg e2,if_neg (by lia)]
 ·rintro b s' ⟨rfl,j,hp,hj3,hr,rfl,Zj,hsz,hk⟩
  have hj:j=2:=by
   have hl':(jg n0 2).zipIdx.length=2:=by rw [List.length_zipIdx];unfold jg;rw [Zc,Zh]
   have:=congrArg List.length hr;rw [ZF,hl',List.length_nil]at this
   lia
  subst hj;have ea:(List.range 2).map x++arr.drop 2=(List.range 2).map x:=by rw [List.drop_of_length_le (by lia),Zx]
  rw [ea]at Zj;have Z3:ZT hp n0 2 ls (λ_=>k+1) .ellipsis ((List.range 2).map x):=Zj.pos λm hm=>if_pos hm
  refine wpAny_bind (wpAny_seqItems Z3.to rfl ?_);refine wpAny_bind (wpAny_newTuple ?_);refine wpAny_bind ?_;unfold Builtin.SmallTypes.ownedTupleHandOut;have Z4:ZT (hp.push { cls:=.type "tuple",data:=.seq ((List.range 2).map x).toArray }) n0 2 ls (λ_=>k+1) .ellipsis ((List.range 2).map x):=Z3.flag (λb o _ q=>Heap.get?_push_of_some _ q) (Heap.get?_push_of_some _ Z3.zp)
  have zlt:n0+2+2<hp.objs.size:=Heap.lt_size Z3.zp;refine wpAny_bind (wpAny_setField_rec Z4.zp (by simp) λh7 hz7 hs7=>?_)
  have Z7:ZT h7 n0 2 ls (λ_=>k+1) (rawInt hp.objs.size) ((List.range 2).map x):=Z4.flag hs7.extBut hz7
  refine wpAny_setField_rec Z7.zp (by simp) λh8 hz8 hs8=>?_
  have Z8:ZT h8 n0 2 ls (λ_=>k+1) (rawInt hp.objs.size) ((List.range 2).map x):=Z7.flag hs8.extBut hz8
  refine wpAny_pure ⟨_,rfl,?_⟩;show Q (.ref hp.objs.size) _
  rw [hsz]at Z8 zlt ⊢;refine hQ h8 Z8 ?_ λc o hc q=>(hs8.2 c (neN (by lia))).trans ((hs7.2 c (neN (by lia))).trans (Heap.get?_push_of_some _ (hk c o hc q)))
  refine (hs8.2 _ (neN (by lia))).trans ((hs7.2 _ (neN (by lia))).trans ?_)
  rw [<-hsz];exact Heap.get?_push_size _ rfl
theorem vy {n0 k:Nat} {ls:Nat->Nat} {xs:Array Value} {arr:List Value} {Q:Fin->Shared->Prop} (hh:A.handled=none) (hlt:ls 0<n0) (Z:ZT s.heap n0 2 ls (λ_=>k) .none arr)
  (hl:s.heap.IsTuple (ls 0) xs) (hx:xs[k]?=none)
  (hE:∀h' e,(∀c o,(c<n0\/n0+2+2<c)->s.heap.get? c=some o->h'.get? c=some o)->(∃o,h'.get? e=some o/\o.cls=.type "StopIteration")->E (.ref e) { s with heap:=h' }) :
  wpAny (model prog w) A (Builtin.«zip.__next__» ⟨[.ref (n0+2+2)],[]⟩) Q E s:=by
 show wpAny _ _ (field _ 2 >>= _) _ _ _
 refine wpAny_bind (wpAny_field Z.zp rfl (x:=.bool false) rfl ?_);show wpAny _ _ (field _ (2+1) >>= _) _ _ _
 refine wpAny_bind (wpAny_field Z.zp rfl (x:=.ref (n0+2)) rfl ?_);refine wpAny_bind (wpAny_seqItems Z.ti rfl ?_);show wpAny _ _ (Builtin.SmallTypes.ownedTupleIsFree _ >>= _) _ _ _
 refine wpAny_bind ?_;unfold Builtin.SmallTypes.ownedTupleIsFree;refine wpAny_bind (wpAny_field Z.zp rfl (x:=.none) rfl (wpAny_pure ?_));simp only [if_true];refine wpAny_bind (wpAny_rule ?_);refine wpAny_bind (wpAny_field Z.zp rfl (x:=.ref (n0+2+1)) rfl ?_);refine wpAny_bind (wpAny_setField_rec Z.zp (by simp) λh₁ hz₁ hs₁=>?_)
 refine wpAny_bind ?_;have Z1:ZT h₁ n0 2 ls (λ_=>k) .ellipsis arr:=Z.flag hs₁.extBut hz₁
 show wpAny _ _ (forIn ((Value.ref (n0+0),0) :: _) _ _) _ _ _
 rw [List.forIn_cons];refine wpAny_bind (wpAny_bind (wpAny_onRaise ?_));show wpAny _ _ (Builtin.SmallTypes.nextOf (.ref (n0+0)) >>= _) _ _ _
 have hl1:h₁.IsTuple (ls 0) xs:=Heap.IsTuple.at' hl λo q=>(hs₁.2 _ (neN (by lia))).trans q
 refine wpAny_bind (iS (s:={ s with heap:=h₁ }) hh (Z1.it 0 (by decide)) hl1 hx λh2 e hs2 he=>?_)
 obtain ⟨oe,hoe,hce⟩:=he;have hz2:=hs2 _ _ (neN (by lia)) Z1.zp
 have hez:e≠n0+2+2:=λz=>by
  subst z;rw [hz2]at hoe;cases hoe;simp at hce
 exact wpAny_setField_rec hz2 (by simp) λh3 _ hs3=>hE h3 e (λc o hc q=>(hs3.2 c (neN (by lia))).trans (hs2 c o (neN (by lia)) ((hs₁.2 c (neN (by lia))).trans q))) ⟨oe,(hs3.2 e hez).trans hoe,hce⟩
theorem rO {n0 k:Nat} {ls:Nat->Nat} {xs:Nat->Array Value} {x:Nat->Value} {arr:List Value} {Q:Option Value->Shared->Prop} (hlt:∀j,j<2->ls j<n0) (Z:ZT s.heap n0 2 ls (λ_=>k) .none arr) (ha:arr.length=2)
  (hl:∀j,j<2->s.heap.IsTuple (ls j) (xs j)) (hx:∀j,j<2->(xs j)[k]?=some (x j))
  (hQ:∀h',ZT h' n0 2 ls (λ_=>k+1) (rawInt s.heap.objs.size) ((List.range 2).map x)->h'.get? s.heap.objs.size=some { cls:=.type "tuple",data:=.seq ((List.range 2).map x).toArray } ->
   (∀c o,(c<n0\/n0+2+2<c)->s.heap.get? c=some o->h'.get? c=some o)->Q (some (.ref s.heap.objs.size)) { s with heap:=h' }) :
  wpAny (model prog w) A (pyNext (.ref (n0+2+2))) Q E s:=by
 have hT:s.TypeIs (.ref (n0+2+2)) "zip" := ⟨_,Z.zp,rfl⟩;unfold pyNext;exact wpAny_bind (wpAny_attempt (wpAny_callSpecial?_slot (name:=Str.ofString "__next__") hT F.slot_zip_next (wpAny_call_entry F.slot_zip_next hT F.entry_zip_next (vF hlt Z ha hl hx λh' a1 a2 a3=>wpAny_pure (hQ h' a1 a2 a3)) (F.args_zip_next_1 _))))
theorem rP {n0 k:Nat} {ls:Nat->Nat} {xs:Array Value} {arr:List Value} {Q:Option Value->Shared->Prop} (hh:A.handled=none) (hlt:ls 0<n0) (Z:ZT s.heap n0 2 ls (λ_=>k) .none arr)
  (hl:s.heap.IsTuple (ls 0) xs) (hx:xs[k]?=none)
  (hQ:∀h',(∀c o,(c<n0\/n0+2+2<c)->s.heap.get? c=some o->h'.get? c=some o)->Q none { s with heap:=h' }) :
  wpAny (model prog w) A (pyNext (.ref (n0+2+2))) Q E s:=by
 have hT:s.TypeIs (.ref (n0+2+2)) "zip" := ⟨_,Z.zp,rfl⟩;unfold pyNext;refine wpAny_bind (wpAny_attempt (wpAny_callSpecial?_slot (name:=Str.ofString "__next__") hT F.slot_zip_next (wpAny_call_entry F.slot_zip_next hT F.entry_zip_next (vy hh hlt Z hl hx λh' e hk he=>?_) (F.args_zip_next_1 _))))
 obtain ⟨o,ho,hc⟩:=he;exact wpAny_bind (wpAny_isInstance (T := "StopIteration") (b:=true) ⟨o,ho,hc⟩ isSubtype_stop (wpAny_pure (hQ _ hk)))
end
noncomputable def jT (h:Heap) (l:Nat):Heap:=h.push { cls:=.type "tuple_iterator",data:=.fields #[.ref l,.int 0 0] }
noncomputable def zA2 (h:Heap) (l0 l1:Nat):Heap:=(jT (jT h l0) l1).push { cls:=.type "tuple",data:=.seq #[.ref h.objs.size,.ref (jT h l0).objs.size] }
noncomputable def zB2 (h:Heap) (l0 l1:Nat):Heap:=(zA2 h l0 l1).push { cls:=.type "tuple",data:=.seq #[.none,.none] }
noncomputable def zC2 (h:Heap) (l0 l1:Nat):Heap:=(zB2 h l0 l1).push { cls:=.type "zip",data:=.fields #[.none,.bool false,.bool false,.ref (jT (jT h l0) l1).objs.size,.ref (zA2 h l0 l1).objs.size] }
theorem wq (l0 l1:Nat) (xl0 xl1:Array Value) :
  Meets (Builtin.«zip.__new__» ⟨[.type "zip",.ref l0,.ref l1],[]⟩) (λ_ R s=>s.heap.IsTuple l0 xl0/\s.heap.IsTuple l1 xl1 /\
   R (.ok (.ret (.ref (zB2 s.heap l0 l1).objs.size))) { s with heap:=zC2 s.heap l0 l1 }) :=
 .of_wp λprog w A R s h=>by
  obtain ⟨hp,g,d,tk,os⟩:=s;obtain ⟨hl0,hl1,h⟩:=h;have hsub:=sub_zip;have Hl0:Heap.IsTuple (Shared.heap ⟨hp,g,d,tk,os⟩) l0 xl0:=hl0;have Hl1:Heap.IsTuple (Shared.heap ⟨(Heap.push hp { cls:=.type "tuple_iterator",data:=.fields #[.ref l0,.int 0 0] }),g,d,tk,os⟩) l1 xl1:=(Heap.IsTuple.push hl1 _)
  wp_walk using wpAny_pyIter_tuple Hl0,wpAny_pyIter_tuple Hl1
  exact ⟨_,rfl,h⟩
theorem AO {prog:Program} {w:World} {A:Around} {E:Value->Shared->Prop} {s:Shared} {ls:Nat->Nat} {xs:Nat->Array Value} {Q:Value->Shared->Prop} (hl:∀j,j<2->s.heap.IsTuple (ls j) (xs j))
  (h:∀h',ZT h' s.heap.objs.size 2 ls (λ_=>0) .none [.none,.none]->(∀c o,s.heap.get? c=some o->h'.get? c=some o)->Q (.ref (s.heap.objs.size+2+2)) { s with heap:=h' }) :
  wpAny (model prog w) A (call (.type "zip") [.ref (ls 0),.ref (ls 1)]) Q E s:=by
 refine callType_new PySem.F.called_zip (by decide) (PySem.F.typeCall_zip_2 _ _) (PySem.F.newCall_zip_2 _ _) (λobj=>PySem.F.args_object_init_3 obj _ _) PySem.F.entry_zip_new (wq (ls 0) (ls 1) (xs 0) (xs 1)) ⟨hl 0 (by decide),hl 1 (by decide),?_⟩
 have z1:(jT s.heap (ls 0)).objs.size=s.heap.objs.size+1:=Heap.size_push ..;have z2:(jT (jT s.heap (ls 0)) (ls 1)).objs.size=s.heap.objs.size+2:=by unfold jT;rw [Heap.size_push];exact congrArg (·+1) z1
 have zA:(zA2 s.heap (ls 0) (ls 1)).objs.size=s.heap.objs.size+2+1:=by unfold zA2;rw [Heap.size_push,z2]
 have zB:(zB2 s.heap (ls 0) (ls 1)).objs.size=s.heap.objs.size+2+2:=by unfold zB2;rw [Heap.size_push,zA]
 have kC:∀c o,(zB2 s.heap (ls 0) (ls 1)).get? c=some o->(zC2 s.heap (ls 0) (ls 1)).get? c=some o:=λc o q=>Heap.get?_push_of_some _ q
 have kB:∀c o,(zA2 s.heap (ls 0) (ls 1)).get? c=some o->(zC2 s.heap (ls 0) (ls 1)).get? c=some o:=λc o q=>kC c o (Heap.get?_push_of_some _ q)
 have k2:∀c o,(jT (jT s.heap (ls 0)) (ls 1)).get? c=some o->(zC2 s.heap (ls 0) (ls 1)).get? c=some o:=λc o q=>kB c o (Heap.get?_push_of_some _ q)
 have k1:∀c o,(jT s.heap (ls 0)).get? c=some o->(zC2 s.heap (ls 0) (ls 1)).get? c=some o:=λc o q=>k2 c o (Heap.get?_push_of_some _ q)
 have k0:∀c o,s.heap.get? c=some o->(zC2 s.heap (ls 0) (ls 1)).get? c=some o:=λc o q=>k1 c o (Heap.get?_push_of_some _ q)
 have gC:(zC2 s.heap (ls 0) (ls 1)).get? (zB2 s.heap (ls 0) (ls 1)).objs.size=some _:=Heap.get?_push_size _ rfl;have gB:(zC2 s.heap (ls 0) (ls 1)).get? (zA2 s.heap (ls 0) (ls 1)).objs.size=some _:=kC _ _ (Heap.get?_push_size _ rfl);have gA:(zC2 s.heap (ls 0) (ls 1)).get? (jT (jT s.heap (ls 0)) (ls 1)).objs.size=some _:=kB _ _ (Heap.get?_push_size _ rfl);have g0:(zC2 s.heap (ls 0) (ls 1)).get? s.heap.objs.size=some _:=k1 _ _ (Heap.get?_push_size _ rfl);have g1:(zC2 s.heap (ls 0) (ls 1)).get? (jT s.heap (ls 0)).objs.size=some _:=k2 _ _ (Heap.get?_push_size _ rfl);rw [zB,zA,z2]at gC;rw [zA]at gB;rw [z2,z1]at gA;rw [z1]at g1;show _/\Q (.ref (zB2 s.heap (ls 0) (ls 1)).objs.size) _
 rw [zB];refine ⟨⟨_,gC,rfl⟩,h _ ⟨gC,gA,gB,λj hj=>?_⟩ k0⟩
 match j,hj with
 |0,_=>exact ⟨_,g0,rfl,rfl⟩
 |1,_=>exact ⟨_,g1,rfl,rfl⟩
noncomputable def Itv (K:PySem.W.Frag) (n:Nat) (ls:Nat->Nat):It :=
 ⟨λi H=>∀j,j<n->∃xs x,SqT K H (ls j) xs/\xs[i]?=some x,λi H v H'=>∃(T:Addr) (xs:List V),H T=none/\v=.ref T/\H'=upd H T (.tup xs)/\xs.length=n/\∀j,j<n->∀ys,SqT K H (ls j) ys->xs[j]?=ys[i]?,
  λi H=>∃xs,SqT K H (ls 0) xs/\xs.length<=i⟩
theorem ZT.obj {h:Heap} {n0 n:Nat} {ls:Nat->Nat} {is:Nat->Nat} {f0:Value} {arr:List Value} (Z:ZT h n0 n ls is f0 arr) {c:Nat} (hc:c∈zfp n0 n):∃o,h.get? c=some o/\∀v,o.data≠.cell v:=by
 have:=p_ hc;by_cases h1:c<n0+n
 ·obtain ⟨o,e,_,d⟩:=Z.it (c-n0) (by lia)
  rw [show n0+(c-n0)=c by lia]at e
  exact ⟨o,e,λv z=>by rw [d]at z;cases z⟩
 ·have h2:c=n0+n\/c=n0+n+1\/c=n0+n+2:=by lia
  rcases h2 with rfl | rfl | rfl
  ·exact ⟨_,Z.ti,λv z=>by cases z⟩
  ·exact ⟨_,Z.to,λv z=>by cases z⟩
  ·exact ⟨_,Z.zp,λv z=>by cases z⟩
theorem ZT.kept {h h':Heap} {n0 n:Nat} {ls:Nat->Nat} {is:Nat->Nat} {f0:Value} {arr:List Value} (Z:ZT h n0 n ls is f0 arr) (kp:∀b∈zfp n0 n,∀o,h.get? b=some o->h'.get? b=some o):ZT h' n0 n ls is f0 arr :=
 ⟨kp _ (k7 (by lia) (by lia)) _ Z.zp,kp _ (k7 (by lia) (by lia)) _ Z.ti,kp _ (k7 (by lia) (by lia)) _ Z.to,λj hj=>Heap.IsTupleIter.at' (Z.it j hj) λo q=>kp _ (k7 (by lia) (by lia)) o q⟩
theorem zx {P:Program} {w:World} {K:PySem.W.Frag} {es:List Expr} {tk:Nat} {pos:Pos} (n0:Nat) (ls:Nat->Nat) (hlt:∀j,j<2->ls j<n0) :
  Turn P w K (.Tuple es tk pos) (Itv K 2 ls) (zfp n0 2) (n0+2+2) (λi h=>∃arr,arr.length=2/\ZT h n0 2 ls (λ_=>i) .none arr):=by
 constructor
 ·exact k7 (by lia) (by lia)
 ·rintro i h ⟨arr,_,Z⟩ c hc
  exact Z.obj hc
 ·rintro i h h' ⟨arr,ha,Z⟩ kp
  exact ⟨arr,ha,Z.kept kp⟩
 ·intro X hP hw hK hc i pins s σ H E I hf st hg
  subst hP hw hK;obtain ⟨arr,ha,Z⟩:=st;have pick:∀j,∃(xs:List V) (x:V) (its:List Value) (u:Value),j<2->SqT X.K H (ls j) xs/\xs[i]?=some x/\s.heap.IsTuple (ls j) its.toArray/\its[i]?=some u/\RelV x u:=λj=>by
   by_cases hj:j<2
   ·obtain ⟨xs,x,hq,hx⟩:=hg j hj
    obtain ⟨its,rv,p,_⟩:=I.tuple hq;obtain ⟨u,hu,ru⟩:=rv.get hx;exact ⟨xs,x,its,u,λ_=>⟨hq,hx,(show s.heap.IsTuple _ its.toArray from p),hu,ru⟩⟩
   ·exact ⟨[],.non,[],.none,λz=>absurd z hj⟩
  obtain ⟨xs,pick⟩:=Classical.axiomOfChoice pick;obtain ⟨x,pick⟩:=Classical.axiomOfChoice pick;obtain ⟨its,pick⟩:=Classical.axiomOfChoice pick;obtain ⟨u,pick⟩:=Classical.axiomOfChoice pick;refine rO hlt Z ha (xs:=λj=>(its j).toArray) (x:=u) (λj hj=>(pick j hj).2.2.1) (λj hj=>by simpa using (pick j hj).2.2.2.1) λh3 Z3 hT hk=>?_
  refine ⟨_,rfl,wpAny_letOwnedTupleGo_zip Z3.zp λh4 hz4 hs4=>?_⟩
  have zlt:n0+2+2<s.heap.objs.size:=Heap.lt_size Z.zp;have hs4':∀c,c≠n0+2+2->h4.get? c=h3.get? c:=λc hc=>hs4.2 c (neN hc)
  have kk:∀c w',c∉zfp n0 2->s.heap.get? c=some w'->h4.get? c=some w':=λc w' hc q=>by
   have:=tX hc;exact (hs4' c (by lia)).trans (hk c w' this q)
  have hT4:=(hs4' s.heap.objs.size (by lia)).trans hT
  have Z4:ZT h4 n0 2 ls (λ_=>i+1) .none ((List.range 2).map u):=Z3.flag hs4.extBut hz4
  refine ⟨.ref s.heap.objs.size,upd H s.heap.objs.size (.tup ((List.range 2).map x)),mB (s:=s) (h':=h4) (t':=s.toks) I hf kk (Zn _) ?_,rfl,⟨_,(List.range 2).map x,I.fresh,rfl,rfl,rfl,λj hj ys hy=>?_⟩,⟨_,rfl,Z4⟩,λc hc=>?_⟩
  ·refine ⟨by show 2<=sizeLine;decide,(List.range 2).map u,Vals.of_get rfl λj hj=>?_,_,hT4,rfl,_,rfl⟩
   have hj:j<2:=hj;exact ⟨x j,u j,by rw [Za,Zy hj];rfl,by rw [Za,Zy hj];rfl,(pick j hj).2.2.2.2⟩
  ·rw [Za,Zy hj,I.tuple_inj hy (pick j hj).1,(pick j hj).2.1]
   rfl
  ·have:=p_ hc
   rw [az (neN (by lia))]
   exact (hf c hc).1
 ·intro X hP hw hK hc i pins s σ H E I hf st hg
  subst hP hw hK;obtain ⟨arr,ha,Z⟩:=st;obtain ⟨xs,hq,hx⟩:=hg;obtain ⟨its,rv,p,_⟩:=I.tuple hq;have l1:=rv.length;refine rP (I.ok.hd hc) (hlt 0 (by decide)) Z (show s.heap.IsTuple _ its.toArray from p) (by simp;lia) λh3 hk=>⟨rfl,pH (t':=s.toks) I hf λc w' hc q=>hk c w' (tX hc) q⟩
 ·rintro A i s Q E ⟨arr,ha,Z⟩ h
  exact wpAny_pyIter_zip Z.zp h
noncomputable def iZA (K:PySem.W.Frag) (ta:TA):TI:=fun σ H R=>ta σ H λvs H1=>∃a b:Nat,vs=[.ref a,.ref b]/\(((∃xs,SqL K H1 a xs)/\(∃ys,SqL K H1 b ys)/\R (Itz K a b) H1)\/((∃xs,SqT K H1 a xs)/\(∃ys,SqT K H1 b ys)/\R (Itv K 2 λj=>[a,b].getD j 0) H1))
theorem HH {X:Cx} {es:List Expr} {k:Nat} {a b:Expr} {ta:TA} {p pos tpos:Pos} (hg:Gl X "zip") (hm:X.mg "zip" = none) (ha:PA X [a,b] ta) (hs:starEach [a,b] X.env=[(false,eval a X.env),(false,eval b X.env)]:=by rfl) (hs2:starEach [b] X.env=[(false,eval b X.env)]:=by rfl) :
  PI X (.Tuple es k tpos) (.Call (.Name "zip" p) [a,b] [] pos) (iZA X.K ta):=by
 intro pins s σ H R I h;refine Call_ (iD I hg hm u6 (PyProof.Rows.callWith_type1 (thn (ha pos pins s σ H _ I h) λus s1 ⟨vs,H1,I1,r1,q1⟩=>?_) (by rw [hs,hs2]) (by rw [hs2];rfl)))
 obtain ⟨l,l',e,q1⟩:=q1;subst e;obtain ⟨u,v,rfl,ru,rv'⟩:=Vals.two r1;cases ru;cases rv';rcases q1 with ⟨⟨xs,hq⟩,⟨ys,hr⟩,q⟩ | ⟨⟨xs,hq⟩,⟨ys,hr⟩,q⟩
 ·obtain ⟨its,rv,pl,hz⟩:=I1.list hq
  obtain ⟨its2,rv2,pl2,hz2⟩:=I1.list hr;have lt1:l<s1.heap.objs.size:=(let ⟨o,e,_⟩:=pl.isList;Heap.lt_size e);have lt2:l'<s1.heap.objs.size:=(let ⟨o,e,_⟩:=pl2.isList;Heap.lt_size e);refine call_zip_2 pl.isList pl2.isList λh1 a1 a2 a3 a4 a5 a6 hk=>?_
  refine wpAny_pyIter_zip a1 ?_;have I2:Inv X pins σ H1 { s1 with heap:=h1 }:=I1.kept (t':=s1.toks) hk
  refine ⟨s1.heap.objs.size+4,[s1.heap.objs.size+4,s1.heap.objs.size+2,s1.heap.objs.size+3,s1.heap.objs.size,s1.heap.objs.size+1],_,Itz X.K l l',H1,rfl,I2,
   vU l l' (s1.heap.objs.size+4) (s1.heap.objs.size+2) (s1.heap.objs.size+3) s1.heap.objs.size (s1.heap.objs.size+1) ⟨neN (by lia),neN (by lia),neN (by lia),neN (by lia)⟩ ⟨neN (by lia),neN (by lia),neN (by lia)⟩ ⟨neN (by lia),neN (by lia)⟩ (neN (by lia)) ⟨neN (by lia),neN (by lia),neN (by lia),neN (by lia)⟩ ⟨neN (by lia),neN (by lia),neN (by lia),neN (by lia)⟩,⟨a1,a2,⟨_,_,a3⟩,a4,a5⟩,λc hc=>?_,q⟩
  have hc':@LE.le Nat instLENat s1.heap.objs.size c:=by
   have hc2:@Eq Nat c (s1.heap.objs.size+4)\/@Eq Nat c (s1.heap.objs.size+2)\/@Eq Nat c (s1.heap.objs.size+3)\/@Eq Nat c s1.heap.objs.size\/@Eq Nat c (s1.heap.objs.size+1):=by simpa using hc
   lia
  exact I1.fpOk hc' (I1.hok.fresh hc')
 ·obtain ⟨its,rv,pl,hz⟩:=I1.tuple hq
  obtain ⟨its2,rv2,pl2,hz2⟩:=I1.tuple hr;have p1:s1.heap.IsTuple l its.toArray:=pl;have p2:s1.heap.IsTuple l' its2.toArray:=pl2;have lt1:l<s1.heap.objs.size:=(let ⟨o,e,_⟩:=p1;Heap.lt_size e);have lt2:l'<s1.heap.objs.size:=(let ⟨o,e,_⟩:=p2;Heap.lt_size e);have lt:∀j,j<2->(λj=>[l,l'].getD j 0) j<s1.heap.objs.size:=λj hj=>match j,hj with
   |0,_=>lt1
   |1,_=>lt2
  refine AO (ls:=λj=>[l,l'].getD j 0) (xs:=λj=>[its.toArray,its2.toArray].getD j #[]) (λj hj=>match j,hj with
   |0,_=>p1
   |1,_=>p2) λh1 Z hk=>?_
  refine wpAny_pyIter_zip Z.zp ?_;have I2:Inv X pins σ H1 { s1 with heap:=h1 }:=I1.kept (t':=s1.toks) hk
  refine ⟨s1.heap.objs.size+2+2,zfp s1.heap.objs.size 2,_,Itv X.K 2 _,H1,rfl,I2,zx _ _ lt,⟨_,rfl,Z⟩,λc hc=>?_,q⟩
  have hc':=(p_ hc).1;exact I1.fpOk hc' (I1.hok.fresh hc')
end L2
namespace L3
open PySem L2 PySem.Spec PyProof.Rows
noncomputable def vH (x y:PyData):R (List PyData):=match x,y with
 |.list ds,.list es=>.ok (lX ds es)
 |.tuple ds,.tuple es=>if ds.length=es.length then .ok (lX ds es) else .bad
 |_,_=>.bad
noncomputable def o_ (a b:Fe):Fi:=fun ρ=>(a ρ).bind λx=>(b ρ).bind λy=>vH x.er y.er
theorem Gy (ds es:List PyData):vH (.list ds) (.list es)=.ok (lX ds es):=rfl
theorem FD {ds es:List PyData} (h:ds.length=es.length):vH (.tuple ds) (.tuple es)=.ok (lX ds es):=if_pos h
theorem Hi {a b:Fe} {ρ:Env}:o_ a b ρ=AD vH (a ρ) (b ρ):=by
 unfold o_;cases a ρ <;> cases b ρ <;> rfl
section
variable {M:Mx} {n:Nat} {F H:Hp} {σ:St} {D:Ends} {R':It->Hp->Prop} {X:Cx} {a b:Expr} {fa fb:Fe} {pos:Pos}
theorem Jo {a b:Fe} (h:tI M n (o_ a b) σ H R'):iZA M.K (tA M n (ag a (ag b au))) σ H R':=by
 obtain ⟨F,ρ,fp,S,p⟩:=h;refine ⟨F,ρ,fp,S,q_ (g:=vH) p λv w dx dy G1 H1 d1 rv rw' q=>?_⟩
 unfold vH at q;split at q
 ·rename_i ds es
  cases rv with
  |@lst a vs _ h1 h2 =>
   cases rw' with
   |@lst b ws _ h3 h4 =>
    refine ⟨a,b,rfl,.inl ⟨⟨vs,(h1.same d1.fh).sq⟩,⟨ws,(h3.same d1.fh).sq⟩,q _ G1 H1 d1 λi G H' s1 s2=>?_⟩⟩
    have hq:=(h1.same (s1.trans s2)).sq;have hq':=(h3.same (s1.trans s2)).sq;refine ⟨λd hd=>?_,λhl=>⟨vs,ws,hq,hq',?_⟩⟩
    ·obtain ⟨x,y,hx,hy,rfl⟩:=mK hd
     obtain ⟨u,hu,ru⟩:=RepAll.get h2 hx;obtain ⟨u',hu',ru'⟩:=RepAll.get h4 hy;refine ⟨⟨vs,u,ws,u',hq,hu,hq',hu'⟩,λx H2 y=>?_⟩
     obtain ⟨T,z,z',hT,rfl,rfl,hz,hz'⟩:=y;have e1:=hz vs hq;have e2:=hz' ws hq';rw [hu]at e1;rw [hu']at e2;cases e1;cases e2;have sg:aB G (upd G T (.tup [u,u'])):=(aB.refl G).upd (s2.free hT);exact ⟨upd G T _,Ext.allocF s2 hT,.tup aZ (.cons ((ru.same s1).same sg) (.cons ((ru'.same s1).same sg) .nil))⟩
    ·rw [RepAll.len h2,RepAll.len h4]
     unfold lX at hl;rw [Zc,List.length_zip]at hl
     lia
 ·rename_i ds es
  split at q
  ·rename_i hle
   cases rv with
   |@tup a vs _ h1 h2 =>
    cases rw' with
    |@tup b ws _ h3 h4 =>
     refine ⟨a,b,rfl,.inr ⟨⟨vs,SqT.of (d1.fh _ _ h1)⟩,⟨ws,SqT.of (d1.fh _ _ h3)⟩,q _ G1 H1 d1 λi G H' s1 s2=>?_⟩⟩
     have hq:SqT M.K H' a vs:=SqT.of ((s1.trans s2) _ _ h1);have hq':SqT M.K H' b ws:=SqT.of ((s1.trans s2) _ _ h3);refine ⟨λd hd=>?_,λhl=>⟨vs,hq,?_⟩⟩
     ·obtain ⟨x,y,hx,hy,rfl⟩:=mK hd
      obtain ⟨u,hu,ru⟩:=RepAll.get h2 hx;obtain ⟨u',hu',ru'⟩:=RepAll.get h4 hy;refine ⟨λj hj=>match j,hj with
       |0,_=>⟨vs,u,hq,hu⟩
       |1,_=>⟨ws,u',hq',hu'⟩,λx H2 y=>?_⟩
      obtain ⟨T,us,hT,rfl,rfl,hlen,hz⟩:=y;have z0:=hz 0 (by decide) vs hq
      rw [hu]at z0;have z1:=hz 1 (by decide) ws hq'
      rw [hu']at z1;obtain rfl:us=[u,u']:=by
       match us,hlen with
       |[w0,w1],_ =>
        cases z0;cases z1;rfl
      have sg:aB G (upd G T (.tup [u,u'])):=(aB.refl G).upd (s2.free hT);exact ⟨upd G T _,Ext.allocF s2 hT,.tup aZ (.cons ((ru.same s1).same sg) (.cons ((ru'.same s1).same sg) .nil))⟩
     ·rw [RepAll.len h2]
      unfold lX at hl;rw [Zc,List.length_zip]at hl
      lia
  ·exact q.elim
 ·exact q.elim
theorem t9 {ts:List Expr} {tk:Nat} {p tpos:Pos} (hg:Gl X "zip") (hm:X.mg "zip" = none) (h:DE M X a fa) (k:DE M X b fb) (hs1:starEach [a,b] X.env=(false,eval a X.env) :: starEach [b] X.env:=by rfl) (hs0:starEach [b] X.env=(false,eval b X.env) :: starEach [] X.env:=by rfl)
  (hs:starEach [a,b] X.env=[(false,eval a X.env),(false,eval b X.env)]:=by rfl) (hs2:starEach [b] X.env=[(false,eval b X.env)]:=by rfl):DI M X (.Tuple ts tk tpos) (.Call (.Name "zip" p) [a,b] [] pos) (o_ fa fb):=λhK hM=>by
 have q:=HH (es:=ts) (k:=tk) (tpos:=tpos) (p:=p) (pos:=pos) hg hm ((ae h (ae k ao hs0) hs1) hK hM) hs hs2;rw [hK]at q;exact λpins s σ H R' I z=>q pins s σ H R' I (Jo z)
end
theorem Dh {P:Program} {w:World} {K:PySem.W.Frag} {mg:Str->Option Value} {base:Heap} {CX:CXT} {k:Nat} {f:Addr} {fd:FuncData} {ps:List Str}:FnOk P w K mg base CX k f fd ps (sp3 K mg λ_=>.bad) :=
 ⟨λ_ _ _ _ h=>let ⟨_,_,_,_,p⟩:=h;p.elim,λ_ _ _ _ _ _ _ _ _ _ _ _ _ h=>let ⟨_,_,_,_,p⟩:=h;p.elim⟩
mutual
noncomputable def nol:PyData->Bool
 |.tuple ds=>vd ds
 |.list _=>false
 |.dict _=>false
 |.none=>true
 |.bool _=>true
 |.int _=>true
 |.str _=>true
noncomputable def vd:List PyData->Bool
 |[]=>true
 |d :: ds=>nol d && vd ds
end
noncomputable def Ao:OD->Bool
 |.sh d=>nol d
 |_=>false
noncomputable def okN:OD->Bool
 |.ol ys=>ys.all Ao
 |_=>false
noncomputable def l6:OD->Bool
 |.ol ys=>ys.all yZ
 |.pl _ ys=>ys.all yZ
 |_=>false
noncomputable def jX (i:Nat) (fa:Fe):Fe:=fun ρ=>match ρ[i]? with
 |some (some x)=>if l6 x=true then (fa (ρ.set i (some (.sh x.er)))).bind λy=>if okN y=true then .ok y else .bad else .bad
 |_=>.bad
section
variable {K:PySem.W.Frag} {F H:Hp} {f:List Addr}
theorem yo {v:V} {x:OD} {g:List Addr} (h:Own K F H v x g) (e:l6 x=true):∀b∈g,∃ws,H b=some (.lst ws):=by
 cases h with
 |sh _=>cases e
 |od _ _ _=>cases e
 |oi _ _ _=>cases e
 |ot _ _=>cases e
 |@ol a vs xs f' ha hv =>
  have:=ph hv e;subst this;intro b m;have:b=a:=by simpa using m
  rw [this];exact ⟨_,ha⟩
 |@pl a vs xs f' ha hv =>
  have:=ph hv e;subst this;intro b m;have:b=a:=by simpa using m
  rw [this];exact ⟨_,ha⟩
mutual
theorem qE (hl:∀b∈f,∃ws,F b=some (.lst ws)) {v:V} {d:PyData}:Rep K F v d->nol d=true->Rep K (j0 F f) v d
 |.non,_=>.non
 |.bl b,_=>.bl b
 |.int i,_=>.int i
 |.str x,_=>.str x
 |.lst _ _,e=>by rw [nol]at e;cases e
 |.dct _ _ _,e=>by unfold dD at e;rw [nol]at e;cases e
 |.ins _ _ _,e=>by unfold jN at e;rw [nol]at e;cases e
 |.tup (a:=a) h1 h2,e=>by
  rw [nol]at e;refine .tup ?_ (oE hl h2 e);rw [eE λm=>by
   obtain ⟨ws,q⟩:=hl a m;rw [h1]at q;cases q]
  exact h1
theorem oE (hl:∀b∈f,∃ws,F b=some (.lst ws)) {vs:List V} {ds:List PyData}:RepAll K F vs ds->vd ds=true->RepAll K (j0 F f) vs ds
 |.nil,_=>.nil
 |.cons h r,e=>by
  rw [vd,Zv]at e;exact .cons (qE hl h e.1) (oE hl r e.2)
end
theorem o8 (hl:∀b∈f,∃ws,F b=some (.lst ws)):∀{vs:List V} {xs:List OD} {g:List Addr},OwnL K F H vs xs g->xs.all Ao=true->OwnL K (j0 F f) H vs xs g
 |_,_,_,.nil,_=>.nil
 |_,_,_,.cons h r,e=>by
  rw [List.all_cons,Zv]at e;refine .cons ?_ (o8 hl r e.2);cases h with
  |sh q=>exact .sh (qE hl q e.1)
  |ol _ _=>cases e.1
  |ot _ _=>cases e.1
  |od _ _ _=>cases e.1
  |oi _ _ _=>cases e.1
  |pl _ _=>cases e.1
theorem yz {v:V} {x:OD} {g:List Addr} (hl:∀b∈f,∃ws,F b=some (.lst ws)) (h:Own K F H v x g) (e:okN x=true):Own K (j0 F f) H v x g:=by
 cases h with
 |sh q=>cases e
 |ol ha hv=>exact .ol ha (o8 hl hv e)
 |ot ha hv=>cases e
 |od _ _ _=>cases e
 |oi _ _ _=>cases e
 |pl _ _=>cases e
end
section
variable {M:Mx} {n:Nat} {σ:L2.St} {H:Hp} {Q:VK}
theorem CI {fa:Fe} {i:Nat} (h:tD M n (jX i fa) σ H Q):tD M n fa σ H Q:=by
 obtain ⟨F,ρ,fp,S,p⟩:=h;unfold jX at p;split at p
 ·rename_i x e
  split at p
  ·rename_i hlo
   obtain ⟨v,f,g1,g2,h1,h2,rfl,h4⟩:=S.own.at e;have ff:∀a∈f,F a=none:=λa m=>S.fr a (Zq _ (Zw _ m))
   have o:=h4 (iN F H f) H (dI ff) (λ_ _ _ q=>q) v (.sh x.er) [] (.sh (h2.frz (dI ff) λa m o q=>by rw [gW m];exact q))
   have hs:σ.set i (some v)=σ:=by
    apply List.ext_getElem?
    intro j;by_cases hj:i=j
    ·subst hj
     rw [h1,List.getElem?_set_self (Zb.mp h1).1]
    ·rw [List.getElem?_set_ne hj]
   rw [hs]at o;have nd:=S.nd;simp only [ZK,Zs]at nd;obtain ⟨n1,⟨n2,n3,n4⟩,n5⟩:=nd;have sub:∀a∈g1++([]++g2),a∈g1++(f++g2)/\a∉f:=λa m=>by
    simp only [List.nil_append,Zs]at m ⊢;rcases m with m | m
    ·exact ⟨.inl m,λz=>n5 a m a (.inl z) rfl⟩
    ·exact ⟨.inr (.inr m),λz=>n4 a z a m rfl⟩
   have hLT:=yo h2 hlo;have S1:Stt M.K n (iN F H f) H σ (ρ.set i (some (.sh x.er))) (g1++([]++g2)) :=
    ⟨l9 S.same,o,by
     simp only [List.nil_append,ZK];exact ⟨n1,n3,λa m b m'=>n5 a m b (.inr m')⟩,λa m=>by
     rw [dO (sub a m).2];exact S.fr a (sub a m).1,by rw [ZJ];exact S.len⟩
   have st:Stp F H (g1++(f++g2)) (iN F H f) H (g1++([]++g2)):=⟨dI ff,λ_ _ h _=>h,λa m=>.inl (sub a m).1,λa h m z=>by
    rw [dO λw=>m (Zq _ (Zw _ w))]
    exact z⟩
   refine ⟨_,_,_,S1,((aw.bind p).stp st).mono λy py v1 F1 H1 fx e1 r1 w1=>?_⟩
   split at py
   ·rename_i hok
    obtain ⟨ro,rn,rf⟩:=r1;have hL1:∀b∈f,∃ws,F1 b=some (.lst ws):=λb m=>let ⟨ws,q⟩:=hLT b m;⟨ws,e1.ff _ _ (by rw [gW m];exact q)⟩
    refine py v1 (j0 F1 f) H1 fx ⟨λb o hb=>?_,e1.hh,λb o hb=>?_,λb hb hn=>?_⟩ ⟨yz hL1 ro hok,rn,λb m=>?_⟩ w1
    ·have:b∉f:=λm=>by
      rw [ff b m]at hb;cases hb
     rw [eE this];exact e1.ff _ _ (dI ff _ _ hb)
    ·by_cases m:b∈f
     ·rw [j6 m]at hb
      cases hb
     ·rw [eE m]at hb
      exact e1.fh _ _ hb
    ·by_cases m:b∈f
     ·exact j6 m
     ·rw [eE m]
      exact e1.nw b hb (by rw [dO m];exact hn)
    ·by_cases m':b∈f
     ·exact j6 m'
     ·rw [eE m']
      exact rf b m
   ·exact py.elim
  ·exact p.elim
 ·exact p.elim
end
section
variable {M:Mx} {X:Cx} {e:Expr} {fa fb:Fe}
theorem xK (i:Nat) (fa:Fe) (ρ:Env) {x y:OD} (h:ρ[i]?=some (some x)) (hx:l6 x=true) (h2:fa (ρ.set i (some (.sh x.er)))=.ok y) (h3:okN y=true):jX i fa ρ=.ok y:=by
 unfold jX;rw [h];show (if l6 x=true then (fa (ρ.set i (some (.sh x.er)))).bind _ else .bad)=_
 rw [if_pos hx,h2];show (if okN y=true then R.ok y else .bad)=_
 rw [if_pos h3]
theorem ub (i:Nat) (h:DE M X e fa):DE M X e (jX i fa):=λhK hM=>peI (h hK hM) λ_ _ _ q=>CI q
end
end L3
namespace L2
open PySem PySem.Spec PyProof.Rows
section
variable {prog:Program} {w:World} {A:Around} {E:Value->Shared->Prop} {s:Shared}
end
section
variable {prog:Program} {w:World} {A:Around} {E:Value->Shared->Prop} {s:Shared}
end
section
variable {prog:Program} {w:World} {A:Around} {E:Value->Shared->Prop} {s:Shared}
end
structure LZ (X:Cx) (H0 H:Hp) (xs ys:List V) (Ts:List Addr):Prop where
 up:aB H0 H
 new:∀c o,H c=some o->H0 c=some o\/c∈Ts
 free:∀T∈Ts,H0 T=none
 tup:∀(j:Nat) (T:Addr),Ts[j]?=some T->∃x y,xs[j]?=some x/\ys[j]?=some y/\H T=some (.tup [x,y])
end L2
namespace L3
open PySem L2 PySem.Spec PyProof.Rows
section
variable {M:Mx} {X:Cx}
open Classical in
end
noncomputable def CXE (P:Program) (w:World):CXT:=λouter H s E e s'=>∃(ea:Addr) (cls a0:Value) (B:Heap) (H':Hp),
 e=.ref ea/\s'.os=s.os/\AllBare s'.gens/\Un (frs outer) [] H H' s.heap s'.heap/\HOk P w H' s'.heap/\Heap.FlyingW B outer ea cls a0 s'.heap /\
 (∀b o,s'.heap.get? b=some o->b∉frs outer->(H' b≠none\/s.heap.get? b≠none)->B.get? b=some o)/\E cls none H'
theorem jY {env:PySem.Env} {L:Addr} {outer:List PySem.Env} (h:env.frame=some L):frs (env :: outer)=L :: frs outer:=by
 unfold frs;rw [List.filterMap_cons,h]
theorem oK {P:Program} {w:World} {H:Hp} {h:Heap} {a:Addr} {o:HO} (x:c9 P w H h a o):∃u,h.get? a=some u:=by
 cases o with
 |lst xs=>obtain ⟨_,_,_,_,e⟩:=x;exact ⟨_,e⟩
 |tup xs=>obtain ⟨_,_,_,_,e,_⟩:=x;exact ⟨_,e⟩
 |dK kvs=>obtain ⟨_,_,_,_,o,_,_,e,_⟩:=x;exact ⟨_,e⟩
 |dT kvs=>obtain ⟨_,_,_,_,o,_,_,e,_⟩:=x;exact ⟨_,e⟩
 |set S n=>obtain ⟨o,_,_,_,e,_⟩:=x;exact ⟨_,e⟩
 |ins C dx fs=>obtain ⟨_,_,_,e,_⟩:=x;exact ⟨_,e⟩
 |own y=>exact x
 |xd fs=>obtain ⟨_,⟨_,_,_,e,_⟩,_⟩:=x;exact ⟨_,e⟩
 |rng lo hi=>obtain ⟨_,_,_,e⟩:=x;exact ⟨_,e⟩
 |frz ob u=>exact ⟨_,x.1⟩
 |tbl ps=>exact ⟨_,(show h.get? a=some _ from x)⟩
 |met f y=>exact ⟨_,(show h.get? a=some _ from x)⟩
 |ext φ=>exact x.2.1
section
variable {X:Cx} {pins:List (Addr×Obj)} {σ:St} {H':Hp} {s':Shared} {B h'':Heap}
theorem uf (J:Inv X pins σ H' s') (hst:X.stack=X.env :: X.outer) (hfr:X.env.frame=some X.env.locals) (hex:X.ex=[]) (up:s'.heap.UpToSlots h'') (stay:B.StaysIn h'')
  (cov:∀b o,s'.heap.get? b=some o->b∉frs X.stack->(H' b≠none\/X.s₀.heap.get? b≠none)->B.get? b=some o) :
  Un (frs X.outer) [] X.H₀ H' X.s₀.heap h''/\HOk X.prog X.w H' h''/\∀b o,h''.get? b=some o->b∉frs X.outer->(H' b≠none\/X.s₀.heap.get? b≠none)->B.get? b=some o:=by
 have nb:∀b o,X.s₀.heap.get? b=some o->b≠X.env.locals:=λb o q=>Nat.ne_of_lt (ZI (Heap.lt_size q) J.ok.above)
 have ns:∀b,b∉frs X.outer->b≠X.env.locals->b∉frs X.stack:=λb h1 h2=>by
  rw [hst,jY hfr];exact λm=>(Zo.mp m).elim h2 h1
 have nx:∀b,b∉X.ex:=λb=>by rw [hex];simp
 have tr:∀b,H' b≠none->b∉frs X.stack:=λb n m=>n (J.stkFree b m)
 have old:∀b o,X.s₀.heap.get? b=some o->b∉frs X.outer->∀o',s'.heap.get? b=some o'->h''.get? b=some o':=λb o q n o' q' =>
  stay b o' (cov b o' q' (ns b n (nb b o q)) (.inr (by rw [q];simp)))
 have fr:∀b o,b∈frs X.outer->s'.heap.get? b=some o->∃sl,h''.get? b=some { o with slots:=sl }:=λb o m q=>by
  have m':b∈frs X.stack:=by rw [hst,jY hfr];exact Ze _ m
  obtain ⟨_,o',q',nf⟩:=J.stack.mem m';rw [q]at q';cases q';exact up b o q nf
 refine ⟨⟨λb o q n hb _=>?_,λb o q n hb _=>?_,λb o q n _=>J.base.free b o q n (nx b),λb o q _=>?_,J.base.tups,J.base.frzs,J.base.tbls⟩,λb u e=>?_,λb o q n hc=>?_⟩
 ·exact old b o q hb o (J.base.keep b o q n hb (nx b))
 ·obtain ⟨sl,e1⟩:=J.base.slot b o q n hb (nx b)
  obtain ⟨sl',e2⟩:=fr b _ hb e1;exact ⟨sl',e2⟩
 ·obtain ⟨o',e1⟩:=J.base.there b o q (nx b)
  by_cases hb:b∈frs X.outer
  ·obtain ⟨sl',e2⟩:=fr b _ hb e1
   exact ⟨_,e2⟩
  ·exact ⟨o',old b o q hb o' e1⟩
 ·refine (J.hok b u e).stay (λc v hc q=>stay c v (cov c v q (tr c ?_) (.inl ?_))) (λ_ q=>q) λ_ _ q=>q
  ·rcases hc with rfl | hc
   ·rw [e];simp
   ·rw [hc];simp
  ·rcases hc with rfl | hc
   ·rw [e];simp
   ·rw [hc];simp
 ·have ex:∃o',s'.heap.get? b=some o':=by
   rcases hc with hc | hc
   ·cases z:H' b with
    |none=>exact absurd z hc
    |some u=>exact oK (J.hok b u z)
   ·cases z:X.s₀.heap.get? b with
    |none=>exact absurd z hc
    |some u=>exact J.base.there b u z (nx b)
  obtain ⟨o',e1⟩:=ex;have nl:b≠X.env.locals:=by
   rcases hc with hc | hc
   ·exact λz=>hc (z▸J.free)
   ·cases z:X.s₀.heap.get? b with
    |none=>exact absurd z hc
    |some u=>exact nb b u z
  have e2:=cov b o' e1 (ns b n nl) hc;have e3:=stay b o' e2;rw [q]at e3;cases e3;exact e2
end
noncomputable def Lv (X:Cx) (E:XK):Prop:=X.stack=X.env :: X.outer/\X.env.frame=some X.env.locals/\X.ex=[] /\
 ∀(e:Value) (s':Shared),wpAny (model X.prog X.w) X.A (leaving X.env e) (λ_ s''=>CXE X.prog X.w X.outer X.H₀ X.s₀ E e s'') (λe' s''=>CXE X.prog X.w X.outer X.H₀ X.s₀ E e' s'') s'->X.xe e s'
theorem Lv.of {P:Program} {w:World} {K:PySem.W.Frag} {mg:Str->Option Value} {base:Heap} {N:List Str} {qual:Str} {scope:Scope} {f:Addr} {cd:Value} {A:Around} {outer:List PySem.Env} {s:Shared} {H:Hp} {E:XK} :
  Lv (nN (CXE P w) P w K mg base N qual scope f cd A outer s H E) E:=⟨rfl,rfl,rfl,λ_ _ h=>h⟩
section
variable {X:Cx} {E:XK} {pins:List (Addr×Obj)} {σ:St} {H:Hp} {s s':Shared} {e:Value}
theorem Lv.pass (L:Lv X E):Passes (CXE X.prog X.w) X E:=λpins σ H s e s' I x=>by
 obtain ⟨hst,hfr,hex,hxe⟩:=L;obtain ⟨ea,cls,a0,B,H',rfl,os,bare,un,hok,fl,cov,hE⟩:=x;have J:Inv X pins σ H' s':=I.call' os un hok bare λb z=>absurd z (by simp)
 refine hxe _ _ ?_;rw [hst]at fl;refine wpAny_leaves_onW (by rw [<-hst];exact I.ok.frames) hfr fl λh'' fl' up=>?_
 have cov':∀b o,s'.heap.get? b=some o->b∉frs X.stack->(H' b≠none\/X.s₀.heap.get? b≠none)->B.get? b=some o:=λb o q n hc=>cov b o q n <| hc.imp_right λz=>by
  cases y:X.s₀.heap.get? b with
  |none=>exact absurd y z
  |some u =>
   obtain ⟨o',q'⟩:=I.base.there b u y (by rw [hex];simp)
   rw [q'];simp
 obtain ⟨u1,u2,u3⟩:=uf J hst hfr hex up fl'.1 cov';exact ⟨ea,cls,a0,B,H',rfl,J.os,bare,u1,u2,fl',u3,hE⟩
theorem Lv.made (L:Lv X E) (I:Inv X pins σ H s) {h':Heap} {e C:Addr} {args:List Value} (hx:Heap.MadeExcOf s.heap h' e (.ref C) args) (hE:E (.ref C) none H):X.xe (.ref e) { s with heap:=h' }:=by
 obtain ⟨hst,hfr,hex,hxe⟩:=L;refine hxe _ _ ?_;have hin:∀env∈(X.env :: X.outer),∀b,env.frame=some b->b∈frs (X.env :: X.outer):=λenv he b hb=>List.mem_filterMap.mpr ⟨env,he,hb⟩
 have fr:=I.stack;rw [hst]at fr;refine wpAny_leaves_madeW (base:=PySem.W.hideAll s.heap (frs (X.env :: X.outer))) (by rw [<-hst];exact I.ok.frames) hfr (λb o q=>PySem.W.of_hideAll _ q) (PySem.W.funFrames_hide fr hin) hx λh'' t fl _ _ up=>?_
 have up':s.heap.UpToSlots h'':=(Heap.UpToSlots.of_keeps hx.keeps).trans up;obtain ⟨u1,u2,u3⟩:=uf I hst hfr hex up' fl.1 λb o q n _=>PySem.W.hideAll_get _ q (by rw [<-hst];exact n)
 exact ⟨e,_,_,_,H,rfl,I.os,I.bare,u1,u2,fl,u3,hE⟩
end
noncomputable abbrev vE:List Value:=[.type "ValueError",.type "Exception",.type "BaseException",.type "object"]
noncomputable abbrev vN:String := "ValueError.__new__"
theorem jZ {K:PySem.W.Frag} {h:Heap} {C:Addr} (X:K.In h) (q:PySem.W.excIn K C vE vN=true) :
  ∃mr N y1 y2 y3 y4 y5 y6 y7 y8 y9 z0 z1 z2 z3 z5 mN,h.get? C=some (excClassObj y1 y2 C N y3 mr y4 y5 y6 y7 y8 y9 z0 z1 z2 z3 z5 vN)/\h.Ns N mN/\mN "__init__" = none/\OwnTail h vE mr:=by
 unfold PySem.W.excIn at q;split at q
 case h_2=>cases q
 case h_1 y9 cd sl hl =>
  split at q
  case h_2=>cases q
  case h_1 C1 mr z0 z1 z2 z3 z4 z5 e1 e2 =>
   simp only [Zv,beq_iff_eq,Bool.not_eq_true']at q;obtain ⟨⟨⟨⟨⟨c1,c2⟩,c3⟩,c4⟩,c5⟩,c6⟩:=q;cases c1;cases c2;cases cd with
   |mk y1 y3 m0 N y2 y4 y5 y6 y7 y8 dl =>
    dsimp only at e1 c3 c5 c6
    cases e1;cases c3;cases sl with
    |mk ls =>
     dsimp only at e2
     cases e2;exact ⟨mr,N,y1,y2,y3,y4,y5,y6,y7,y8,y9,z0,z1,z2,z3,z5,_,X _ _ hl,.of_isNs (PySem.W.isNs_of_in X c5),PySem.W.nsMap_none_of_in X c5 c6,PySem.W.tail_of_in X c4⟩
noncomputable def mR (c:Str):Fs:=λ_=>.ex c
section
variable {M:Mx} {X:Cx} {x t:Str} {j:Nat} {np cpos pos p2:Pos}
theorem nL {C:Addr} (L:Lv X M.E) (hc:X.calm=true) (hg:Gl X x) (hm:M.mg x=some (.ref C)) (hk:PySem.W.excIn M.K C vE vN=true) (hd:(x == ("__debug__" : Str))=false:=by decide)
  (hs:starEach [.Constant (.str t) j p2] X.env=(false,eval (.Constant (.str t) j p2) X.env) :: starEach [] X.env:=by rfl) :
  DS M X (.Raise (some (.Call (.Name x np) [.Constant (.str t) j p2] [] cpos)) none pos) (mR x):=λhK hM pins s σ H D I q=>by
 obtain ⟨F,ρ,fp,S,cv,e1,e2⟩:=q;rw [hm]at e1;cases e1;have hE:=e2 none H λ_ _ z _=>z
 rw [<-hK]at hk;obtain ⟨mr,N,y1,y2,y3,y4,y5,y6,y7,y8,y9,z0,z1,z2,z3,z5,mN,hC,hN,hni,T⟩:=jZ I.mod.kin hk;refine wpAny_Raise_call_subU (C:=C) (nm:=y1) (q:=y2) (N:=N) (bs:=y3) (bm:=mr) (hdct:=y4) (sn:=y5) (sub:=y6) (ab:=y7) (col:=y8) (dd:=y9) (k0:=z0) (k1:=z1) (k2:=z2) (k3:=z3) (k5:=z5)
  PySem.F.excBase_ValueError (by decide) PySem.F.excBase_ValueError (mN:=mN) (T.hasType PySem.F.excBase_ValueError.hasBase) (I.ok.hd hc) (by rw [hs];rfl) hni (jq I hg (by rw [hM];exact hm) ⟨rfl,?_⟩ hd)
 have ha:PA X [.Constant (.str t) j p2] _:=b5 yf gF hs;have hw:=ha cpos pins s σ H (λvs H'=>H'=H/\vs.length<=sizeLine) I ⟨rfl,show 1<=sizeLine by decide⟩
 rw [hs]at hw ⊢;refine Calls.evalArgs_plain (wpAny_mono hw (λus s2 hz=>?_) λ_ _ y=>y)
 obtain ⟨vs,H2,I2,r2,rfl,hl⟩:=hz;exact ⟨rfl,by rw [<-r2.length];exact hl,I2.bk _ _ hC,hN.keeps I2.bk,T.keeps I2.bk,λh' e hx=>L.made I2 hx hE⟩
end
end L3
namespace L3
open PySem L2 PySem.Spec PyProof.Rows Builtin Builtin.ObjectAttr Builtin.Getset_descriptor
structure ExcK (K:PySem.W.Frag) (C:Addr):Prop where
 ex:PySem.W.excIn K C vE vN=true
 ga:PySem.W.findIn K (.ref C) "__getattribute__" = some (some (.builtin "BaseException.__getattribute__"))
 ca:PySem.W.findIn K (.ref C) "__class__" = some (some (.builtin "object.__class__"))
 ng:PySem.W.findIn K (.ref C) "__getattr__" = some none
 mo:PySem.W.mroIn K C (.type "object")=some true
section
variable {prog:Program} {w:World} {A:Around} {E:Value->Shared->Prop} {h:Heap} {g:Array GenState} {d:Drawn} {t:Nat} {os:OsState} {a C:Addr} {o:Obj} {K:PySem.W.Frag}
theorem BP {tp:Value} {R:Result->Shared->Prop} (Z:ExcK K C) (X:K.In h) (hx:h.get? a=some o) (hc:o.cls=.ref C) (hq:R (.ok (.ret (.ref C))) ⟨h,g,d,t,os⟩) :
  codeAny (model prog w) A (.call (.builtin "getset_descriptor.__get__") ⟨[.builtin "object.__class__",.ref a,tp],[]⟩) R ⟨h,g,d,t,os⟩:=by
 have L0:PySem.W.Looks (model prog w) h (typeOf (.ref a)) (.ref C):=hc▸(PySem.W.Looks.ld hx).andThen .now;have L1:=PySem.W.looks_mroIn (M:=model prog w) X Z.mo;refine codeAny_call_builtin PySem.W.KF.slot_gs.plain PySem.W.KF.entry_gs (PySem.W.KF.slot_gs.check _ _ _ _ _ _ _ _ PySem.W.KF.type_class (PySem.W.KF.args_gs _ _ _) ?_);unfold Builtin.«getset_descriptor.__get__» descrGet;rw [PySem.W.dga_obj];refine wpAny_bind (wpAny_pure ?_);unfold descrGetter descrCheckInstance descrNameAndClass isInstance;simp only [PySem.W.KF.owner_class]
 repeat lk
 refine ⟨Code.quiet_builtin _ (by decide +kernel),codeAny_builtin PySem.W.KF.entry_class ?_⟩;unfold Builtin.«object.__class__» shownTypeOf
 repeat lk
 exact hq
theorem yV {tk:Tok} {Q:Fin->Shared->Prop} (Z:ExcK K C) (X:K.In h) (hx:h.get? a=some o) (hc:o.cls=.ref C) (hq:Q (.done (.ret (.ref C))) ⟨h,g,d,t,os⟩) :
  wpAny (model prog w) A (Builtin.«object.__getattribute__» ⟨[.ref a,.str "__class__" tk],[]⟩) Q E ⟨h,g,d,t,os⟩:=by
 have hT:(⟨h,g,d,t,os⟩:Shared).TypeIs (.builtin "object.__class__") "getset_descriptor" := PySem.F.typeOf_object_class;have f5:=PySem.F.typeOf_object_class;have f6:=PySem.F.slot_gs_get.lookup;have f7:=PySem.F.slot_gs_set.lookup;have L2:=PySem.W.looks_findIn (M:=model prog w) X Z.ca
 repeat (any_goals (first | assumption | (with_reducible refine wpAny_loadPart_at hx ?_;rw [hc]) | with_reducible refine L2.at ?_ | wp_step))
 refine BP Z X hx hc ?_
 repeat (any_goals (first | assumption | wp_step))
theorem wy {M:Model} {nameV:Value} {Q:Unit->Shared->Prop} (Z:ExcK K C) (X:K.In h) (hx:h.get? a=some o) (hc:o.cls=.ref C) (hq:Q () ⟨h,g,d,t,os⟩) :
  wpAny M A (checkBuiltinCall "BaseException.__getattribute__" ⟨[.ref a,nameV],[]⟩) Q E ⟨h,g,d,t,os⟩:=by
 obtain ⟨mr,N,y1,y2,y3,y4,y5,y6,y7,y8,y9,z0,z1,z2,z3,z5,mN,hC,hN,hni,T⟩:=jZ X Z.ex;have k1:builtinKind "BaseException.__getattribute__" = some .slot:=by decide +kernel
 have k2:splitId "BaseException.__getattribute__" = some ("BaseException", "__getattribute__"):=by decide +kernel
 have k3:(Value.ref C :: mr).contains (.type "BaseException")=true:=by
  rw [List.contains_cons,T.hasType PySem.F.excBase_ValueError.hasBase];rfl
 have k4:=PySem.F.args_bexc_ga (.ref a) nameV;simp only [checkBuiltinCall,k1,k2];refine wpAny_bind ?_;unfold isInstance
 repeat (first | (with_reducible refine wpAny_loadPart_at hx ?_;rw [hc]) | (with_reducible refine wpAny_isSubtype_exc hC ?_;rw [k3]) | wp_step)
 exact hq
theorem FW {tk:Tok} {fill expr:Bool} {Q:Value->Shared->Prop} (Z:ExcK K C) (X:K.In h) (hx:h.get? a=some o) (hc:o.cls=.ref C) (hq:Q (.ref C) ⟨h,g,d,t,os⟩) :
  wpAny (model prog w) A (getAttrBy (.ref a) (.str "__class__" tk) fill expr) Q E ⟨h,g,d,t,os⟩:=by
 have FB:=PySem.F.attrBase_ValueError;have f3:=FB.ga.bind (.ref a);have n1:(expr && onTheHeap (Value.builtin "BaseException.__getattribute__"))=false:=by cases expr <;> rfl
 have n2:(Value.builtin "BaseException.__getattribute__" == Value.builtin "object.__getattribute__")=false:=by decide +kernel
 have n3:(onTheHeap (Value.ref C) && Value.builtin "BaseException.__getattribute__" == Value.builtin "object.__getattribute__")=false:=by rw [n2];rfl
 have L1:=PySem.W.looks_findIn (M:=model prog w) X Z.ga;have L3:=PySem.W.looks_findIn (M:=model prog w) X Z.ng
 repeat (any_goals (first | assumption | (with_reducible refine wpAny_loadPart_at hx ?_;rw [hc]) | with_reducible refine L1.at ?_ | with_reducible refine L3.at ?_ | wp_step))
 refine codeAny_call_builtin FB.ga.plain PySem.F.entry_bexc_ga (wy Z X hx hc (yV Z X hx hc ?_))
 repeat (any_goals (first | assumption | wp_step))
theorem Ax {Q:Option Value->Shared->Prop} (Z:ExcK K C) (X:K.In h) (hx:h.get? a=some o) (hc:o.cls=.ref C) (hq:Q (some (.ref C)) ⟨h,g,d,t+1,os⟩) :
  wpAny (model prog w) A (getAttr? (.ref a) "__class__") Q E ⟨h,g,d,t,os⟩:=by
 unfold getAttr? getAttrBy?
 repeat (any_goals (first | assumption | with_reducible apply FW Z X hx hc | wp_step))
end
end L3
namespace L3
open PySem L2 PySem.Spec PyProof.Rows
noncomputable def Fc (a C:Addr) (h:Heap):Prop:=∃o,h.get? a=some o/\o.cls=.ref C
theorem qL {K:PySem.W.Frag} {a C:Addr} (Z:ExcK K C):PySem.W.KitX K (.ref a) (.ref C) (Fc a C) where
 ty:=λM h _ p=>by
  obtain ⟨o,h1,h2⟩:=p;exact h2▸(PySem.W.Looks.ld h1).andThen .now
 it:=λM h X _=>by
  obtain ⟨mr,N,y1,y2,y3,y4,y5,y6,y7,y8,y9,z0,z1,z2,z3,z5,mN,hC,_⟩:=jZ X Z.ex;intro A Q E s k q;unfold isType loadHead;exact wpAny_bind (wpAny_loadPart (k _ _ hC) (wpAny_pure q))
 ne:=λh tp dd its n sl X htp=>by
  obtain ⟨mr,N,y1,y2,y3,y4,y5,y6,y7,y8,y9,z0,z1,z2,z3,z5,mN,hC,_⟩:=jZ X Z.ex;refine Bool.eq_false_iff.mpr λq=>?_
  have e:C=tp:=Value.ref.inj (beq_iff_eq.mp q);rw [<-e,hC]at htp;have y:=congrArg Obj.data (Zz htp);cases y
 ca:=fun {prog w A E Q s} X p k=>by
  obtain ⟨o,h1,h2⟩:=p;obtain ⟨h,g,d,t,os⟩:=s;exact Ax Z X h1 h2 k
section
variable {M:Model} {A:Around} {E:Value->Shared->Prop} {h:Heap} {g:Array GenState} {d:Drawn} {t:Nat} {os:OsState} {e C D:Addr} {o:Obj} {K:PySem.W.Frag}
theorem BQ {b:Bool} {Q:Bool->Shared->Prop} (X:K.In h) (hD:PySem.W.excIn K D vE vN=true) (hs:PySem.W.subIn K (.ref C) (.ref D)=some b) (he:h.get? e=some o) (hc:o.cls=.ref C) (hq:Q b ⟨h,g,d,t,os⟩) :
  wpAny M A (excMatches (.ref e) (.ref D)) Q E ⟨h,g,d,t,os⟩:=by
 obtain ⟨mr,N,y1,y2,y3,y4,y5,y6,y7,y8,y9,z0,z1,z2,z3,z5,mN,hd,hN,hni,T⟩:=jZ X hD;have hB:(Value.ref D :: mr).contains (.type "BaseException")=true:=by
  rw [List.contains_cons,T.hasType PySem.F.excBase_ValueError.hasBase,Bool.or_true]
 have f:=tc_notTuple;have LS:=PySem.W.looks_subIn (M:=M) X hs;unfold excMatches
 repeat (first | (with_reducible refine wpAny_loadPart_at he ?_;rw [hc]) | with_reducible refine LS.at ?_ | with_reducible refine wpAny_loadPart_at hd ?_ | (with_reducible refine wpAny_isSubtype_exc hd ?_;rw [hB]) | wp_step)
 cases b <;> (wp_walk;exact hq)
end
noncomputable def cxM (X:Cx) (ea:Addr) (oe:Obj):Cx:={ X with A:=X.A.mark (some (.ref ea)),calm:=false,xe:=λ_ _=>False,pn:=(ea,oe) :: X.pn }
section
variable {X:Cx} {ea:Addr} {oe:Obj} {pins:List (Addr×Obj)} {σ:St} {H:Hp} {s:Shared}
theorem Ap (I:Inv X pins σ H s) (hp:s.heap.get? ea=some oe/\H ea=none/\ea≠X.env.locals/\ea∉X.fs/\∀v,oe.data≠.cell v):Inv (cxM X ea oe) pins σ H s :=
  ⟨⟨I.ok.mod,I.ok.kind,I.ok.glob,I.ok.blt,I.ok.above,I.ok.inj,I.ok.has,I.ok.cab,λz=>(by cases z),I.ok.frames,I.ok.stk,I.ok.exf,I.ok.bs,I.ok.bsz,I.ok.noex,I.ok.exfs,I.ok.funs,I.ok.frf⟩,
    I.os,I.bare,I.base,I.loc,I.cell,I.free,I.freeC,λp m=>by
      rcases Zo.mp (show p∈(ea,oe) :: (X.pn++pins) from m) with rfl | m
      · exact hp
      · exact I.pin p m,I.hok,I.len⟩
theorem wV (hc:X.calm=true->X.A.handled=none) (hf:X.A.frames=some X.stack) (I:Inv (cxM X ea oe) pins σ H s):Inv X pins σ H s :=
  ⟨⟨I.ok.mod,I.ok.kind,I.ok.glob,I.ok.blt,I.ok.above,I.ok.inj,I.ok.has,I.ok.cab,hc,hf,I.ok.stk,I.ok.exf,I.ok.bs,I.ok.bsz,I.ok.noex,I.ok.exfs,I.ok.funs,I.ok.frf⟩,
    I.os,I.bare,I.base,I.loc,I.cell,I.free,I.freeC,λp m=>I.pin p (Ze _ m),I.hok,I.len⟩
end
noncomputable def tB (P:St->Prop) (b:Bool):TE:=fun σ H Q=>P σ/\∀H',aB H H'->Q (.bl b) H'
section
variable {X:Cx} {P:St->Prop} {a b e:Expr} {c d:Bool} {pos p p2 p3:Pos} {i j:Nat} {x y:Str}
noncomputable def Pe (i:Nat) (ea:Addr) (j:Nat) (σ:St):Prop:=σ[i]?=some (some (.ref ea))/\j<σ.length/\i≠j
theorem tZ {ea C:Addr} {oe:Obj} (Z:ExcK X.K C) (hp:(ea,oe)∈X.pn) (ho:oe.cls=.ref C) :
  eV X (.builtin "isinstance") (λxs H Q=>∃v b,xs=[.ref ea,v]/\((∃u,RelV v u/\(∀u',RelV v u'->u'=u)/\PySem.W.kitOne X.K (.ref C) u=some b) \/
   ∃p vs us,v=.ref p/\H p=some (.tup vs)/\(∀us',Vals vs us'->us'=us)/\PySem.W.kitAny X.K (.ref C) us=some b)/\Q (.bl b) H):=by
 intro pins s σ H xs us Q I r h;obtain ⟨v,b,rfl,h1,q⟩:=h;obtain ⟨u1,u2,rfl,ru,rv⟩:=Vals.two r;cases (show u1=Value.ref ea from ru)
 have fin:∀tk,EP X pins σ Q (.bool b) { s with toks:=tk }:=λtk=>⟨.bl b,H,I.tok tk,rfl,q⟩
 have hx:Fc ea C s.heap:=⟨oe,(I.pin _ (Zw _ hp)).1,ho⟩;rcases h1 with ⟨u,r1,r2,e⟩ | ⟨p,vs,ws,rfl,hv,r2,e⟩
 ·cases r2 _ rv
  exact PySem.W.kia_one (qL Z) I.kIn hx e (λz=>nomatch z) fin
 ·cases (show u2=Value.ref p from rv)
  obtain ⟨_,its,k1,o,k2,k3,n,k4⟩:=(show c9 X.prog X.w H s.heap p (.tup vs) from I.hok p _ hv)
  cases r2 _ k1;obtain ⟨oc,od,odt,osl⟩:=o;cases k3;cases k4;exact PySem.W.kia_tup (qL Z) I.kIn hx k2 e (λz=>nomatch z) fin
end
structure Xs (X:Cx) (C ea:Addr) (oe:Obj):Prop where
 k:ExcK X.K C
 pin:(ea,oe)∈X.pn
 ob:oe.cls=.ref C
section
variable {X:Cx} {P:St->Prop} {es:List Expr} {c:Bool} {pos p p2 p3:Pos} {i j x1:Nat} {x y:Str} {C ea D:Addr} {oe:Obj} {Ds:List Addr}
theorem gQ (Z:Xs X C ea oe) (hP:∀σ,P σ->σ[i]?=some (some (.ref ea))) (hN:X.N[i]?=some y) (hv:Vis X.env.scope y) (hgi:Gl X "isinstance") (hmi:X.mg "isinstance" = none) (hg:Gl X x) (hm:X.mg x=some (.ref D))
  (e:PySem.W.kitOne X.K (.ref C) (.ref D)=some c) (hd:(x == ("__debug__" : Str))=false:=by decide) (hdy:(y == ("__debug__" : Str))=false:=by decide) (hcd:(y == ("__classdict__" : Str))=false:=by decide)
  (hs1:starEach [.Name y p2,.Name x p3] X.env=(false,eval (.Name y p2) X.env) :: starEach [.Name x p3] X.env:=by rfl) (hs2:starEach [.Name x p3] X.env=(false,eval (.Name x p3) X.env) :: starEach [] X.env:=by rfl)
  (hpl:(backTo pos (starEach [.Name x p3] X.env)).any (·.1)=false:=by rfl) :
  PE X (.Call (.Name "isinstance" p) [.Name y p2,.Name x p3] [] pos) (tB P c) :=
 peI (j8 (tZ Z.k Z.pin Z.ob) hgi hmi fB (b5 (a9 hN hv hdy hcd) (b5 (AJ (v:=.ref D) hg hm rfl hd) gF hs2) hs1) (by decide) (by decide) hs1 hpl) fun σ H Q q =>
  ⟨_,hP σ q.1,_,c,rfl,.inl ⟨.ref D,rfl,λ_ h=>h,e⟩,q.2 H (aB.refl _)⟩
theorem uC {T:String} (Z:Xs X C ea oe) (hP:∀σ,P σ->σ[i]?=some (some (.ref ea))) (hN:X.N[i]?=some y) (hv:Vis X.env.scope y) (hgi:Gl X "isinstance") (hmi:X.mg "isinstance" = none) (hg:Gl X x) (hm:X.mg x=none) (hT:bootBuiltins x=some (.type T))
  (e:PySem.W.kitOne X.K (.ref C) (.type T)=some c) (hn:x ≠ "__name__" := by decide) (hd:(x == ("__debug__" : Str))=false:=by decide) (hdy:(y == ("__debug__" : Str))=false:=by decide) (hcd:(y == ("__classdict__" : Str))=false:=by decide)
  (hs1:starEach [.Name y p2,.Name x p3] X.env=(false,eval (.Name y p2) X.env) :: starEach [.Name x p3] X.env:=by rfl) (hs2:starEach [.Name x p3] X.env=(false,eval (.Name x p3) X.env) :: starEach [] X.env:=by rfl)
  (hpl:(backTo pos (starEach [.Name x p3] X.env)).any (·.1)=false:=by rfl) :
  PE X (.Call (.Name "isinstance" p) [.Name y p2,.Name x p3] [] pos) (tB P c) :=
 peI (j8 (tZ Z.k Z.pin Z.ob) hgi hmi fB (b5 (a9 hN hv hdy hcd) (b5 (sW (v:=V.ty T) hg hm hT rfl hn hd) gF hs2) hs1) (by decide) (by decide) hs1 hpl) fun σ H Q q =>
  ⟨_,hP σ q.1,_,c,rfl,.inl ⟨.type T,rfl,λ_ h=>h,e⟩,q.2 H (aB.refl _)⟩
end
section
variable {P:Program} {w:World} {fs:List Addr} {H1 H':Hp} {h1 hs h5 B:Heap}
theorem C8 (un:Un fs [] H1 H' h1 hs) (hok:HOk P w H' hs) (stay:B.StaysIn h5) (up:hs.UpToSlots h5) (cov:∀b o,hs.get? b=some o->b∉fs->(H' b≠none\/h1.get? b≠none)->B.get? b=some o)
  (hf:∀b∈fs,∀o,hs.get? b=some o->∀vs,o.data≠.fields vs) (hn:∀b∈fs,H' b=none):Un fs [] H1 H' h1 h5/\HOk P w H' h5:=by
 refine ⟨⟨λb o q n hb hx=>?_,λb o q n hb hx=>?_,un.free,λb o q hx=>?_,un.tups,un.frzs,un.tbls⟩,λb u e=>?_⟩
 ·exact stay b o (cov b o (un.keep b o q n hb hx) hb (.inr (by rw [q];simp)))
 ·obtain ⟨sl,e1⟩:=un.slot b o q n hb hx
  obtain ⟨sl',e2⟩:=up b _ e1 (hf b hb _ e1);exact ⟨sl',e2⟩
 ·obtain ⟨o',e1⟩:=un.there b o q hx
  by_cases hb:b∈fs
  ·obtain ⟨sl',e2⟩:=up b _ e1 (hf b hb _ e1)
   exact ⟨_,e2⟩
  ·exact ⟨o',stay b o' (cov b o' e1 hb (.inr (by rw [q];simp)))⟩
 ·have tr:∀c,H' c≠none->∀v,hs.get? c=some v->h5.get? c=some v:=λc hc v q=>stay c v (cov c v q (λm=>hc (hn c m)) (.inl hc))
  refine (hok b u e).stay (λc v hc q=>tr c ?_ v q) (λ_ q=>q) λ_ _ q=>q
  rcases hc with rfl | hc
  ·rw [e];simp
  ·rw [hc];simp
end
section
variable {X:Cx} {pins:List (Addr×Obj)} {σ:St} {H:Hp} {s:Shared} {i:Nat} {n:Str}
theorem vG {M:Model} {A:Around} {E:Value->Shared->Prop} {v:V} {Q:Unit->Shared->Prop} (I:Inv X pins σ H s) (hN:X.N.Nodup) (hi:X.N[i]?=some n) (hl:X.env.scope.names.lookup n=some .local) (hv:σ[i]?=some (some v))
  (h:∀s',Inv X pins (σ.set i none) H s'->Q () s'):wpAny M A (unbindName X.env n) Q E s:=by
 obtain ⟨m,hn,hm⟩:=id I.loc;have cne:=I.cne;have hp:(X.env.scope.kind == .class || (X.env.scope.kind == .module && X.env.locals != X.env.globals))=false:=by rw [I.ok.kind];rfl
 obtain ⟨u,_,lk⟩:=hm i n v hi hv (.inl hl);have hu:m n=some u:=by
  rcases lk with ⟨_,e⟩ | ⟨e,_⟩
  ·exact e
  ·rcases e with e | e
   ·rw [show X.env.kindOf n=some .local from hl]at e;cases e
   ·rw [show X.env.kindOf n=some .local from hl]at e;cases e
 obtain ⟨oL,_,_,hoL,_⟩:=id hn;refine wpAny_unbindName_local hl hn hu hp λh' u' hn' hs=>h _ ?_
 have old:∀b o,X.s₀.heap.get? b=some o->b≠X.env.locals:=λb o e=>Nat.ne_of_lt (ZI (Heap.lt_size e) I.ok.above)
 refine ⟨I.ok,I.os,I.bare,⟨?_,?_,I.base.free,?_,I.base.tups,I.base.frzs,I.base.tbls⟩,⟨_,hn',?_⟩,?_,I.free,I.freeC,?_,?_,?_⟩
 ·exact λb o e n1 n2 n3=>(hs.2 b (old b o e)).trans (I.base.keep b o e n1 n2 n3)
 ·exact λb o e n1 n2 n3=>(I.base.slot b o e n1 n2 n3).imp λsl q=>(hs.2 b (old b o e)).trans q
 ·exact λb o e n1=>(I.base.there b o e n1).imp λo' q=>(hs.2 b (old b o e)).trans q
 ·intro j y v' e1 e2 e3
  by_cases hj:j=i
  ·subst hj
   rw [List.getElem?_set]at e2;split at e2
   ·split at e2 <;> cases e2
   ·rename_i z
    exact absurd rfl z
  ·rw [List.getElem?_set_ne (Ne.symm hj)]at e2
   obtain ⟨w',r',q⟩:=hm j y v' e1 e2 e3;refine ⟨w',r',q.imp (λz=>⟨z.1,?_⟩) λz=>⟨z.1,?_⟩⟩
   ·have ny:y≠n:=λe=>hj (mS hN e1 (e▸hi))
    show (if y=n then u' else m y)=some w'
    rw [if_neg ny];exact z.2
   ·obtain ⟨_,c,e,z'⟩:=z
    exact ⟨c,e,z'.sameBut hs (cne y c e)⟩
 ·exact λy c e=>(I.cell y c e).imp λw' z=>z.sameBut hs (cne y c e)
 ·exact λp m=>let ⟨q1,q2,q3,q4,q5⟩:=I.pin p m;⟨(hs.2 p.1 q3).trans q1,q2,q3,q4,q5⟩
 ·intro b ob e
  refine (I.hok b ob e).stay (λc w' hc q=>(hs.2 c ?_).trans q) (λ_ q=>q) λ_ _ q=>q
  intro z;subst z;rcases hc with z | hc
  ·rw [<-z,I.free]at e;cases e
  ·rw [I.free]at hc;cases hc
 ·rw [ZJ]
  exact I.len
end
section
variable {X:Cx} {pins:List (Addr×Obj)} {σ:St} {H1:Hp} {s1 s':Shared} {E':XK} {ev:Value} {D:Addr} {dx n:Str} {b0:Stmt} {suite:List Stmt} {hpos np:Pos} {Q:Flow->Shared->Prop} {E:Value->Shared->Prop} {i j:Nat}
theorem Am (I:Inv X pins σ H1 s1) (x:CXE X.prog X.w X.stack H1 s1 E' ev s') (hst:X.stack=X.env :: X.outer) (hfr:X.env.frame=some X.env.locals) {nm:Option Str}
  (hD:PySem.W.excIn X.K D vE vN=true) (hgD:Gl X dx) (hmD:X.mg dx=some (.ref D)) (hd:(dx == ("__debug__" : Str))=false)
  (h:∀ea cls H' ,ev=.ref ea->E' cls none H'->∃C,cls=.ref C/\PySem.W.subIn X.K (.ref C) (.ref D)=some true /\
   ∀s5,(∀(Q':Unit->Shared->Prop) (E'':Value->Shared->Prop),(∀oe s6,oe.cls=.ref C->Inv (cxM X ea oe) pins σ H' s6->Q' () s6)->wpAny (model X.prog X.w) (X.A.mark (some (.ref ea))) (setFlight (.ref ea) none) Q' E'' s5) ->
    codeAny (model X.prog X.w) (X.A.mark (some (.ref ea))) (.handlers (.ref ea) [.ExceptHandler none nm (b0 :: suite) hpos] X.env) (λr s₂=>match r with
     |.ok f=>(match nm with
      |none=>Q f s₂
      |some n=>wpAny (model X.prog X.w) X.A (do bindName X.env n .none;unbindBehindTheSuite X.env n hpos) (λ_ s₃=>Q f s₃) E s₂)
     |.error x=>cameBackBy (model X.prog X.w) X.A X.env E x s₂) s5) :
  wpAny (model X.prog X.w) X.A (noteFrame ev X.env) (λ_ s₂=>wpAny (model X.prog X.w) X.A (setFlight ev none) (λ_ s₃ =>
   wpAny (model X.prog X.w) X.A (handleBy ev X.env [.ExceptHandler (some (.Name dx np)) nm (b0 :: suite) hpos]) Q E s₃) E s₂) E s':=by
 obtain ⟨ea,cls,a0,B,H',rfl,os,bare,un,hok,fl,cov,hE'⟩:=x;obtain ⟨C,rfl,hsub,hh⟩:=h ea cls H' rfl hE';have J:Inv X pins σ H' s':=I.call' os un hok bare λb z=>absurd z (by simp)
 have nf:∀b∈frs X.stack,∀o,s'.heap.get? b=some o->∀vs,o.data≠.fields vs:=λb m o q vs=>by
  obtain ⟨_,o',q',k⟩:=J.stack.mem m;rw [q]at q';cases q';exact k vs
 have later:∀h5,B.StaysIn h5->s'.heap.UpToSlots h5->Inv X pins σ H' { s' with heap:=h5 }:=λh5 st up=>by
  obtain ⟨u5,k5⟩:=C8 un hok st up cov nf J.stkFree;exact I.call' (s':={ s' with heap:=h5 }) os u5 k5 bare λb z=>absurd z (by simp)
 obtain ⟨oe,vs,hoe,hoc,hod,_⟩:=fl.first
 have eaF:ea∉frs X.stack:=λm=>nf ea m oe hoe vs hod
 have eaN:H' ea=none:=by
  cases z:H' ea with
  |none=>rfl
  |some u =>
   have q:=cov ea oe hoe eaF (.inl (by rw [z];simp))
   rw [fl.2.1]at q;cases q
 have eaL:ea≠X.env.locals:=λz=>eaF (by rw [hst,jY hfr,z];exact Zf)
 have eaO:ea∉X.fs:=λm=>eaF (by rw [hst,jY hfr];exact Ze _ m)
 have mk:∀h5 o v,h5.get? ea=some o->o.data=.fields v->Inv X pins σ H' { s' with heap:=h5 }->Inv (cxM X ea o) pins σ H' { s' with heap:=h5 }:=λh5 o v q1 q2 I5 =>
  Ap I5 ⟨q1,eaN,eaL,eaO,λz=>by rw [q2];intro y;cases y⟩
 rw [hst]at fl;refine wpAny_looks_onW (by rw [<-hst];exact I.ok.frames) hfr fl λh4 fl4 up4=>?_
 refine wpAny_landsW fl4 λh5 fl5 up5=>?_
 have I5:=later h5 fl5.1 (up4.trans up5);obtain ⟨oe5,vs5,hoe5,hoc5,hod5,_⟩:=fl5.first
 have M5:=mk h5 oe5 vs5 hoe5 hod5 I5;refine wpAny_handleBy_cons (codeAny_handlers_test ?_) (by intro q;cases q)
 refine jq (X:=cxM X ea oe5) M5 hgD hmD ?_ hd;refine BQ (h:=h5) (K:=X.K) I5.kIn hD hsub hoe5 hoc5 ?_;refine hh _ λQ' E'' hq=>?_
 refine lands_againW fl5 λh6 fl6 up6=>?_
 obtain ⟨oe6,vs6,hoe6,hoc6,hod6,_⟩:=fl6.first
 exact hq oe6 _ hoc6 (mk h6 oe6 vs6 hoe6 hod6 (later h6 fl6.1 ((up4.trans up5).trans up6)))
end
section
variable {X:Cx} {pins:List (Addr×Obj)} {σ:St} {H':Hp} {C ea:Addr} {n:Str} {b0:Stmt} {suite:List Stmt} {hpos:Pos} {Q:Flow->Shared->Prop} {E:Value->Shared->Prop} {i j:Nat} {b:Bool}
end
theorem Bu {X:Cx} {xe:Value->Shared->Prop} {pins:List (Addr×Obj)} {σ:St} {H:Hp} {s:Shared} (I:Inv X pins σ H s):Inv { X with xe:=xe } pins σ H s :=
  ⟨⟨I.ok.mod,I.ok.kind,I.ok.glob,I.ok.blt,I.ok.above,I.ok.inj,I.ok.has,I.ok.cab,I.ok.hd,I.ok.frames,I.ok.stk,I.ok.exf,I.ok.bs,I.ok.bsz,I.ok.noex,I.ok.exfs,I.ok.funs,I.ok.frf⟩,
    I.os,I.bare,I.base,I.loc,I.cell,I.free,I.freeC,I.pin,I.hok,I.len⟩
theorem nJ {X:Cx} {xe:Value->Shared->Prop} {pins:List (Addr×Obj)} {σ:St} {H:Hp} {s:Shared} (I:Inv { X with xe:=xe } pins σ H s):Inv X pins σ H s :=
  ⟨⟨I.ok.mod,I.ok.kind,I.ok.glob,I.ok.blt,I.ok.above,I.ok.inj,I.ok.has,I.ok.cab,I.ok.hd,I.ok.frames,I.ok.stk,I.ok.exf,I.ok.bs,I.ok.bsz,I.ok.noex,I.ok.exfs,I.ok.funs,I.ok.frf⟩,
    I.os,I.bare,I.base,I.loc,I.cell,I.free,I.freeC,I.pin,I.hok,I.len⟩
section
variable {M:Mx} {X:Cx} {k:Nat} {f:Addr} {fd:FuncData} {ps:List Str} {x dx:Str} {p pos cpos epos hpos np:Pos} {fn:Fn} {al:Fa} {e:Expr} {es:List Expr} {D:Addr} {nm:Option Str} {b0:Stmt} {suite:List Stmt} {ok:L3.Env->Bool} {j:Nat} {tbl:List (Str×Bool)}
end
theorem uN {P:Program} {w:World} {K:PySem.W.Frag} {mg:Str->Option Value} {base:Heap} {x qual:Str} {st:Stmt} {f:Addr} {fd:FuncData} {N ps:List Str} {k np n:Nat} {body:Fs} {fn:Fn} (hf:fn=bW np n body) (hp:ps.length=np) (hn:N.length=n) (F:Fun K x qual st f fd) (S:FnScope N ps (aj st))
  (h:∀(cdv:Value) (A:Around) (outer:List PySem.Env) (s:Shared) (H:Hp) (E:XK),Room k (A.deeper (envOfC qual (aj st) s.heap.objs.size f cdv))->DSs ⟨K,mg,E⟩ (nN (CXE P w) P w K mg base N qual (aj st) f cdv A outer s H E) (aI st) body) :
  FnOk P w K mg base (CXE P w) (k+1) f fd ps (sp3 K mg fn):=by
 subst hf hp hn;have hpl:ps.length<=N.length:=by
  have:=congrArg List.length S.pre;rw [ZE]at this
  lia
 have hlen:∀vs H Q E,sp3 K mg (bW ps.length N.length body) vs H Q E->vs.length=ps.length:=by
  rintro vs H Q E ⟨F,ds,sm,ra,p⟩;by_cases hl:ds.length=ps.length
  ·rw [RepAll.len ra]
   exact hl
  ·unfold bW at p
   rw [if_neg hl]at p;exact p.elim
 obtain ⟨oc,od,kV,doc,pm,an,cdv,ct,osl,rfl,lk,hcd⟩:=F.ex;refine BD lk hcd S hlen λA outer s H vs Q E hr hs=>?_
 have hvl:=hlen _ _ _ _ hs;obtain ⟨F0,ds,sm,ra,p⟩:=hs;have hdl:ds.length=ps.length:=by rw [<-RepAll.len ra];exact hvl
 unfold bW at p;rw [if_pos hdl]at p;refine ⟨_,h cdv A outer s H E hr rfl rfl,F0,kK N.length ds,[],⟨sm,?_,List.nodup_nil,(λ_ m=>by cases m),?_⟩,(aw.bind p).mono λo po=>?_⟩
 ·unfold L2.start kK
  rw [hvl,hdl];exact kR _ ra
 ·unfold kK
  show _=N.length
  rw [Zd,Zc,List.length_replicate,hdl]
  lia
 ·cases o with
  |nx ρ=>exact fun σ' F' H' fp' S' st=>po .non F' H' [] ⟨st.ff,λa o q=>st.keep a o q (by simp),S'.same,λa q z=>st.nw a q (by simp) z⟩ (Res.sh .non) λ_ m=>by cases m
  |rt y=>exact λv F' H' fx sm' r st=>po v F' H' fx ⟨st.ff,λa o q=>st.keep a o q (by simp),sm',λa q z=>st.nw a q (by simp) z⟩ r λa m=>(st.new a m).elim (λz=>by cases z) id
  |bk ρ=>exact po.elim
  |ct ρ=>exact po.elim
section
variable {M:Mx} {X:Cx} {e:Expr} {pos:Pos} {fa:Fe}
end
end L3
namespace L3
open PySem L2
section
variable {c:Str} {ρ:L3.Env} {p:Fs}
theorem ma:vM (.ex c) p=.ex c:=rfl
theorem jU:Ay (.ex c)=.ex c:=rfl
theorem ql (c:Str):mR c ρ=.ex c:=rfl
end
end L3
namespace L3
open PySem L2 PySem.Spec PyProof.Rows
noncomputable def vC (k:Nat) (a:Fe):Fe:=fun ρ=>(a ρ).bind λx=>match comps x with
 |some (_,xs)=>(match xs[k]? with
  |some y=>.ok y
  |none=>.bad)
 |none=>.bad
section
variable {M:Mx} {X:Cx} {e:Expr} {pos p2:Pos} {fa:Fe}
theorem FL {n:Nat} {σ:St} {H:Hp} {Q:VK} {k:Nat} (h:tD M n (vC k fa) σ H Q):tOp (rIx M.K) (tD M n fa) (tC (.int (k:Int))) σ H Q:=by
 obtain ⟨F,ρ,fp,S,p⟩:=h;refine ⟨F,ρ,fp,S,(aw.bind p).mono λx px v F1 H1 fx e1 r1 w1=>?_⟩
 have key:∀(xs:List OD) (vs:List V) (a:Addr) (g:List Addr),OwnL M.K F1 H1 vs xs g->fx=a :: g->(aw M H fp (OkE M F H Q) (match xs[k]? with | some y=>.ok y | none=>.bad))->∃u,vs[k]?=some u/\Q u H1:=by
  intro xs vs a g hv hf px;cases hk:xs[k]? with
  |none =>
   rw [hk]at px;exact px.elim
  |some y =>
   rw [hk]at px;obtain ⟨u,f1,k1,k2,b1,b2,b3,_⟩:=hv.at hk;have nd:=r1.nd;have sub:∀c∈f1,c∈fx:=λc m=>by rw [hf,b3];exact Ze _ (Zq _ (Zw _ m))
   rw [hf,b3]at nd;simp only [List.nodup_cons,ZK]at nd;exact ⟨u,b1,px u F1 H1 f1 e1 ⟨b2,nd.2.2.1.1,λc m=>r1.fr c (sub c m)⟩ λc m=>w1 c (sub c m)⟩
 have ro:=r1.own;cases ro with
 |sh _=>exact px.elim
 |od _ _ _=>exact px.elim
 |oi _ _ _=>exact px.elim
 |pl _ _=>exact px.elim
 |@ol a vs xs g ha hv =>
  obtain ⟨u,h1,h2⟩:=key xs vs a g hv rfl px;exact .inl ⟨a,vs,(k:Int),u,rfl,rfl,(RdK.of ha).sq,dj h1,h2⟩
 |@ot a vs xs g ha hv =>
  obtain ⟨u,h1,h2⟩:=key xs vs a g hv rfl px;exact .inr (.inl ⟨a,vs,(k:Int),u,rfl,rfl,.inl (.inl ha),dj h1,h2⟩)
theorem xM (k:Nat) {j:Nat} (h:DE M X e fa) (hs:kN (.Constant (.int (k:Int)) j p2):=λ_ _=>rfl):DE M X (.Subscript e (.Constant (.int (k:Int)) j p2) pos) (vC k fa):=λhK hM=>by
 have q:=tW (pos:=pos) ax (h hK hM) (kW (i:=(k:Int)) (j:=j) (pos:=p2)) hs;rw [hK]at q;exact peI q λ_ _ _ z=>FL z
end
section
variable {M:Mx} {X:Cx} {a b c:Expr} {pos:Pos} {fa fb fc:Fe}
end
theorem lG:∀{bs:List Bool} {us:List Value},Vals (bs.map V.bl) us->us=bs.map Value.bool:=by
 intro bs
 induction bs with
 |nil=>exact λh=>Vals.zero h
 |cons b r ih =>
  intro us h;cases h with
  |cons q t =>
   rw [Zk,ih t];exact congrArg (· :: _) (show _=Value.bool b from q)
end L3
namespace L3
open PySem L2 PySem.Spec PyProof.Rows PySem.W
section
variable {M:Mx} {X:Cx}
end
end L3
namespace L3
open PySem L2
end L3
namespace L3
open PySem L2 PySem.Spec PyProof.Rows PySem.W
section
variable {M:Mx} {X:Cx} {e a:Expr} {fa fb:Fe}
noncomputable def qN (f:Fs):Fs:=fun ρ=>match f ρ with
 |.ok o=>.ok o
 |_=>.bad
theorem AE {body:List Stmt} {h0:ExceptHandler} {hs:List ExceptHandler} {pos:Pos} {f:Fs} (hb:∀xe,DSs M { X with xe:=xe } body f):DS M X (.Try body (h0 :: hs) [] [] pos) (qN f):=λhK hM pins s σ H D I q=>by
 obtain ⟨F,ρ,fp,S,p⟩:=q;have p':aw M H fp (eG M X.N.length F H fp D) (f ρ):=by
  unfold qN at p;cases hf:f ρ with
  |ok o =>
   rw [hf]at p;exact p
  |ex c =>
   rw [hf]at p;exact p.elim
  |bad =>
   rw [hf]at p;exact p.elim
 refine wpAny_Try_except (wpAny_mono (hb (λe s₁=>wpAny (model X.prog X.w) X.A (noteFrame e X.env) (λ_ s₂=>wpAny (model X.prog X.w) X.A (setFlight e none) (λ_ s₃=>wpAny (model X.prog X.w) X.A (handleBy e X.env (h0 :: hs)) (SP X pins D) X.xe s₃) X.xe s₂) X.xe s₁) hK hM pins s σ H D (Bu I) ⟨F,ρ,fp,S,p'⟩) (λfl s1 hz=>?_) λ_ _ z=>z)
 cases fl with
 |next =>
  obtain ⟨σ',H',I',d⟩:=hz;exact wpAny_execs_nil ⟨σ',H',nJ I',d⟩
 |brk =>
  obtain ⟨σ',H',I',d⟩:=hz;exact ⟨σ',H',nJ I',d⟩
 |cont =>
  obtain ⟨σ',H',I',d⟩:=hz;exact ⟨σ',H',nJ I',d⟩
 |ret u =>
  obtain ⟨v,σ',H',I',r,d⟩:=hz;exact ⟨v,σ',H',nJ I',r,d⟩
end
section
variable {op:Str->Str->PyData} {fa fb:Fe} {ρ:L3.Env} {x y:OD} {s t:Str}
end
end L3
namespace L3
open PySem L2
section
variable {K:PySem.W.Frag} {F H:Hp} {σ:St} {ρ:Env} {g fp:List Addr} {n:Nat}
end
section
variable {M:Mx} {X:Cx} {n:Nat} {H:Hp} {σ:St} {D:Ends} {x y:Str} {p p2 ap cp pos:Pos}
end
end L3
namespace L3
open PySem L2 PySem.Spec PyProof.Rows PySem.W
noncomputable def I0:PyData->Option Bool
 |.bool b=>some b
 |.int i=>some (i != 0)
 |_=>none
noncomputable def Bc:List PyData->Option (List Bool)
 |[]=>some []
 |d :: r=>match I0 d,Bc r with
  |some b,some bs=>some (b :: bs)
  |_,_=>none
noncomputable def JA:List PyData->R OD
 |[.list ds]=>(match Bc ds with
  |some bs=>oB (bs.any id)
  |none=>.bad)
 |_=>.bad
section
variable {M:Mx} {X:Cx}
noncomputable def g5 (neg:Bool):PyData->PyData->R OD
 |.int i,.list ds=>(match dZ ds with
  |some ns=>.ok (.sh (.bool (if neg then !decide (i∈ns) else decide (i∈ns))))
  |none=>.bad)
 |_,_=>.bad
theorem wz (i:Int) (ns:List Int):inV (.int i) (ns.map V.int)=decide (i∈ns):=by
 unfold inV;rw [Bool.eq_iff_iff,List.any_map,List.any_eq_true,decide_eq_true_eq];constructor
 ·rintro ⟨n,hn,h⟩
  have h:(decide (n=i))=true:=by simpa [eqV]using h
  rw [<-of_decide_eq_true h];exact hn
 ·intro h
  exact ⟨i,h,by simp [eqV]⟩
theorem vx (ns:List Int):(ns.map V.int).all kg=true:=by
 rw [List.all_map,List.all_eq_true];intro x _;rfl
theorem ir {neg:Bool} (hK:X.K=M.K):Ok2 M (rIn X.K neg) (g5 neg):=by
 rw [hK];intro x y dx dy F H fp Q s rx ry p;unfold g5 at p;split at p
 ·split at p
  ·rename_i ns hn
   cases rx;cases ry with
   |lst h1 h2 =>
    rw [ip hn]at h2;have e:=RepAll.toInts h2;subst e;refine ⟨_,_,rfl,.inl (h1.same s).sq,rfl,vx ns,?_⟩;rw [wz];exact OkE.val s p (.bl _)
  ·exact p.elim
 ·exact p.elim
theorem o7 (neg:Bool) (i:Int) (ns:List Int):g5 neg (.int i) (.list (ns.map PyData.int))=.ok (.sh (.bool (if neg then !decide (i∈ns) else decide (i∈ns)))):=by
 have e:dZ (ns.map PyData.int)=some ns:=gL ns;unfold g5;simp only [e]
end
end L3
namespace L3
open PySem L2 PySem.Spec PyProof.Rows
noncomputable def gS:PyData->Option Str
 |.dict ((.none,.str nm) :: _)=>some nm
 |_=>none
noncomputable def df (f:Str):List (PyData×PyData)->Option PyData
 |[]=>none
 | (.tuple [.str g],d) :: r=>if f=g then some d else df f r
 |_ :: r=>df f r
noncomputable def ow (f:Str):PyData->Option PyData
 |.dict (_ :: r)=>df f r
 |_=>none
theorem tH (f nm:Str) (ds:List (Str×PyData)):ow f (jN nm ds)=df f (ds.map λp=>(.tuple [.str p.1],p.2)):=rfl
theorem uG (f:Str):df f []=none:=rfl
theorem dk (f g:Str) (d:PyData) (r:List (PyData×PyData)):df f ((.tuple [.str g],d) :: r)=if f=g then some d else df f r:=rfl
theorem wB (kvs:List (Key×PyData)):gS (dD kvs)=none:=by
 unfold dD;cases kvs with
 |nil=>rfl
 |cons p r =>
  obtain ⟨k,v⟩:=p;cases k <;> rfl
section
variable {K:PySem.W.Frag} {H:Hp}
theorem pX {f:Str} {d:PyData}:∀{ds:List (Str×PyData)} {fs:List (Str×V)},fs.map (·.1)=ds.map (·.1)->RepAll K H (fs.map (·.2)) (ds.map (·.2))->df f (ds.map λp=>(.tuple [.str p.1],p.2))=some d->∃v,fs.lookup f=some v/\Rep K H v d
 |[],_,_,_,e=>by cases e
 | (g,d0) :: ds,[],h,_,_=>by cases h
 | (g,d0) :: ds,(g',v0) :: fs,h,r,e=>by
  rw [Zk,Zk]at h r;rw [Zk,dk]at e;obtain ⟨h1,h2⟩:=List.cons.inj h;have h1:g'=g:=h1;subst h1;cases r with
  |cons r1 r2 =>
   by_cases hf:f=g'
   ·rw [if_pos hf]at e
    cases e;have hb:(f == g')=true:=beq_iff_eq.mpr hf;refine ⟨v0,?_,r1⟩;simp only [List.lookup,hb]
   ·rw [if_neg hf]at e
    obtain ⟨v,q1,q2⟩:=pX h2 r2 e;have hb:(f == g')=false:=beq_eq_false_iff_ne.mpr hf;refine ⟨v,?_,q2⟩;simp only [List.lookup,hb];exact q1
theorem nS {f:Str}:∀{ds:List (Str×PyData)} {fs:List (Str×V)},fs.map (·.1)=ds.map (·.1)->df f (ds.map λp=>(.tuple [.str p.1],p.2))=none->fs.lookup f=none
 |[],[],_,_=>rfl
 |[],_ :: _,h,_=>by cases h
 | (g,d0) :: ds,[],h,_=>by cases h
 | (g,d0) :: ds,(g',v0) :: fs,h,e=>by
  rw [Zk,Zk]at h;rw [Zk,dk]at e;obtain ⟨h1,h2⟩:=List.cons.inj h;have h1:g'=g:=h1;subst h1;by_cases hf:f=g'
  ·rw [if_pos hf]at e
   cases e
  ·rw [if_neg hf]at e
   have hb:(f == g')=false:=beq_eq_false_iff_ne.mpr hf;simp only [List.lookup,hb];exact nS h2 e
end
theorem vW {K:PySem.W.Frag} {F:Hp} {v:V} {d:PyData} {nm:Str} (r:Rep K F v d) (e:gS d=some nm) :
  ∃a C dx fs ds,v=.ref a/\d=jN nm ds/\PySem.W.nsIn K mainGlobals nm=some (some (.ref C))/\F a=some (.ins C dx fs)/\fs.map (·.1)=ds.map (·.1)/\RepAll K F (fs.map (·.2)) (ds.map (·.2)):=by
 cases r with
 |non=>cases e
 |bl _=>cases e
 |int _=>cases e
 |str _=>cases e
 |lst _ _=>cases e
 |tup _ _=>cases e
 |dct _ _ _=>rw [wB]at e;cases e
 |@ins a C dx fs nm' ds h1 h2 h3 =>
  have e':some nm'=some nm:=e;cases e';exact ⟨a,C,dx,fs,ds,rfl,rfl,h1.1,h1.2,h2,h3⟩
noncomputable def ni (tb:Str->Bool) (f:Str) (a:Fe):Fe:=fun ρ=>(a ρ).bind λx=>match gS x.er,ow f x.er with
 |some nm,some d=>if tb nm=true then .ok (.sh d) else .bad
 |_,_=>.bad
section
variable {M:Mx} {n:Nat} {σ:L3.St} {H:Hp} {Q:VK} {fa:Fe} {al:Fa}
theorem Fd {tb:Str->Bool} {f:Str} (hN:∀C nm,PySem.W.nsIn M.K mainGlobals nm=some (some (.ref C))->tb nm=true->Cls M.K C/\eu M.K C f) (h:tD M n (ni tb f fa) σ H Q):Eu M.K (tD M n fa) f σ H Q:=by
 obtain ⟨F,ρ,fp,S,p⟩:=h;refine ⟨F,ρ,fp,S,(aw.bind p).mono λx px v F1 H1 fx e1 r1 w1=>?_⟩
 obtain ⟨G1,d1,k1⟩:=r1.frz e1 w1;cases e:gS x.er with
 |none=>rw [e]at px;exact px.elim
 |some nm =>
  rw [e]at px;obtain ⟨a,C,dx,fs,ds,hv,hd,hC,ha,hn,hr⟩:=vW k1 e;subst hv;cases e2:ow f x.er with
  |none=>rw [e2]at px;exact px.elim
  |some d =>
   rw [e2]at px;have px':aw M H fp (OkE M F H Q) (if tb nm=true then .ok (.sh d) else .bad):=px
   by_cases ht:tb nm=true
   ·rw [if_pos ht]at px'
    rw [hd,tH]at e2;obtain ⟨u,l,ru⟩:=pX hn hr e2;obtain ⟨hc,hna⟩:=hN C nm hC ht;exact ⟨a,C,dx,fs,u,rfl,d1.fh _ _ ha,hc,hna,l,OkE.val d1.fh (OkE.pre d1 px') ru⟩
   ·rw [if_neg ht]at px'
    exact px'.elim
noncomputable def de (tb:Str->Option Fn) (m:Str) (a:Fe) (al:Fa):Fe:=fun ρ=>(a ρ).bind λx=>match gS x.er,ow m x.er with
 |some nm,none=>match tb nm with
  |some fn=>(al ρ).bind λxs=>fn (x.er :: xs.map OD.er)
  |none=>.bad
 |_,_=>.bad
structure HasM (P:Program) (w:World) (K:PySem.W.Frag) (mg:Str->Option Value) (base:Heap) (CX:CXT) (k:Nat) (m:Str) (C f:Addr) (sp:Sp):Prop where
 c:Cls K C
 m:Meth K C m f
 f:∃fd ps,FnOk P w K mg base CX k f fd ps sp/\Binds K fd ps []
noncomputable def pE (ok:Addr->Addr->Sp->Prop) (m:Str) (E:XK) (ta:TE) (t:TA):TE:=fun σ H Q=>ta σ H λx H1=>∃a C dx fs f sp,x=.ref a/\H1 a=some (.ins C dx fs)/\ok C f sp/\fs.lookup m=none/\t σ H1 λvs H2=>sp (x :: vs) H2 Q E
theorem wG {ok:Addr->Addr->Sp->Prop} {tb:Str->Option Fn} {m:Str} (hT:∀C nm fn,PySem.W.nsIn M.K mainGlobals nm=some (some (.ref C))->tb nm=some fn->∃f,ok C f (sp3 M.K M.mg fn)) (h:tD M n (de tb m fa al) σ H Q) :
  pE ok m M.E (tD M n fa) (tA M n al) σ H Q:=by
 obtain ⟨F,ρ,fp,S,p⟩:=h;refine ⟨F,ρ,fp,S,(aw.bind p).mono λx px v F1 H1 fx e1 r1 w1=>?_⟩
 obtain ⟨G1,d1,k1⟩:=r1.frz e1 w1;cases e:gS x.er with
 |none=>rw [e]at px;exact px.elim
 |some nm =>
  rw [e]at px;have k1':=k1;obtain ⟨a,C,dx,fs,ds,hv,hd,hC,ha,hn,hr⟩:=vW k1 e;subst hv;cases e2:ow m x.er with
  |some d=>rw [e2]at px;exact px.elim
  |none =>
   rw [e2]at px;have px':aw M H fp (OkE M F H Q) (match tb nm with
    |some fn=>(al ρ).bind λxs=>fn (x.er :: xs.map OD.er)
    |none=>.bad):=px
   cases e3:tb nm with
   |none=>rw [e3]at px';exact px'.elim
   |some fn =>
    rw [e3]at px';have px2:aw M H fp (OkE M F H Q) ((al ρ).bind λxs=>fn (x.er :: xs.map OD.er)):=px'
    rw [hd,tH]at e2;obtain ⟨f,hf⟩:=hT C nm fn hC e3;refine ⟨a,C,dx,fs,f,_,rfl,d1.fh _ _ ha,hf,nS hn e2,G1,ρ,fp,S.ext d1,((aw.bind px2).ext d1).mono λxs pxs vs F2 H2 fxs e2 r2 w2=>?_⟩
    obtain ⟨G2,d2,k2⟩:=r2.frz e2 w2;exact ⟨G2,x.er :: xs.map OD.er,d2.fh,.cons (k1'.same d2.ff) k2,(pxs.ext (d1.trans d2)).nofp.mono λz hz=>hz.pre (d1.trans d2)⟩
structure InsK (K:PySem.W.Frag) (C:Addr):Prop where
 c:Cls K C
 ha:PySem.W.findIn K (.ref C) "__class__" = some (some (.builtin "object.__class__"))
 hn:PySem.W.specialIn K (.builtin "object.__class__") "__get__" = some (some (.builtin "getset_descriptor.__get__"))
 ht:PySem.W.takesIn K (.builtin "object.__class__")=some true
 hm:PySem.W.mroIn K C (.type "object")=some true
end
section
variable {M:Mx} {X:Cx} {e o:Expr} {es:List Expr} {pos apos p:Pos} {fa:Fe} {al:Fa}
theorem iY {tb:Str->Bool} {f:Str} (hN:∀C nm,PySem.W.nsIn M.K mainGlobals nm=some (some (.ref C))->tb nm=true->Cls M.K C/\eu M.K C f) (h:DE M X e fa) (hb:attributeBase e f X.env (eval e X.env)=eval e X.env:=by rfl) :
  DE M X (.Attribute e f pos) (ni tb f fa):=λhK hM=>by
 have q:=wF (pos:=pos) (h hK hM) hb;rw [hK]at q;exact peI q λ_ _ _ z=>Fd hN z
theorem qw {CX:CXT} {k:Nat} {m:Str} {E:XK} {ta:TE} {t:TA} {pl:Sem Bool} (he:PE X o ta) (hr:Room k X.A) (hx:Passes CX X E) (ha:PA X (e :: es) t)
  (hst:starEach (e :: es) X.env=(false,eval e X.env) :: starEach es X.env:=by rfl) (hpl:(backTo pos (starEach es X.env)).any (·.1)=false:=by rfl)
  (ht:eval (.Call (.Attribute o m apos) (e :: es) [] pos) X.env=(do
   let ov <-eval o X.env
   standAt apos.atName
   let (f,first) <-holding [ov] (getMethod ov m pl)
   callWith pos f first (backTo pos (starEach (e :: es) X.env)) (backToKw pos (keywordEach [] X.env))):=by rfl) :
  PE X (.Call (.Attribute o m apos) (e :: es) [] pos) (pE (HasM X.prog X.w X.K X.mg X.base CX k m) m E ta t):=by
 intro pins s σ H Q I h;refine PySem.W.methodCall_KW (pl:=pl) (thn (he pins s σ H _ I h) λu s1 ⟨x,H1,I1,rx,a,C,dx,fs,f,sp,ex,ea,hm,l,q⟩=>?_) ht
 subst ex;obtain rfl:u=Value.ref a:=rx;obtain ⟨fd,ps,F,hb⟩:=hm.f;refine mU I1 ea hm.c hm.m l ?_;refine PySem.W.callWith_K (first:=[.ref a]) (h₀:=X.base) I.ok.mod.kin hm.m.kp (thn (ha pos pins s1 σ H1 _ I1 q) λus s2 ⟨vs,H2,I2,r,q2⟩=>⟨I2.kIn,?_⟩) hst hpl
 exact sE (us:=.ref a :: us) (vs:=.ref a :: vs) (dvs:=[]) (ds:=[]) F hr hb .nil hx I2 (.cons rfl r) (by rw [Zx];exact q2)
theorem tx {CX:CXT} {k:Nat} {m:Str} {tb:Str->Option Fn} {pl:Sem Bool} (hT:∀C nm fn,PySem.W.nsIn M.K mainGlobals nm=some (some (.ref C))->tb nm=some fn->∃f,HasM X.prog X.w M.K M.mg X.base CX k m C f (sp3 M.K M.mg fn)) (hr:Room k X.A) (hx:Passes CX X M.E)
  (he:DE M X o fa) (ha:DA M X (e :: es) al)
  (hst:starEach (e :: es) X.env=(false,eval e X.env) :: starEach es X.env:=by rfl) (hpl:(backTo pos (starEach es X.env)).any (·.1)=false:=by rfl)
  (ht:eval (.Call (.Attribute o m apos) (e :: es) [] pos) X.env=(do
   let ov <-eval o X.env
   standAt apos.atName
   let (f,first) <-holding [ov] (getMethod ov m pl)
   callWith pos f first (backTo pos (starEach (e :: es) X.env)) (backToKw pos (keywordEach [] X.env))):=by rfl) :
  DE M X (.Call (.Attribute o m apos) (e :: es) [] pos) (de tb m fa al):=λhK hM=>by
 have q:=qw (CX:=CX) (k:=k) (E:=M.E) (he hK hM) hr hx (ha hK hM) hst hpl ht;rw [hK,hM]at q;exact peI q λ_ _ _ z=>wG hT z
structure Mk0 (K:PySem.W.Frag) (C:Addr):Prop where
 makes:PySem.W.makesIn K C=true
 init:PySem.W.findIn K (.ref C) "__init__" = some (some (.builtin "object.__init__"))
 kp:PySem.W.keepIn K (.ref C)=true
end
theorem e9 {α:Type} {K:PySem.W.Frag} {Pr:Addr->α->Prop}:∀C nm v,PySem.W.nsIn K mainGlobals nm=some (some (.ref C))->List.lookup nm ([]:List (Str×α))=some v->Pr C v:=λ_ _ _ _ e=>by cases e
theorem dS {α:Type} {K:PySem.W.Frag} {x:Str} {c:Addr} {v:α} {l:List (Str×α)} {Pr:Addr->α->Prop} (a:PySem.W.nsIn K mainGlobals x=some (some (.ref c))) (h:Pr c v)
  (r:∀C nm v',PySem.W.nsIn K mainGlobals nm=some (some (.ref C))->List.lookup nm l=some v'->Pr C v') :
  ∀C nm v',PySem.W.nsIn K mainGlobals nm=some (some (.ref C))->List.lookup nm ((x,v) :: l)=some v'->Pr C v':=λC nm v' hC e=>by
 by_cases hx:nm=x
 ·subst hx
  have hb:(nm == nm)=true:=beq_iff_eq.mpr rfl;simp only [List.lookup,hb]at e;cases e;rw [a]at hC;cases hC;exact h
 ·have hb:(nm == x)=false:=beq_eq_false_iff_ne.mpr hx
  simp only [List.lookup,hb]at e;exact r C nm v' hC e
theorem bT {K:PySem.W.Frag} {x:Str} {c:Addr} {Pr:Addr->Prop} (a:PySem.W.nsIn K mainGlobals x=some (some (.ref c))) (h:Pr c):∀C nm,PySem.W.nsIn K mainGlobals nm=some (some (.ref C))->decide (nm=x)=true->Pr C:=λC nm hC e=>by
 have e:=of_decide_eq_true e;subst e;rw [a]at hC;cases hC;exact h
noncomputable def iB:Stmt->List Stmt
 |.ClassDef _ _ _ b _ _ _ _ _ _ _=>b
 |_=>[]
section
variable {a:Fe} {al:Fa} {ρ:Env}
noncomputable def qC (tb:Str->Bool) (f:Str) (d:PyData):R OD:=match gS d,ow f d with
 |some nm,some d'=>if tb nm=true then .ok (.sh d') else .bad
 |_,_=>.bad
theorem me {tb:Str->Bool} {f:Str}:ni tb f a ρ=unK (λx=>qC tb f x.er) (a ρ):=cC _ _
noncomputable def nxK (g:Fg) (b:Fs) (ds:List PyData):Out->R Out
 |.nx ρ2=>cy g b ds ρ2
 |.ct ρ2=>cy g b ds ρ2
 |.bk ρ2=>.ok (.nx ρ2)
 |.rt x=>.ok (.rt x)
theorem tR {g:Fg} {b:Fs}:cy g b [] ρ=.ok (.nx ρ):=rfl
theorem pI {g:Fg} {b:Fs} {d:PyData} {ds:List PyData}:cy g b (d :: ds) ρ=unK (fun ρ1=>unK (nxK g b ds) (b ρ1)) (g (.sh d) ρ):=by
 rw [cy,cC];congr 1
theorem zY {g:Fg} {b:Fs} {ds:List PyData} {ρ2:Env}:nxK g b ds (.nx ρ2)=cy g b ds ρ2:=rfl
end
section
variable {K:PySem.W.Frag} {n:Nat} {F H:Hp} {σ:St} {ρ:Env} {fp:List Addr}
theorem Stt.swap (S:Stt K n F H σ ρ fp) {i:Nat} {x:OD} (hx:ρ[i]?=some (some x)) :
  ∃v f,σ[i]?=some (some v)/\Res K F H v x f/\(∀a∈f,a∈fp) /\
   ∀F' H' x' f',aB F' H'->Own K F' H' v x' f'->f'.Nodup->(∀a∈f',F' a=none)->Stp F H f F' H' f'->∃fp',Stt K n F' H' σ (ρ.set i (some x')) fp'/\Stp F H fp F' H' fp'/\∀a∈fp',(a∈fp/\a∉f)\/a∈f':=by
 obtain ⟨v,f,g1,g2,h1,h2,rfl,h4⟩:=S.own.at hx;have nd:=S.nd;have nd':=nd;simp only [ZK,Zs]at nd';obtain ⟨n1,⟨n2,n3,n4⟩,n5⟩:=nd';refine ⟨v,f,h1,⟨h2,n2,λa m=>S.fr a (by simp [m])⟩,λa m=>by simp [m],λF' H' x' f' sm o nf ff st=>?_⟩
 have out:∀a∈g1++g2,a∉f:=λa m z=>by
  rcases Zs.mp m with m | m
  ·exact n5 a m a (.inl z) rfl
  ·exact n4 a z a m rfl
 have hs:∀c∈f',c∈f\/c∉g1++(f++g2):=λc m=>by
  rcases st.new c m with z | z
  ·exact .inl z
  ·refine .inr λw=>?_
   obtain ⟨o,q⟩:=S.own.dom c w;rw [z]at q;cases q
 have own:=h4 F' H' st.ff (λa m o q=>st.keep a o q (out a m)) v x' f' o
 rw [iQ h1]at own;refine ⟨g1++(f'++g2),⟨sm,own,iy nd nf hs,λa m=>?_,by rw [ZJ];exact S.len⟩,⟨st.ff,λa o q m=>st.keep a o q λz=>m (by simp [z]),λa m=>?_,λa q m z=>st.nw a q (λw=>m (by simp [w])) z⟩,λa m=>?_⟩
 ·simp only [Zs]at m
  have go:a∈g1++g2->F' a=none:=λm=>by
   obtain ⟨o,q⟩:=S.own.dom a (by simp at m ⊢;rcases m with m | m <;> simp [m])
   exact st.nw a (bF q) (out a m) (S.fr a (by simp at m ⊢;rcases m with m | m <;> simp [m]))
  rcases m with m | m | m
  ·exact go (by simp [m])
  ·exact ff a m
  ·exact go (by simp [m])
 ·simp only [Zs]at m ⊢
  rcases m with m | m | m
  ·exact .inl (.inl m)
  ·rcases st.new a m with z | z
   ·exact .inl (.inr (.inl z))
   ·exact .inr z
  ·exact .inl (.inr (.inr m))
 ·simp only [Zs]at m ⊢
  rcases m with m | m | m
  ·exact .inl ⟨.inl m,out a (by simp [m])⟩
  ·exact .inr m
  ·exact .inl ⟨.inr (.inr m),out a (by simp [m])⟩
end
noncomputable def fj (i:Nat) (tb:Str->Bool) (f:Str):Fe:=fun ρ=>match ρ[i]? with
 |some (some (.oi p nm ds))=>match df f (ds.map λq=>(.tuple [.str q.1],q.2)) with
  |some d=>if tb nm=true then .ok (.sh d) else .bad
  |none=>.bad
 |_=>.bad
noncomputable def cu (f:Str) (v:PyData):List (Str×PyData)->List (Str×PyData)
 |[]=>[(f,v)]
 | (g,x) :: r=>if g=f then (g,v) :: r else (g,x) :: cu f v r
noncomputable def jB (i:Nat) (tb:Str->Bool) (f:Str) (a:Fe):Fs:=fun ρ=>(a ρ).bind λy=>match ρ[i]? with
 |some (some (.oi p nm ds))=>if tb nm=true/\ds.length<1000 then .ok (.nx (ρ.set i (some (.oi p nm (cu f y.er ds))))) else .bad
 |_=>.bad
theorem o4 {f:Str} {v:V} {d:PyData}:∀{fs:List (Str×V)} {ds:List (Str×PyData)},fs.map (·.1)=ds.map (·.1)->(L2.gu f v fs).map (·.1)=(cu f d ds).map (·.1)
 |[],[],_=>rfl
 |[],_ :: _,h=>by cases h
 |_ :: _,[],h=>by cases h
 | (g,x) :: fs,(g',y) :: ds,h=>by
  rw [Zk,Zk]at h;obtain ⟨h1,h2⟩:=List.cons.inj h;have h1:g=g':=h1;subst h1;unfold L2.gu cu;by_cases e:g=f
  ·rw [if_pos e,if_pos e,Zk,Zk,h2]
  ·rw [if_neg e,if_neg e,Zk,Zk,o4 h2]
theorem qv {K:PySem.W.Frag} {F:Hp} {f:Str} {v:V} {d:PyData} (r:Rep K F v d):∀{fs:List (Str×V)} {ds:List (Str×PyData)},fs.map (·.1)=ds.map (·.1)->RepAll K F (fs.map (·.2)) (ds.map (·.2))->RepAll K F ((L2.gu f v fs).map (·.2)) ((cu f d ds).map (·.2))
 |[],[],_,_=>.cons r .nil
 |[],_ :: _,h,_=>by cases h
 |_ :: _,[],h,_=>by cases h
 | (g,x) :: fs,(g',y) :: ds,h,q=>by
  rw [Zk,Zk]at h q;obtain ⟨h1,h2⟩:=List.cons.inj h;have h1:g=g':=h1;subst h1;cases q with
  |cons q1 q2 =>
   unfold L2.gu cu;by_cases e:g=f
   ·rw [if_pos e,if_pos e]
    exact .cons r q2
   ·rw [if_neg e,if_neg e]
    exact .cons q1 (qv r h2 q2)
section
variable {M:Mx} {n:Nat} {σ:L2.St} {H:Hp} {Q:VK} {D:Ends}
theorem Di {i:Nat} {tb:Str->Bool} {f:Str} (hN:∀C nm,PySem.W.nsIn M.K mainGlobals nm=some (some (.ref C))->tb nm=true->Cls M.K C/\eu M.K C f) (h:tD M n (fj i tb f) σ H Q):Eu M.K (d9 i) f σ H Q:=by
 obtain ⟨F,ρ,fp,S,p⟩:=h;unfold fj at p;split at p
 ·rename_i q nm ds e
  obtain ⟨v,g,h1,r,_,_⟩:=S.swap e;have ro:=r.own;cases ro with
  |@oi a C dx fs _ _ _ hh hk hr =>
   split at p
   ·rename_i d hd
    by_cases ht:tb nm=true
    ·rw [if_pos ht]at p
     obtain ⟨u,l,ru⟩:=pX hk hr hd;obtain ⟨hc,hna⟩:=hN C nm hh.2.1 ht;exact ⟨.ref a,h1,a,C,dx,fs,u,rfl,hh.2.2,hc,hna,l,OkE.val S.same p ru⟩
    ·rw [if_neg ht]at p
     exact p.elim
   ·exact p.elim
 ·exact p.elim
theorem BX {i:Nat} {tb:Str->Bool} {f:Str} {a:Fe} (hN:∀C nm,PySem.W.nsIn M.K mainGlobals nm=some (some (.ref C))->tb nm=true->Cls M.K C/\eu M.K C f) (h:tS M n (jB i tb f a) D σ H):Hc M.K (d9 i) (tD M n a) f D σ H:=by
 obtain ⟨F,ρ,fp,S,p⟩:=h;refine ⟨F,ρ,fp,S,(aw.bind p).mono λy py w F1 H1 fy e1 r1 w1=>?_⟩
 obtain ⟨G1,d1,k1⟩:=r1.frz e1 w1;split at py
 ·rename_i q nm ds e
  by_cases ht:tb nm=true/\ds.length<1000
  ·rw [if_pos ht]at py
   obtain ⟨v,g,h1,r,sub,wr⟩:=(S.ext d1).swap e;have ro:=r.own;cases ro with
   |@oi b C dx fs _ _ _ hh hk hr =>
    obtain ⟨hc,hna⟩:=hN C nm hh.2.1 ht.1;have hl:fs.length<1000:=by
     have:=congrArg List.length hk;rw [Zc,Zc]at this
     lia
    have fb:G1 b=none:=r.fr b Zf;refine ⟨.ref b,h1,b,C,dx,fs,rfl,hh.2.2,hc,hna,hl,?_⟩;have sm:aB G1 (upd H1 b (.ins C dx (L2.gu f w fs))):=λc o z=>by
     rw [az (aU z fb)];exact d1.fh _ _ z
    obtain ⟨fp',S',st,_⟩:=wr G1 (upd H1 b (.ins C dx (L2.gu f w fs))) (.oi q nm (cu f y.er ds)) [b] sm (.oi ⟨hh.1,hh.2.1,aZ⟩ (o4 hk) (qv k1 hk hr)) r.nd (λc m=>by
     rw [List.mem_singleton]at m;subst m;exact fb) ⟨aB.refl _,λc o z m=>by
      rw [az (λz=>m (by rw [z];exact Zf))]
      exact z,λc m=>.inl m,λ_ _ _ z=>z⟩
    exact py _ _ _ _ S' (d1.stp.trans st)
  ·rw [if_neg ht]at py
   exact py.elim
 ·exact py.elim
end
mutual
noncomputable def noD:PyData->Bool
 |.tuple ds=>oy ds
 |.list ds=>oy ds
 |.dict _=>false
 |.none=>true
 |.bool _=>true
 |.int _=>true
 |.str _=>true
noncomputable def oy:List PyData->Bool
 |[]=>true
 |d :: ds=>noD d && oy ds
end
noncomputable def GK:OD->Bool
 |.sh d=>noD d
 |_=>false
noncomputable def kG (i:Nat) (fa:Fe):Fe:=fun ρ=>match ρ[i]? with
 |some (some (.oi p nm ds))=>(fa (ρ.set i (some (.sh (jN nm ds))))).bind λy=>if GK y=true then .ok y else .bad
 |_=>.bad
section
variable {K:PySem.W.Frag} {F H:Hp} {f:List Addr}
noncomputable def Ins (F:Hp) (b:Addr):Prop:=∃C dx fs,F b=some (.ins C dx fs)
theorem Ab (hl:∀b∈f,Ins F b) {a:Addr} {xs:List V} (h:RdK K F a xs):RdK K (j0 F f) a xs:=by
 rcases h with h | h
 ·refine .inl ?_
  have go:∀o,F a=some o->(∀C dx fs,o≠.ins C dx fs)->j0 F f a=some o:=λo q nq=>by
   rw [eE λm=>by
    obtain ⟨C,dx,fs,z⟩:=hl a m;rw [q]at z;exact nq C dx fs (Zz z)]
   exact q
  rcases h with h | ⟨o,h⟩
  ·exact .inl (go _ h λC dx fs z=>by cases z)
  ·exact .inr ⟨o,go _ h λC dx fs z=>by cases z⟩
 ·exact .inr h
mutual
theorem qU (hl:∀b∈f,Ins F b) {v:V} {d:PyData}:Rep K F v d->noD d=true->Rep K (j0 F f) v d
 |.non,_=>.non
 |.bl b,_=>.bl b
 |.int i,_=>.int i
 |.str x,_=>.str x
 |.lst h1 h2,e=>by
  rw [noD]at e;exact .lst (Ab hl h1) (kT hl h2 e)
 |.dct _ _ _,e=>by unfold dD at e;rw [noD]at e;cases e
 |.ins _ _ _,e=>by unfold jN at e;rw [noD]at e;cases e
 |.tup (a:=a) h1 h2,e=>by
  rw [noD]at e;refine .tup ?_ (kT hl h2 e);rw [eE λm=>by
   obtain ⟨C,dx,fs,q⟩:=hl a m;rw [h1]at q;cases q]
  exact h1
theorem kT (hl:∀b∈f,Ins F b) {vs:List V} {ds:List PyData}:RepAll K F vs ds->oy ds=true->RepAll K (j0 F f) vs ds
 |.nil,_=>.nil
 |.cons h r,e=>by
  rw [oy,Zv]at e;exact .cons (qU hl h e.1) (kT hl r e.2)
end
theorem De {v:V} {p:Option Addr} {nm:Str} {ds:List (Str×PyData)} {g:List Addr} (h:Own K F H v (.oi p nm ds) g):∀b∈g,Ins H b:=by
 cases h with
 |@oi a C dx fs _ _ _ hh hk hr =>
  intro b m;rw [List.mem_singleton]at m;subst m;exact ⟨C,dx,fs,hh.2.2⟩
end
section
variable {M:Mx} {n:Nat} {σ:L2.St} {H:Hp} {Q:VK}
theorem C7 {fa:Fe} {i:Nat} (h:tD M n (kG i fa) σ H Q):tD M n fa σ H Q:=by
 obtain ⟨F,ρ,fp,S,p⟩:=h;unfold kG at p;split at p
 ·rename_i q nm ds e
  obtain ⟨v,f,g1,g2,h1,h2,rfl,h4⟩:=S.own.at e;have ff:∀a∈f,F a=none:=λa m=>S.fr a (Zq _ (Zw _ m))
  have o:=h4 (iN F H f) H (dI ff) (λ_ _ _ q=>q) v (.sh (OD.oi q nm ds).er) [] (.sh (h2.frz (dI ff) λa m o q=>by rw [gW m];exact q))
  rw [iQ h1,lK]at o;have nd:=S.nd;simp only [ZK,Zs]at nd;obtain ⟨n1,⟨n2,n3,n4⟩,n5⟩:=nd;have sub:∀a∈g1++([]++g2),a∈g1++(f++g2)/\a∉f:=λa m=>by
   simp only [List.nil_append,Zs]at m ⊢;rcases m with m | m
   ·exact ⟨.inl m,λz=>n5 a m a (.inl z) rfl⟩
   ·exact ⟨.inr (.inr m),λz=>n4 a z a m rfl⟩
  have hI:=De h2;have S1:Stt M.K n (iN F H f) H σ (ρ.set i (some (.sh (jN nm ds)))) (g1++([]++g2)) :=
   ⟨l9 S.same,o,by
    simp only [List.nil_append,ZK];exact ⟨n1,n3,λa m b m'=>n5 a m b (.inr m')⟩,λa m=>by
    rw [dO (sub a m).2];exact S.fr a (sub a m).1,by rw [ZJ];exact S.len⟩
  have st:Stp F H (g1++(f++g2)) (iN F H f) H (g1++([]++g2)):=⟨dI ff,λ_ _ h _=>h,λa m=>.inl (sub a m).1,λa h m z=>by
   rw [dO λw=>m (Zq _ (Zw _ w))]
   exact z⟩
  refine ⟨_,_,_,S1,((aw.bind p).stp st).mono λy py v1 F1 H1 fx e1 r1 w1=>?_⟩
  split at py
  ·rename_i hok
   cases y with
   |sh d =>
    obtain ⟨ro,rn,rf⟩:=r1;cases ro with
    |sh rr =>
     have hL1:∀b∈f,Ins F1 b:=λb m=>let ⟨C,dx,fs,q⟩:=hI b m;⟨C,dx,fs,e1.ff _ _ (by rw [gW m];exact q)⟩
     refine py v1 (j0 F1 f) H1 [] ⟨λb o hb=>?_,e1.hh,λb o hb=>?_,λb hb hn=>?_⟩ (Res.sh (qU hL1 rr hok)) (λ_ m=>by cases m)
     ·have:b∉f:=λm=>by
       rw [ff b m]at hb;cases hb
      rw [eE this];exact e1.ff _ _ (dI ff _ _ hb)
     ·by_cases m:b∈f
      ·rw [j6 m]at hb
       cases hb
      ·rw [eE m]at hb
       exact e1.fh _ _ hb
     ·by_cases m:b∈f
      ·exact j6 m
      ·rw [eE m]
       exact e1.nw b hb (by rw [dO m];exact hn)
   |ol _=>cases hok
   |ot _=>cases hok
   |od _=>cases hok
   |oi _ _ _=>cases hok
   |pl _ _=>cases hok
  ·exact py.elim
 ·exact p.elim
end
section
variable {M:Mx} {X:Cx} {e o:Expr} {pos apos p:Pos} {fa:Fe}
theorem sU (i:Nat) (h:DE M X e fa):DE M X e (kG i fa):=λhK hM=>peI (h hK hM) λ_ _ _ z=>C7 z
theorem gP {tb:Str->Bool} {f x:Str} {i:Nat} (hN:∀C nm,PySem.W.nsIn M.K mainGlobals nm=some (some (.ref C))->tb nm=true->Cls M.K C/\eu M.K C f) (hi:PE X (.Name x p) (d9 i)) (hb:attributeBase (.Name x p) f X.env (eval (.Name x p) X.env)=eval (.Name x p) X.env:=by rfl) :
  DE M X (.Attribute (.Name x p) f pos) (fj i tb f):=λhK hM=>by
 have q:=wF (pos:=pos) hi hb;rw [hK]at q;exact peI q λ_ _ _ z=>Di hN z
theorem iw {tb:Str->Bool} {f x:Str} {i:Nat} (hN:∀C nm,PySem.W.nsIn M.K mainGlobals nm=some (some (.ref C))->tb nm=true->Cls M.K C/\eu M.K C f) (hi:PE X (.Name x p) (d9 i)) (h:DE M X e fa)
  (hs:swapsWith e (some (.Attribute (.Name x p) f apos)) pos.line X.env=pure false:=by rfl):DS M X (.Assign [.Attribute (.Name x p) f apos] e pos) (jB i tb f fa):=λhK hM=>by
 have q:=Ej (pos:=pos) (pos':=apos) hi (h hK hM) hs;rw [hK]at q;exact psI q λ_ _ _ z=>BX hN z
end
end L3
namespace L3
open PySem L2 PySem.Spec PyProof.Rows
noncomputable abbrev Fb:=Env->R (Env×OD)
noncomputable def mH (n:Nat) (xs:List OD):Env:=xs.map some++List.replicate (n-xs.length) none
noncomputable def oN (M:Mx) (n:Nat) (F H:Hp) (fp:List Addr) (D:Ends) (r:Env×OD):Prop :=
 ∀v σ' F' H' fp' fy,Stt M.K n F' H' σ' r.1 fp'->Stp F H fp F' H' (fp'++fy)->Res M.K F' H' v r.2 fy->(∀a∈fy,a∉fp')->D.rt v H'
noncomputable def tBd (M:Mx) (n:Nat) (b:Fb):TS:=λD σ H=>∃F ρ fp,Stt M.K n F H σ ρ fp/\aw M H fp (oN M n F H fp D) (b ρ)
noncomputable def DB (M:Mx) (X:Cx) (c:Bool) (ss:List Stmt) (b:Fb):Prop:=X.K=M.K->X.mg=M.mg->∃T,PSs X ss T/\∀D:Ends,(c=true->∀σ H,D.rt .non H->D.nx σ H)->∀σ H,tBd M X.N.length b D σ H->T D σ H
noncomputable def bNx:Fb:=fun ρ=>.ok (ρ,.sh .none)
noncomputable def AY (a:Fe):Fb:=fun ρ=>(a ρ).bind λx=>.ok (ρ,x)
noncomputable def eS (s:Fs) (b:Fb):Fb:=fun ρ=>(s ρ).bind λo=>match o with
 |.nx ρ'=>b ρ'
 |_=>.bad
noncomputable def bIf (t:Ft) (b1 b2:Fb):Fb:=fun ρ=>(t ρ).bind λc=>if c=true then b1 ρ else b2 ρ
section
variable {M:Mx} {X:Cx} {n:Nat} {F H F1 H1:Hp} {fp fp1:List Addr} {D:Ends} {e c:Expr} {fa:Fe} {s:Fs} {t:Ft} {b b1 b2:Fb} {st:Stmt} {ss ss1 ss2:List Stmt} {pos:Pos} {f:Bool}
theorem oN.stp (s:Stp F H fp F1 H1 fp1) {r:Env×OD} (h:oN M n F H fp D r):oN M n F1 H1 fp1 D r:=λv σ' F' H' fp' fy a b c d=>h v σ' F' H' fp' fy a (s.trans b) c d
theorem PostBs.stp (s:Stp F H fp F1 H1 fp1) {r:R (Env×OD)} (h:aw M H fp (oN M n F H fp D) r):aw M H1 fp1 (oN M n F1 H1 fp1 D) r:=(h.stp s).mono λo ho=>ho.stp s
theorem mJ:DB M X true [] bNx:=λhK hM=>⟨_,l3,λD hD σ H h=>by
 obtain ⟨F,ρ,fp,S,p⟩:=h;refine hD rfl σ H (p .non σ F H fp [] S ?_ (Res.sh .non) (λ_ m=>by cases m))
 rw [Zx];exact Stp.refl⟩
theorem xo (h:DE M X e fa):DB M X f [.Return (some e) pos] (AY fa):=λhK hM=>⟨_,l_ (k_ (h hK hM)),λD hD σ H h=>by
 obtain ⟨F,ρ,fp,S,p⟩:=h;refine ⟨F,ρ,fp,S,(aw.bind p).mono λx px v F1 H1 fx e1 r1 w1=>?_⟩
 refine px v σ F1 H1 fp fx (S.ext e1) (e1.stpN w1) r1 λa m z=>?_
 obtain ⟨o,q⟩:=S.own.dom a z;rw [w1 a m]at q;cases q⟩
theorem cz (h1:DS M X st s) (h2:DB M X f ss b):DB M X f (st :: ss) (eS s b):=λhK hM=>by
 obtain ⟨T,hT,k⟩:=h2 hK hM;refine ⟨_,i8 (h1 hK hM) hT,λD hD σ H h=>?_⟩
 obtain ⟨F,ρ,fp,S,p⟩:=h;refine ⟨F,ρ,fp,S,(aw.bind p).mono λo po=>?_⟩
 cases o with
 |nx ρ1=>exact fun σ' F' H' fp' S' st=>k D hD σ' H' ⟨F',ρ1,fp',S',PostBs.stp st po⟩
 |bk ρ=>exact po.elim
 |ct ρ=>exact po.elim
 |rt x=>exact po.elim
theorem Ii (hc:DT M X c t) (h1:DB M X false ss1 b1) (h2:DB M X f ss2 b2):DB M X f (.If c ss1 [] pos :: ss2) (bIf t b1 b2):=λhK hM=>by
 obtain ⟨T1,hT1,k1⟩:=h1 hK hM;obtain ⟨T2,hT2,k2⟩:=h2 hK hM;refine ⟨_,i8 (tK (hc hK hM) hT1 l3) hT2,λD hD σ H h=>?_⟩
 obtain ⟨F,ρ,fp,S,p⟩:=h;refine ⟨F,ρ,fp,S,(aw.bind p).mono λc pc F1 H1 e1=>?_⟩
 cases c with
 |true =>
  rw [if_pos rfl]at pc ⊢;exact k1 _ (λz=>by cases z) σ H1 ⟨F1,ρ,fp,S.ext e1,PostBs.stp e1.stp pc⟩
 |false =>
  rw [if_neg Zm]at pc ⊢;exact k2 D hD σ H1 ⟨F1,ρ,fp,S.ext e1,PostBs.stp e1.stp pc⟩
end
noncomputable def spP (K:PySem.W.Frag) (np n:Nat) (b:Fb):Sp:=λvs H Q _=>∃F xs f,aB F H/\ResL K F H vs xs f/\xs.length=np/\∃r,b (mH n xs)=.ok r /\
 ∀v σ' F' H' fp' fy,Stt K n F' H' σ' r.1 fp'->Stp F H f F' H' (fp'++fy)->Res K F' H' v r.2 fy->(∀a∈fy,a∉fp')->Q v H'
theorem mi {K:PySem.W.Frag} {F H:Hp} (m:Nat):∀{vs:List V} {xs:List OD} {f:List Addr},OwnL K F H vs xs f->OwnS K F H (vs.map some++List.replicate m none) (xs.map some++List.replicate m none) f
 |_,_,_,.nil=>by
  rw [List.map_nil,List.map_nil,List.nil_append,List.nil_append]
  induction m with
  |zero=>exact .nil
  |succ m ih=>exact .no ih
 |_,_,_,.cons h r=>.yes h (mi m r)
theorem fnP {P:Program} {w:World} {K:PySem.W.Frag} {mg:Str->Option Value} {base:Heap} {x qual:Str} {st:Stmt} {f:Addr} {fd:FuncData} {N ps:List Str} {k np n:Nat} {b:Fb} (hp:ps.length=np) (hn:N.length=n) (F:Fun K x qual st f fd) (S:FnScope N ps (aj st))
  (h:∀(cdv:Value) (A:Around) (outer:List PySem.Env) (s:Shared) (H:Hp) (E:XK),Room k (A.deeper (envOfC qual (aj st) s.heap.objs.size f cdv))->DB ⟨K,mg,E⟩ (nN CX0 P w K mg base N qual (aj st) f cdv A outer s H E).nox true (aI st) b) :
  FnOk P w K mg base CX0 (k+1) f fd ps (spP K np n b):=by
 subst hp hn;have hpl:ps.length<=N.length:=by
  have:=congrArg List.length S.pre;rw [ZE]at this
  lia
 have hlen:∀vs H Q E,spP K ps.length N.length b vs H Q E->vs.length=ps.length:=by
  rintro vs H Q E ⟨F,xs,g,sm,ra,hl,_⟩;rw [ra.own.len,hl]
 refine F.ok S hlen λcdv A outer s H vs Q E hr hs=>?_
 have hvl:=hlen _ _ _ _ hs;obtain ⟨F0,xs,g,sm,ra,hl,r,hb,q⟩:=hs;obtain ⟨T,hT,k0⟩:=h cdv A outer s H E hr rfl rfl;refine ⟨T,hT,k0 _ (λ_ σ H z=>z) _ H ⟨F0,mH N.length xs,g,⟨sm,?_,ra.nd,ra.fr,?_⟩,?_⟩⟩
 ·unfold L2.start mH
  rw [hvl,hl];exact mi _ ra.own
 ·unfold mH
  rw [Zd,Zc,List.length_replicate,hl];show ps.length+(N.length-ps.length)=N.length
  lia
 ·show aw _ _ _ _ (b (mH N.length xs))
  rw [hb];exact q
noncomputable def oo (a:Addr):OD->OD
 |.oi _ nm ds=>.oi (some a) nm ds
 |.ol xs=>.pl a xs
 |x=>x
noncomputable def free:OD->Bool
 |.oi none _ _=>true
 |.ol _=>true
 |_=>false
noncomputable def Bt:OD->Option OD
 |.oi _ nm ds=>some (.oi none nm ds)
 |.ol xs=>some (.ol xs)
 |.pl _ xs=>some (.ol xs)
 |_=>none
noncomputable def nB:OD->OD->OD
 |.oi p _ _,.oi _ nm ds=>.oi p nm ds
 |.pl a _,.ol xs=>.pl a xs
 |_,x=>x
theorem rH {a:Addr} {x y:OD} (hx:free x=true) (hy:free y=true) (h:oo a x=oo a y):x=y:=by
 cases x with
 |oi p nm ds =>
  cases p with
  |some _=>cases hx
  |none =>
   cases y with
   |oi q nm' ds' =>
    cases q with
    |some _=>cases hy
    |none=>cases h;rfl
   |ol _=>cases h
   |_=>cases hy
 |ol xs =>
  cases y with
  |oi q nm' ds'=>cases h
  |ol _=>cases h;rfl
  |_=>cases hy
 |_=>cases hx
section
variable {K:PySem.W.Frag} {F H:Hp}
theorem uq {v:V} {x x0:OD} {f:List Addr} (h:Own K F H v x f) (e:Bt x=some x0):∃a,v=.ref a/\free x0=true/\Own K F H v (oo a x0) f/\∀y F' H' g,free y=true->Own K F' H' v (oo a y) g->(∃nm ds nm' ds',x0=.oi none nm ds/\y=.oi none nm' ds')\/(∃xs ys,x0=.ol xs/\y=.ol ys)->Own K F' H' v (nB x y) g:=by
 cases h with
 |sh _=>cases e
 |ot _ _=>cases e
 |od _ _ _=>cases e
 |@oi a C dx fs p nm ds hh hk hr =>
  cases e;refine ⟨a,rfl,rfl,.oi ⟨λb z=>(Zz z).symm,hh.2⟩ hk hr,λy F' H' g hy o z=>?_⟩
  rcases z with ⟨nm',ds',nm2,ds2,_,rfl⟩ | ⟨xs,ys,z,_⟩
  ·cases o with
   |oi hh' hk' hr'=>exact .oi ⟨hh.1,hh'.2⟩ hk' hr'
  ·cases z
 |@ol a vs xs g ha hv =>
  cases e;refine ⟨a,rfl,rfl,.pl ha hv,λy F' H' g hy o z=>?_⟩
  rcases z with ⟨nm',ds',nm2,ds2,z,_⟩ | ⟨xs,ys,_,rfl⟩
  ·cases z
  ·cases o with
   |pl h1 h2=>exact .ol h1 h2
 |@pl a vs xs g ha hv =>
  cases e;refine ⟨a,rfl,rfl,.pl ha hv,λy F' H' g hy o z=>?_⟩
  rcases z with ⟨nm',ds',nm2,ds2,z,_⟩ | ⟨xs,ys,_,rfl⟩
  ·cases z
  ·cases o with
   |pl h1 h2=>exact .pl h1 h2
theorem ui {v:V} {a:Addr} {y:OD} {f:List Addr} (hy:free y=true) (h:Own K F H v (oo a y) f):v=.ref a:=by
 cases y with
 |oi p nm ds =>
  cases h with
  |oi hh _ _=>rw [hh.1 a rfl]
 |ol xs =>
  cases h with
  |pl _ _=>rfl
 |_=>cases hy
end
noncomputable def xg:OD->OD->Bool
 |.oi none _ _,.oi none _ _=>true
 |.ol _,.ol _=>true
 |_,_=>false
theorem jO {x y:OD} (h:xg x y=true):(∃nm ds nm' ds',x=.oi none nm ds/\y=.oi none nm' ds')\/(∃xs ys,x=.ol xs/\y=.ol ys):=by
 unfold xg at h;split at h
 ·exact .inl ⟨_,_,_,_,rfl,rfl⟩
 ·exact .inr ⟨_,_,rfl,rfl⟩
 ·cases h
theorem eU {x y:OD} (h:xg x y=true):free y=true:=by
 rcases jO h with ⟨_,_,_,_,_,rfl⟩ | ⟨_,_,_,rfl⟩ <;> rfl
noncomputable def c8 (n:Nat) (b:Fb) (x0:OD) (ys:List PyData) (r:OD×OD):Prop:=xg x0 r.1=true/\∀a,∃ρ',b (mH n (oo a x0 :: ys.map OD.sh))=.ok (ρ',r.2)/\ρ'[0]?=some (some (oo a r.1))
open Classical in
noncomputable def iR (n:Nat) (b:Fb) (x0:OD) (ys:List PyData):R (OD×OD):=if h:∃r,c8 n b x0 ys r then .ok h.choose else .bad
theorem sF {n:Nat} {b:Fb} {x0:OD} {ys:List PyData} {r:OD×OD} (h:iR n b x0 ys=.ok r):c8 n b x0 ys r:=by
 unfold iR at h;split at h
 ·rename_i hx
  cases h;exact hx.choose_spec
 ·cases h
theorem wA {n:Nat} {b:Fb} {x0:OD} {ys:List PyData} {c:Str}:iR n b x0 ys≠.ex c:=by
 unfold iR;split
 ·intro z;cases z
 ·intro z;cases z
theorem qV {n:Nat} {b:Fb} {x0:OD} {ys:List PyData} {r:OD×OD} (h:c8 n b x0 ys r):iR n b x0 ys=.ok r:=by
 have hx:∃r,c8 n b x0 ys r:=⟨r,h⟩;unfold iR;rw [dif_pos hx];have s:=hx.choose_spec;obtain ⟨ρ1,e1,q1⟩:=s.2 0;obtain ⟨ρ2,e2,q2⟩:=h.2 0;rw [e1]at e2;have e3:=R.ok.inj e2;have e4:ρ1=ρ2:=(Prod.mk.inj e3).1;have e5:hx.choose.2=r.2:=(Prod.mk.inj e3).2;rw [e4,q2]at q1;have e6:=rH (eU h.1) (eU s.1) (Zz (Zz q1));exact congrArg R.ok (Prod.ext e6.symm e5)
noncomputable def nQ (n i:Nat) (b:Fb) (al:Fa) (ρ:Env):R (Env×OD):=match ρ[i]? with
 |some (some x)=>match Bt x with
  |some x0=>(al ρ).bind λys=>(iR n b x0 (ys.map OD.er)).bind λr=>.ok (ρ.set i (some (nB x r.1)),r.2)
  |none=>.bad
 |_=>.bad
noncomputable def gi (n i:Nat) (b:Fb) (al:Fa):Fs:=fun ρ=>(nQ n i b al ρ).bind λr=>.ok (.nx r.1)
noncomputable def ik (nm m:Str) (n i:Nat) (b:Fb) (al:Fa):Fs:=fun ρ=>match ρ[i]? with
 |some (some (.oi _ nm' ds))=>if nm'=nm/\df m (ds.map λq=>(.tuple [.str q.1],q.2))=none then gi n i b al ρ else .bad
 |_=>.bad
section
variable {M:Mx} {n' n:Nat} {σ:L2.St} {H:Hp} {D:Ends} {Q:VK}
theorem mG {i np:Nat} {b:Fb} {al:Fa} {F:Hp} {ρ:Env} {fp:List Addr} {P:Env×OD->Prop} (S:Stt M.K n F H σ ρ fp) (p:aw M H fp P (nQ n' i b al ρ))
  (hP:∀r,P r->∀v F' H' fp' fy,Stt M.K n F' H' σ r.1 fp'->Stp F H fp F' H' (fp'++fy)->Res M.K F' H' v r.2 fy->(∀a∈fy,a∉fp')->Q v H')
  (hl:∀ys,al ρ=.ok ys->ys.length+1=np) :
  ∃a,σ[i]?=some (some (.ref a))/\tA M n al σ H λvs H2=>spP M.K np n' b (.ref a :: vs) H2 Q M.E:=by
 unfold nQ at p;split at p
 ·rename_i x e
  split at p
  ·rename_i x0 hu
   obtain ⟨v,f,h1,r0,sub,wr⟩:=S.swap e;obtain ⟨a,rfl,hfree,hpin,hre⟩:=uq r0.own hu;refine ⟨a,h1,F,ρ,fp,S,?_⟩;have hl':=hl;cases ha:al ρ with
   |bad=>rw [ha]at p;exact p.elim
   |ex c=>rw [ha]at p;exact p
   |ok ys =>
    rw [ha]at p;have hy:=hl ys ha;intro vs F1 H1 fx e1 r1 w1;obtain ⟨G1,d1,k1⟩:=r1.frz e1 w1;obtain ⟨v2,f2,h2,r2,sub2,wr2⟩:=(S.ext d1).swap e;rw [h1]at h2;cases h2;have p':aw M H fp P ((iR n' b x0 (ys.map OD.er)).bind λr=>.ok (ρ.set i (some (nB x r.1)),r.2)):=p
    cases hc:iR n' b x0 (ys.map OD.er) with
    |bad=>rw [hc]at p';exact p'.elim
    |ex c=>exact absurd hc wA
    |ok r =>
     rw [hc]at p';have pr:P (ρ.set i (some (nB x r.1)),r.2):=p';obtain ⟨hlk,hrun⟩:=sF hc;obtain ⟨ρ',hb,hρ⟩:=hrun a;obtain ⟨a2,q2,_,hpin2,hre2⟩:=uq r2.own hu;cases q2;refine ⟨G1,oo a x0 :: (ys.map OD.er).map OD.sh,f2,d1.fh,⟨?_,r2.nd,r2.fr⟩,by rw [Zr,Zc,Zc];exact hy,_,hb,?_⟩
     ·have:=OwnL.cons hpin2 (OwnL.shs (H:=H1) k1)
      rw [Zx]at this;exact this
     ·intro v' σ' F' H' fp' fy S' st' ry dis
      obtain ⟨v3,f3,h3,r3,sub3,_⟩:=S'.swap hρ;have hv3:=ui (eU hlk) r3.own;subst hv3;have o3:=hre2 r.1 F' H' f3 (eU hlk) r3.own (jO hlk);have st3:Stp G1 H1 f2 F' H' f3:=st'.sub λc m=>Zw _ (sub3 c m)
      obtain ⟨fp2,S2,st2,sub4⟩:=wr2 F' H' (nB x r.1) f3 S'.same o3 r3.nd r3.fr st3;have st4:=d1.stp.trans st2;refine hP _ pr v' F' H' fp2 fy S2 ⟨st4.ff,st4.keep,λc m=>?_,st4.nw⟩ ry λc m z=>?_
      ·rcases Zs.mp m with m | m
       ·exact st4.new c m
       ·rcases st'.new c (Zq _ m) with w | w
        ·exact .inl (sub2 c w)
        ·exact .inr (d1.hh.free w)
      ·rcases sub4 c z with ⟨z1,z2⟩ | z
       ·rcases st'.new c (Zq _ m) with w | w
        ·exact z2 w
        ·obtain ⟨o,q⟩:=(S.ext d1).own.dom c z1
         rw [w]at q;cases q
       ·exact dis c m (sub3 c z)
  ·exact p.elim
 ·exact p.elim
theorem AH {i np:Nat} {b:Fb} {al:Fa} (hl:∀ρ ys,al ρ=.ok ys->ys.length+1=np) (h:tS M n (gi n' i b al) D σ H):jb (mI (spP M.K np n' b) [] M.E (fv (d9 i) (tA M n al))) D σ H:=by
 obtain ⟨F,ρ,fp,S,p⟩:=h;obtain ⟨a,h1,h2⟩:=mG (np:=np) (Q:=λ_ H1=>D.nx σ H1) S (aw.bind p) (λr pr v F' H' fp' fy S' st ry _=>pr σ F' H' fp' S' (st.sub λc m=>Zw _ m)) (hl ρ)
 refine ⟨.ref a,h1,?_⟩;obtain ⟨F2,ρ2,fp2,S2,p2⟩:=h2;refine ⟨F2,ρ2,fp2,S2,p2.mono λxs px vs F1 H1 fx e1 r1 w1=>?_⟩
 have:=px vs F1 H1 fx e1 r1 w1;show spP M.K np n' b ((V.ref a :: vs)++[]) H1 (λx H1=>D.nx σ H1) M.E
 rw [Zx];exact this
theorem zG {ok:Addr->Addr->Sp->Prop} {nm m:Str} {i np:Nat} {b:Fb} {al:Fa} (hl:∀ρ ys,al ρ=.ok ys->ys.length+1=np)
  (hT:∀C,PySem.W.nsIn M.K mainGlobals nm=some (some (.ref C))->∃f,ok C f (spP M.K np n' b))
  (h:tS M n (ik nm m n' i b al) D σ H):jb (pE ok m M.E (d9 i) (tA M n al)) D σ H:=by
 obtain ⟨F,ρ,fp,S,p⟩:=h;unfold ik at p;split at p
 ·rename_i q nm' ds e
  split at p
  ·rename_i hc
   obtain ⟨hn,hfld⟩:=hc;subst hn;obtain ⟨v,f,h1,r,_,_⟩:=S.swap e;have ro:=r.own;cases ro with
   |@oi a C dx fs _ _ _ hh hk hr =>
    obtain ⟨fa,hok⟩:=hT C hh.2.1;obtain ⟨a',h1',h2⟩:=mG (np:=np) (Q:=λ_ H1=>D.nx σ H1) S (aw.bind p) (λr pr v F' H' fp' fy S' st ry _=>pr σ F' H' fp' S' (st.sub λc m=>Zw _ m)) (hl ρ)
    rw [h1]at h1';cases h1';exact ⟨.ref a,h1,a,C,dx,fs,fa,_,rfl,hh.2.2,hok,nS hk hfld,h2⟩
  ·exact p.elim
 ·exact p.elim
end
section
variable {K:PySem.W.Frag} {F H:Hp}
theorem vQ {v:V} {a:Addr} {y:OD} {f:List Addr} (hy:free y=true) (h:Own K F H v (oo a y) f):Own K F H v y f:=by
 cases y with
 |oi p nm ds =>
  cases p with
  |some _=>cases hy
  |none =>
   cases h with
   |oi hh h1 h2=>exact .oi ⟨(λ_ z=>by cases z),hh.2⟩ h1 h2
 |ol xs =>
  cases h with
  |pl h1 h2=>exact .ol h1 h2
 |_=>cases hy
end
noncomputable def lO (n i:Nat) (b:Fb) (al:Fa) (w:Nat) (s1 s2:Fs):Fs:=fun ρ=>(nQ n i b al ρ).bind λr=>match r.2,r.1[w]? with
 |.sh (.int k),some (some (.sh (.int k')))=>if k≠k' then s1 r.1 else s2 r.1
 |_,_=>.bad
noncomputable def kY (fa fb:Fe):Fs:=fun ρ=>(fa (erase ρ)).bind λx=>match x with
 |.ol xs=>if xs.length<BIG then (fb (erase ρ)).bind λ_=>.ok (.nx ρ) else .bad
 |_=>.bad
noncomputable def ij (fa:Fe):Fs:=fun ρ=>(fa (erase ρ)).bind λx=>match x with
 |.ol xs=>.ok (.nx ρ)
 |_=>.bad
noncomputable def nG (i c:Nat) (k a:Fe):Fs:=fun ρ=>(a ρ).bind λy=>match ρ[i]? with
 |some (some (.pl l xs))=>(match xs[c]? with
  |some (.ol ys)=>(match shs ys with
   |some ds=>(k ρ).bind λz=>match z.er with
    |.int q=>(match ixN ds.length q with
     |some j=>.ok (.nx (ρ.set i (some (.pl l (xs.set c (.ol ((ds.set j y.er).map OD.sh)))))))
     |none=>.bad)
    |_=>.bad
   |none=>.bad)
  |_=>.bad)
 |_=>.bad
theorem RepAll.set {K:PySem.W.Frag} {F:Hp} {v:V} {d:PyData} (r:Rep K F v d):∀{vs:List V} {ds:List PyData} (j:Nat),RepAll K F vs ds->RepAll K F (vs.set j v) (ds.set j d)
 |_,_,_,.nil=>.nil
 |_,_,0,.cons _ q=>.cons r q
 |_,_,j+1,.cons h q=>.cons h (RepAll.set r j q)
section
variable {M:Mx} {n' n:Nat} {σ:L2.St} {H:Hp} {D:Ends} {Q:VK}
theorem Dg {i np w:Nat} {b:Fb} {al:Fa} {s1 s2:Fs} (hl:∀ρ ys,al ρ=.ok ys->ys.length+1=np) (h:tS M n (lO n' i b al w s1 s2) D σ H) :
  xp (qM (tOp rNe (mI (spP M.K np n' b) [] M.E (fv (d9 i) (tA M n al))) (d9 w))) (tS M n s1) (tS M n s2) D σ H:=by
 obtain ⟨F,ρ,fp,S,p⟩:=h;obtain ⟨a,h1,h2⟩:=mG (np:=np) (Q:=λv H1=>d9 w σ H1 λy H2=>rNe v y H2 λx H3=>∃k,x=.bl k/\if k=true then tS M n s1 D σ H3 else tS M n s2 D σ H3) S (aw.bind p) (λr pr v F' H' fp' fy S' st ry _=>by
  have st':Stp F H fp F' H' fp':=st.sub λc m=>Zw _ m
  obtain ⟨ρ1,x1⟩:=r;split at pr
  ·rename_i k k' e1 e2
   have e1:x1=.sh (.int k):=e1;subst e1;have ro:=ry.own;cases ro with
   |sh rr =>
    cases rr;obtain ⟨u,_,_,_,q1,q2,_,_⟩:=S'.own.at e2;cases q2 with
    |sh q2 =>
     cases q2;refine ⟨_,q1,rfl,_,rfl,?_⟩;have ed:(!decide (V.int k=V.int k'))=decide (k≠k'):=by
      by_cases z:k=k'
      ·subst z;simp
      ·have:¬V.int k=V.int k':=λq=>z (by injection q)
       simp [z,this]
     rw [ed];by_cases z:k≠k'
     ·rw [if_pos (decide_eq_true z)]
      rw [if_pos z]at pr;exact ⟨F',ρ1,fp',S',PostS.stp st' pr⟩
     ·rw [if_neg (by rw [decide_eq_false z];exact Zm)]
      rw [if_neg z]at pr;exact ⟨F',ρ1,fp',S',PostS.stp st' pr⟩
  ·exact pr.elim) (hl ρ)
 refine ⟨.ref a,h1,?_⟩;obtain ⟨F2,ρ2,fp2,S2,p2⟩:=h2;refine ⟨F2,ρ2,fp2,S2,p2.mono λxs px vs F1 H1 fx e1 r1 w1=>?_⟩
 have:=px vs F1 H1 fx e1 r1 w1;show spP M.K np n' b ((V.ref a :: vs)++[]) H1 _ M.E
 rw [Zx];exact this
theorem qK {v:V} {xs:List OD} {F1 H1:Hp} {fx:List Addr} (r:Res M.K F1 H1 v (.ol xs) fx) (w:∀a∈fx,H a=none):∃a vs,v=.ref a/\H1 a=some (.lst vs)/\H a=none/\vs.length=xs.length:=by
 have ro:=r.own;cases ro with
 |@ol a vs _ f ha hv=>exact ⟨a,vs,rfl,ha,w a Zf,hv.len⟩
theorem AR {fa fb:Fe} (h:tS M n (kY fa fb) D σ H):jb (tBM M.K "list" l7 (tD M n fa) (fv (tD M n fb) nT)) D σ H:=by
 obtain ⟨F,ρ,fp,S,p⟩:=h;refine ⟨H,erase ρ,[],S.erase,(aw.bind p).nofp.mono λx px v F1 H1 fx e1 r1 w1=>?_⟩
 split at px
 ·rename_i xs
  by_cases hlt:xs.length<BIG
  ·rw [if_pos hlt]at px
   obtain ⟨a,vs,rfl,ha,hf,hlen⟩:=qK r1 w1;refine ⟨.inl ⟨rfl,vs,SqL.of ha⟩,F1,erase ρ,[],S.erase.ext e1,((aw.bind px).nofp.ext e1).mono λy py u F2 H2 fy e2 r2 w2=>?_⟩
   have e12:=e1.trans e2;refine ⟨a,vs,u,rfl,rfl,e2.hh _ _ ha,?_,?_⟩
   ·rw [hlen]
    have:BIG<=sizeLine:=by decide
    lia
   ·have E:Ext F H F (upd H2 a (.lst (vs++[u]))):=by
     have hh:aB H (upd H2 a (.lst (vs++[u]))):=λb o q=>by
      have:b≠a:=by rintro rfl;rw [hf]at q;cases q
      rw [az this];exact e12.hh _ _ q
     exact ⟨aB.refl _,hh,S.same.trans hh,λ_ _ z=>z⟩
    exact py σ F _ fp (S.ext E) E.stp
  ·rw [if_neg hlt]at px
   exact px.elim
 ·exact px.elim
theorem AU {fa:Fe} (h:tS M n (ij fa) D σ H):jb (w_ M.K "list" rM (tD M n fa)) D σ H:=by
 obtain ⟨F,ρ,fp,S,p⟩:=h;refine ⟨H,erase ρ,[],S.erase,(aw.bind p).nofp.mono λx px v F1 H1 fx e1 r1 w1=>?_⟩
 split at px
 ·obtain ⟨a,vs,rfl,ha,hf,hlen⟩:=qK r1 w1
  refine ⟨.inl ⟨rfl,vs,SqL.of ha⟩,a,vs,rfl,rfl,ha,?_⟩;have E:Ext F H F (upd H1 a (.lst [])):=by
   have hh:aB H (upd H1 a (.lst [])):=λb o q=>by
    have:b≠a:=by rintro rfl;rw [hf]at q;cases q
    rw [az this];exact e1.hh _ _ q
   exact ⟨aB.refl _,hh,S.same.trans hh,λ_ _ z=>z⟩
  exact px σ F _ fp (S.ext E) E.stp
 ·exact px.elim
theorem Stt.nest {F:Hp} {ρ:Env} {fp:List Addr} (S:Stt M.K n F H σ ρ fp) {i c:Nat} {l:Addr} {xs:List OD} {ds:List PyData} (hx:ρ[i]?=some (some (.pl l xs))) {ys:List OD} (hc:xs[c]?=some (.ol ys)) (hd:shs ys=some ds) :
  ∃vs b ws,σ[i]?=some (some (.ref l))/\H l=some (.lst vs)/\vs.length=xs.length/\vs[c]?=some (.ref b)/\H b=some (.lst ws)/\RepAll M.K F ws ds/\b≠l /\
   ∀ws' ds',RepAll M.K F ws' ds'->∃fp',Stt M.K n F (upd H b (.lst ws')) σ (ρ.set i (some (.pl l (xs.set c (.ol (ds'.map OD.sh)))))) fp'/\Stp F H fp F (upd H b (.lst ws')) fp':=by
 obtain ⟨v,f,h1,r,sub,wr⟩:=S.swap hx;have ro:=r.own;cases ro with
 |@pl _ vs _ g ha hv =>
  obtain ⟨u,f1,k1,k2,b1,b2,b3,b4⟩:=hv.at hc;cases b2 with
  |@ol b ws _ f2 hb hw =>
   obtain ⟨rfl,ra⟩:=OwnL.of_shs hw hd;subst b3;have nd:=r.nd;simp only [List.nodup_cons,ZK,Zs,Zo,List.not_mem_nil,or_false]at nd;have bl:b≠l:=λz=>nd.1 (.inr (.inl z.symm))
   refine ⟨vs,b,ws,h1,ha,hv.len,b1,hb,ra,bl,λws' ds' ra'=>?_⟩
   have fb:F b=none:=r.fr b (by simp)
   have o:=b4 F (upd H b (.lst ws')) (aB.refl _) (λa m o q=>by
    have:a≠b:=by
     rintro rfl;rcases Zs.mp m with m | m
     ·exact nd.2.2.2 a m a (.inl rfl) rfl
     ·exact nd.2.2.1.2.2 a rfl a m rfl
    rw [az this];exact q) (.ref b) (.ol (ds'.map OD.sh)) [b] (.ol aZ (OwnL.shs ra'))
   have hset:vs.set c (.ref b)=vs:=by
    apply List.ext_getElem?
    intro j;by_cases hj:c=j
    ·subst hj
     rw [b1,List.getElem?_set_self (Zb.mp b1).1]
    ·rw [List.getElem?_set_ne hj]
   rw [hset]at o;obtain ⟨fp',S',st,_⟩:=wr F (upd H b (.lst ws')) (.pl l (xs.set c (.ol (ds'.map OD.sh)))) (l :: (k1++([b]++k2))) (λa o q=>by
    rw [az (aU q fb)];exact S.same a o q) (.pl (by rw [az (Ne.symm bl)];exact ha) o) (by simpa using r.nd) (λa m=>r.fr a (by simpa using m)) ⟨aB.refl _,λa o q m=>by
     rw [az (λz=>m (by rw [z];simp))]
     exact q,λa m=>.inl (by simpa using m),λ_ _ _ z=>z⟩
   exact ⟨fp',S',st⟩
theorem Ai {i c:Nat} {k a:Fe} (h:tS M n (nG i c k a) D σ H):pQ (tD M n a) (CT (tOp (yx M.K) (d9 i) (tC (.int (c:Int)))) (tD M n k) yX) D σ H:=by
 obtain ⟨F,ρ,fp,S,p⟩:=h;refine ⟨F,ρ,fp,S,(aw.bind p).mono λy py v F1 H1 fy e1 r1 w1=>?_⟩
 obtain ⟨G1,d1,k1⟩:=r1.frz e1 w1;split at py
 ·rename_i l xs e
  split at py
  ·rename_i ys hy
   split at py
   ·rename_i ds hd
    obtain ⟨vs,b,ws,h1,h2,h3,h4,h5,h6,h7,_⟩:=(S.ext d1).nest e hy hd;refine ⟨_,h1,l,vs,(c:Int),.ref b,rfl,rfl,SqL.of h2,dj h4,?_⟩;refine ⟨G1,ρ,fp,S.ext d1,((aw.bind py).ext d1).mono λz pz u F2 H2 fz e2 r2 w2=>?_⟩
    obtain ⟨G2,d2,k2⟩:=r2.frz e2 w2;generalize z.er=dz at pz k2
    cases dz with
    |int q =>
     cases k2;have pz':aw M H fp (eG M n F H fp D) (match ixN ds.length q with
      |some j=>.ok (.nx (ρ.set i (some (.pl l (xs.set c (.ol ((ds.set j y.er).map OD.sh)))))))
      |none=>.bad):=pz
     cases hj:ixN ds.length q with
     |none=>rw [hj]at pz';exact pz'.elim
     |some j =>
      rw [hj]at pz';have d12:=d1.trans d2;obtain ⟨vs',b',ws',h1',h2',h3',h4',h5',h6',h7',wr⟩:=(S.ext d12).nest e hy hd;have eb:b'=b:=by
       have q1:=d2.hh _ _ h2;rw [h2']at q1;cases q1;rw [h4']at h4;injection h4 with h4
       injection h4
      subst eb;refine ⟨b',ws',q,j,rfl,rfl,h5',by rw [RepAll.len h6'];exact hj,?_⟩
      obtain ⟨fp',S',st⟩:=wr (ws'.set j v) (ds.set j y.er) (RepAll.set (k1.same d2.ff) j h6');exact pz' σ G2 _ fp' S' (d12.stp.trans st)
    |none=>exact pz.elim
    |bool _=>exact pz.elim
    |str _=>exact pz.elim
    |list _=>exact pz.elim
    |tuple _=>exact pz.elim
    |dict _=>exact pz.elim
   ·exact py.elim
  ·exact py.elim
 ·exact py.elim
end
noncomputable def AL (al:Fa) (k:Nat):Prop:=∀ρ ys,al ρ=.ok ys->ys.length=k
theorem iV:AL au 0:=λ_ _ h=>by cases h;rfl
theorem eO {a:Fe} {r:Fa} {k:Nat} (h:AL r k):AL (ag a r) (k+1):=fun ρ ys e=>by
 unfold ag at e;cases ha:a ρ with
 |bad=>rw [ha]at e;cases e
 |ex c=>rw [ha]at e;cases e
 |ok x =>
  rw [ha]at e;cases hr:r ρ with
  |bad=>rw [aV,hr]at e;cases e
  |ex c=>rw [aV,hr]at e;cases e
  |ok xs =>
   rw [aV,hr]at e;cases e;rw [Zr,h ρ xs hr]
section
variable {M:Mx} {X:Cx} {e o:Expr} {es:List Expr} {pos apos cpos p pp px:Pos} {fa fb:Fe} {al:Fa} {nm x w:Str} {i j m n':Nat} {b:Fb} {CX:CXT} {k:Nat} {g:Addr} {fd:FuncData} {ps:List Str}
theorem xH (G:FnOk X.prog X.w M.K M.mg X.base CX k g fd ps (spP M.K (m+1) n' b)) (hr:Room k X.A) (hg:Gl X nm) (hm:M.mg nm=some (.ref g)) (hk:PySem.W.keepIn M.K (.ref g)=true)
  (hb:Binds M.K fd ps []) (hx:Passes CX X M.E) (v:PE X (.Name x px) (d9 i)) (ha:DA M X es al) (hK:X.K=M.K) (hM:X.mg=M.mg)
  (hdb:(nm == ("__debug__" : Str))=false) (he:starEach (.Name x px :: es) X.env=(false,eval (.Name x px) X.env) :: starEach es X.env) (hpl:(backTo cpos (starEach es X.env)).any (·.1)=false) :
  PE X (.Call (.Name nm pp) (.Name x px :: es) [] cpos) (mI (spP M.K (m+1) n' b) [] M.E (fv (d9 i) (tA M X.N.length al))):=by
 have G':FnOk X.prog X.w X.K X.mg X.base CX k g fd ps (spP M.K (m+1) n' b):=by
  rw [hK,hM];exact G
 exact qj (ds:=[]) (dvs:=[]) G' hr hg (by rw [hM];exact hm) (by rw [hK];exact hk) (by rw [hK];exact hb) .nil hx (b5 v (ha hK hM) he) hdb he hpl
theorem rj (G:FnOk X.prog X.w M.K M.mg X.base CX k g fd ps (spP M.K (m+1) n' b)) (hr:Room k X.A) (hg:Gl X nm) (hm:M.mg nm=some (.ref g)) (hk:PySem.W.keepIn M.K (.ref g)=true)
  (hb:Binds M.K fd ps []) (hx:Passes CX X M.E) (v:PE X (.Name x px) (d9 i)) (ha:DA M X es al) (hA:AL al m)
  (hdb:(nm == ("__debug__" : Str))=false:=by decide) (he:starEach (.Name x px :: es) X.env=(false,eval (.Name x px) X.env) :: starEach es X.env:=by rfl) (hpl:(backTo cpos (starEach es X.env)).any (·.1)=false:=by rfl)
  (hs:swapsWith (.Call (.Name nm pp) (.Name x px :: es) [] cpos) none pos.line X.env=pure false:=by rfl) :
  DS M X (.Expr (.Call (.Name nm pp) (.Name x px :: es) [] cpos) pos) (gi n' i b al):=λhK hM =>
 psI (kQ (xH G hr hg hm hk hb hx v ha hK hM hdb he hpl) hs) λ_ _ _ z=>AH (fun ρ ys q=>by rw [hA ρ ys q]) z
theorem kA {mt:Str} {pl:Sem Bool} (hT:∀C,PySem.W.nsIn M.K mainGlobals nm=some (some (.ref C))->∃f,HasM X.prog X.w M.K M.mg X.base CX k mt C f (spP M.K (m+1) n' b)) (hr:Room k X.A) (hx:Passes CX X M.E)
  (v:PE X (.Name x px) (d9 i)) (ha:DA M X (e :: es) al) (hA:AL al m)
  (hst:starEach (e :: es) X.env=(false,eval e X.env) :: starEach es X.env:=by rfl) (hpl:(backTo cpos (starEach es X.env)).any (·.1)=false:=by rfl)
  (ht:eval (.Call (.Attribute (.Name x px) mt apos) (e :: es) [] cpos) X.env=(do
   let ov <-eval (.Name x px) X.env
   standAt apos.atName
   let (f,first) <-holding [ov] (getMethod ov mt pl)
   callWith cpos f first (backTo cpos (starEach (e :: es) X.env)) (backToKw cpos (keywordEach [] X.env))):=by rfl)
  (hs:swapsWith (.Call (.Attribute (.Name x px) mt apos) (e :: es) [] cpos) none pos.line X.env=pure false:=by rfl) :
  DS M X (.Expr (.Call (.Attribute (.Name x px) mt apos) (e :: es) [] cpos) pos) (ik nm mt n' i b al):=λhK hM=>by
 have q:=qw (CX:=CX) (k:=k) (E:=M.E) v hr hx (ha hK hM) hst hpl ht;rw [hK,hM]at q;exact psI (kQ q hs) λ_ _ _ z=>zG (fun ρ ys q=>by rw [hA ρ ys q]) hT z
theorem uO {mt:Str} {E:XK} {ta:TE} {pl:Sem Bool} (he:PE X o ta) (hr:Room k X.A) (hx:Passes CX X E)
  (ht:eval (.Call (.Attribute o mt apos) [] [] pos) X.env=(do
   let ov <-eval o X.env
   standAt apos.atName
   let (f,first) <-holding [ov] (getMethod ov mt pl)
   callWith pos f first (backTo pos (starEach [] X.env)) (backToKw pos (keywordEach [] X.env))):=by rfl) :
  PE X (.Call (.Attribute o mt apos) [] [] pos) (pE (HasM X.prog X.w X.K X.mg X.base CX k mt) mt E ta nT):=by
 intro pins s σ H Q I h;refine PySem.W.methodCall_KW (pl:=pl) (thn (he pins s σ H _ I h) λu s1 ⟨x,H1,I1,rx,a,C,dx,fs,f,sp,ex,ea,hm,l,q⟩=>?_) ht
 subst ex;obtain rfl:u=Value.ref a:=rx;obtain ⟨fd,ps,F,hb⟩:=hm.f;refine mU I1 ea hm.c hm.m l ?_;exact PySem.W.callWith_K0 (first:=[.ref a]) I1.kIn hm.m.kp (sE (us:=[.ref a]) (vs:=[.ref a]) (dvs:=[]) (ds:=[]) F hr hb .nil hx I1 (.cons rfl .nil) q)
theorem e8 {mt:Str} {tb:Str->Option Fn} {pl:Sem Bool} (hT:∀C nm fn,PySem.W.nsIn M.K mainGlobals nm=some (some (.ref C))->tb nm=some fn->∃f,HasM X.prog X.w M.K M.mg X.base CX k mt C f (sp3 M.K M.mg fn)) (hr:Room k X.A) (hx:Passes CX X M.E)
  (he:DE M X o fa)
  (ht:eval (.Call (.Attribute o mt apos) [] [] pos) X.env=(do
   let ov <-eval o X.env
   standAt apos.atName
   let (f,first) <-holding [ov] (getMethod ov mt pl)
   callWith pos f first (backTo pos (starEach [] X.env)) (backToKw pos (keywordEach [] X.env))):=by rfl) :
  DE M X (.Call (.Attribute o mt apos) [] [] pos) (de tb mt fa au):=λhK hM=>by
 have q:=uO (CX:=CX) (k:=k) (E:=M.E) (he hK hM) hr hx ht;rw [hK,hM]at q;exact peI q fun σ H Q z=>by
  obtain ⟨F,ρ,fp,S,p⟩:=wG hT z;refine ⟨F,ρ,fp,S,p.mono λx px v F1 H1 fx e1 r1 w1=>?_⟩
  obtain ⟨a,C,dx,fs,f,sp,e1,e2,e3,e4,e5⟩:=px v F1 H1 fx e1 r1 w1;exact ⟨a,C,dx,fs,f,sp,e1,e2,e3,e4,yG e5⟩
theorem xF (h:DE M X o fa) (h2:DE M X e fb)
  (hbase:attributeBase o "append" X.env (eval o X.env)=eval o X.env:=by rfl)
  (hfew:((backTo cpos (starEach [e] X.env)).all (λx=>!x.1) && (backToKw cpos (keywordEach [] X.env)).all (λx=>x.1.isSome) && decide (([e]:List Expr).length+([]:List Keyword).length+(if ([]:List Keyword).isEmpty then 0 else 1)<30))=true:=by rfl)
  (hline:(apos.endLine == cpos.line)=true:=by rfl) (hs:starEach [e] X.env=(false,eval e X.env) :: starEach [] X.env:=by rfl) (hplain:(backTo cpos (starEach [] X.env)).any (·.1)=false:=by rfl)
  (hsw:swapsWith (.Call (.Attribute o "append" apos) [e] [] cpos) none pos.line X.env=pure false:=by rfl):DS M X (.Expr (.Call (.Attribute o "append" apos) [e] [] cpos) pos) (kY fa fb):=λhK hM =>
 CY PySem.F.slot_list_append PySem.F.type_list_append jl (h hK hM) (EB h2 hs hK hM) (λ_ _ _ q=>AR q) hbase hfew hline hs hplain hsw hK
theorem nA (h:DE M X o fa)
  (hbase:attributeBase o "clear" X.env (eval o X.env)=eval o X.env:=by rfl) (hline:(apos.endLine == cpos.line)=true:=by rfl)
  (hsw:swapsWith (.Call (.Attribute o "clear" apos) [] [] cpos) none pos.line X.env=pure false:=by rfl):DS M X (.Expr (.Call (.Attribute o "clear" apos) [] [] cpos) pos) (ij fa):=λhK hM =>
 FX PySem.F.slot_list_clear PySem.F.type_list_clear rz (h hK hM) (λ_ _ _ q=>AU q) hbase hline hsw hK
theorem yB {bx:Expr} {c jj:Nat} {p2 p3 p4:Pos} (v:PE X (.Name x p) (d9 i)) (hb:DE M X bx fb) (h:DE M X e fa) (hix:kN (.Constant (.int (c:Int)) jj p4):=λ_ _=>rfl)
  (hs:swapsWithSole [.Subscript (.Subscript (.Name x p) (.Constant (.int (c:Int)) jj p4) p3) bx p2] e pos.line X.env=pure false:=by rfl) (hw:swappedStores [.Subscript (.Subscript (.Name x p) (.Constant (.int (c:Int)) jj p4) p3) bx p2] e X.env=pure none:=by rfl)
  (ha:∀v,assign (.Subscript (.Subscript (.Name x p) (.Constant (.int (c:Int)) jj p4) p3) bx p2) X.env v=(do
   let ov <-holding [v] (eval (.Subscript (.Name x p) (.Constant (.int (c:Int)) jj p4) p3) X.env)
   let iv <-holding [v,ov] (eval bx X.env)
   standAt p2
   holding [v,ov,iv] (setItem ov iv v)
   release [v,ov,iv] []):=by intro _;rfl) (h1:(assignEach [.Subscript (.Subscript (.Name x p) (.Constant (.int (c:Int)) jj p4) p3) bx p2] X.env).map (·.2)=[assign (.Subscript (.Subscript (.Name x p) (.Constant (.int (c:Int)) jj p4) p3) bx p2) X.env]:=by rfl) :
  DS M X (.Assign [.Subscript (.Subscript (.Name x p) (.Constant (.int (c:Int)) jj p4) p3) bx p2] e pos) (nG i c fb fa):=λhK hM =>
 psI (sv (h hK hM) (yd (tW (rA M.K hK) v (kW (i:=(c:Int)) (j:=jj) (pos:=p4)) hix) (hb hK hM) set_list ha) hs hw h1) λ_ _ _ q=>Ai q
end
noncomputable def isB (k:Bool):Value->Bool
 |.bool b=>b == k
 |_=>false
section
variable {X:Cx}
theorem uY:MtR X "list.count" (λx vs H Q=>∃(a:Addr) (bs:List Bool) (b:Bool),x=.ref a/\vs=[.bl b]/\SqL X.K H a (bs.map V.bl)/\Q (.int (bs.count b:Nat)) H):=by
 intro pins s σ H x vs v us Q I rx rv h;obtain ⟨a,bs,b,rfl,rfl,hq,q⟩:=h;cases rx;obtain ⟨u,rfl,ru⟩:=Vals.one rv;cases (show u=Value.bool b from ru)
 obtain ⟨its,rs,pl,hz⟩:=I.list hq;have hi:=lG rs;obtain ⟨⟨cls,dd,data,sl⟩,ho,hc,n,hd⟩:=pl.isList;simp only at hc hd;subst hc hd;refine call_meets PySem.F.slot_list_count ⟨_,ho,rfl⟩ PySem.F.entry_list_count (PySem.F.args_list_count_2 _ _) (SeqAt.list_countAt a its.toArray n dd sl (.bool b) (isB b)) ⟨ho,λy hy=>?_,⟨.int _,H,I.tok _,⟨_,rfl⟩,?_⟩⟩
 ·rw [hi]at hy
  obtain ⟨c,_,rfl⟩:=ZC.mp (List.mem_toArray.mp hy);exact SeqAt.EqAt.bool_bool c b
 ·have e:its.toArray.toList.countP (isB b)=bs.count b:=by
   rw [show its.toArray.toList=its from rfl,hi,List.countP_map,List.count_eq_countP]
   exact List.countP_congr λc _=>by
    show ((isB b) (.bool c)=true) ↔ ((c == b)=true)
    exact Iff.rfl
  rw [e];exact q
theorem va:MtR X "list.index" (λx vs H Q=>∃(a:Addr) (bs:List Bool) (b:Bool),x=.ref a/\vs=[.bl b]/\SqL X.K H a (bs.map V.bl)/\b∈bs/\Q (.int (bs.idxOf b:Nat)) H):=by
 intro pins s σ H x vs v us Q I rx rv h;obtain ⟨a,bs,b,rfl,rfl,hq,hm,q⟩:=h;cases rx;obtain ⟨u,rfl,ru⟩:=Vals.one rv;cases (show u=Value.bool b from ru)
 obtain ⟨its,rs,pl,hz⟩:=I.list hq;have hi:=lG rs;obtain ⟨⟨cls,dd,data,sl⟩,ho,hc,n,hd⟩:=pl.isList;simp only at hc hd;subst hc hd;have hlen:its.length=bs.length:=by rw [hi,Zc]
 have hj:bs.idxOf b<bs.length:=List.idxOf_lt_length_iff.mpr hm;have hn:=iT;have hb:bs.length<=sizeLine:=by simpa using hz
 have at1:∀m (h1:m<its.length) (h2:m<bs.length),isB b its[m]=(bs[m] == b):=λm h1 h2=>by
  have:its[m]=Value.bool bs[m]:=by simp [hi]
  rw [this];rfl
 refine call_meets PySem.F.slot_list_index ⟨_,ho,rfl⟩ PySem.F.entry_list_index (PySem.F.args_list_index_2 _ _)
  (SeqAt.list_indexAt a its.toArray n dd sl (.bool b) (isB b) (bs.idxOf b) (by simpa [hlen]using hj) (by lia) ?_ ?_) ⟨ho,λy hy=>?_,⟨.int _,H,I.tok _,⟨_,rfl⟩,q⟩⟩
 ·show isB b its[bs.idxOf b]=true
  rw [at1 _ (by lia) hj]
  simpa using List.getElem_idxOf hj
 ·intro m hm2 hlt
  show isB b its[m]=false
  have h1:m<its.length:=by simpa using hm2
  rw [at1 m h1 (by lia)]
  exact List.not_of_lt_findIdx (p:=(· == b)) (xs:=bs) (by simpa [List.idxOf]using hlt)
 ·rw [hi]at hy
  obtain ⟨c,_,rfl⟩:=ZC.mp (List.mem_toArray.mp hy);exact SeqAt.EqAt.bool_bool c b
end
section
variable {X:Cx} {pins:List (Addr×Obj)} {σ:L2.St} {H':Hp} {C ea:Addr} {n:Str} {b0:Stmt} {suite:List Stmt} {hpos:Pos} {Q:Flow->Shared->Prop} {E:Value->Shared->Prop} {i j:Nat} {k:Int}
noncomputable def Hw (P:L2.St->Prop) (k:Int):TS:=λD σ H=>P σ/\∀H',aB H H'->D.rt (.int k) H'
theorem qy (hca:X.calm=true->X.A.handled=none) (hfr:X.A.frames=some X.stack) (hN:X.N.Nodup) (hi:X.N[i]?=some n) (hl:X.env.scope.names.lookup n=some .local) (hij:i≠j) (hj:j<X.N.length) (hlen:σ.length=X.N.length)
  (hs:∀oe,oe.cls=.ref C->PSs (cxM X ea oe) (b0 :: suite) (Hw (Pe i ea j) k)) (hq:∀u σ' H'' s'',aB H' H''->Inv X pins σ' H'' s''->RelV (.int k) u->Q (.ret u) s'') :
  ∀s5,(∀(Q':Unit->Shared->Prop) (E'':Value->Shared->Prop),(∀oe s6,oe.cls=.ref C->Inv (cxM X ea oe) pins σ H' s6->Q' () s6)->wpAny (model X.prog X.w) (X.A.mark (some (.ref ea))) (setFlight (.ref ea) none) Q' E'' s5) ->
    codeAny (model X.prog X.w) (X.A.mark (some (.ref ea))) (.handlers (.ref ea) [.ExceptHandler none (some n) (b0 :: suite) hpos] X.env) (λr s₂=>match r with
     |.ok f=>wpAny (model X.prog X.w) X.A (do bindName X.env n .none;unbindBehindTheSuite X.env n hpos) (λ_ s₃=>Q f s₃) E s₂
     |.error x=>cameBackBy (model X.prog X.w) X.A X.env E x s₂) s5:=by
 intro s5 hset;have iL:i<σ.length:=by rw [hlen];exact lH hi
 refine codeAny_handlers_suite_as (hset _ _ λoe s6 hoc I6=>?_)
 refine je (X:=cxM X ea oe) I6 hN hi (.inl hl) (v:=.ref ea) (u:=.ref ea) rfl (λs7 I7=>?_) (.inr hl)
 refine wpAny_mono (hs oe hoc pins s7 (σ.set i (some (.ref ea))) H' ⟨λ_ _=>False,λv H''=>aB H' H''/\v=.int k,λ_ _=>False,λ_ _=>False⟩ I7
  ⟨⟨List.getElem?_set_self iL,by rw [ZJ,hlen];exact hj,hij⟩,λH'' sm=>⟨sm,rfl⟩⟩) (λfl s8 q=>?_) λ_ _ z=>z.elim
 cases fl with
 |next =>
  obtain ⟨_,_,_,z⟩:=q;exact z.elim
 |ret u =>
  obtain ⟨v,σ',H'',I8,ru,sm,rfl⟩:=q;have I9:=wV hca hfr I8;have iL2:i<σ'.length:=by rw [I9.len];exact lH hi
  show wpAny _ _ _ _ _ _
  refine wpAny_bind (wpAny_bindName (je I9 hN hi (.inl hl) (v:=.non) (u:=.none) rfl (λs10 I10=>?_) (.inr hl)))
  unfold unbindBehindTheSuite;exact wpAny_onRaise (vG (v:=.non) I10 hN hi hl (List.getElem?_set_self iL2) λs11 I11=>hq u _ H'' s11 sm I11 ru)
 |brk =>
  obtain ⟨_,_,_,z⟩:=q;exact z.elim
 |cont =>
  obtain ⟨_,_,_,z⟩:=q;exact z.elim
end
noncomputable def l8 (fn:Fn) (al:Fa) (tbl:List (Str×Int)):Fs:=fun ρ=>(al ρ).bind λxs=>match fn (xs.map OD.er) with
 |.ok _=>.ok (.nx ρ)
 |.ex c=>(match tbl.lookup c with
  |some b=>.ok (.rt (.sh (.int b)))
  |none=>.bad)
 |.bad=>.bad
section
variable {M:Mx} {X:Cx} {k:Nat} {f:Addr} {fd:FuncData} {ps:List Str} {x dx:Str} {p pos cpos epos hpos np:Pos} {fn:Fn} {al:Fa} {e:Expr} {es:List Expr} {D:Addr} {nm:Option Str} {b0:Stmt} {suite:List Stmt} {tbl:List (Str×Int)}
theorem vL (F:FnOk X.prog X.w M.K M.mg X.base (CXE X.prog X.w) k f fd ps (sp3 M.K M.mg fn)) (hr:Room k X.A) (hg:Gl X x) (hm:M.mg x=some (.ref f)) (hk:PySem.W.keepIn M.K (.ref f)=true) (hb:Binds M.K fd ps [])
  (ha:∀xe,DA M { X with xe:=xe } (e :: es) al) (hst:X.stack=X.env :: X.outer) (hfr:X.env.frame=some X.env.locals)
  (hD:PySem.W.excIn M.K D vE vN=true) (hgD:Gl X dx) (hmD:M.mg dx=some (.ref D))
  (hT:∀c b,tbl.lookup c=some b->∃C,M.mg c=some (.ref C)/\PySem.W.subIn M.K (.ref C) (.ref D)=some true /\
   ∀(pins:List (Addr×Obj)) (σ:St) (H':Hp) (ea:Addr) (Q:Flow->Shared->Prop) (E:Value->Shared->Prop),(X.calm=true->X.A.handled=none)->X.A.frames=some X.stack->σ.length=X.N.length ->
    (∀u σ' H'' s'',aB H' H''->Inv X pins σ' H'' s''->RelV (.int b) u->Q (.ret u) s'') ->
    ∀s5,(∀(Q':Unit->Shared->Prop) (E'':Value->Shared->Prop),(∀oe s6,oe.cls=.ref C->Inv (cxM X ea oe) pins σ H' s6->Q' () s6)->wpAny (model X.prog X.w) (X.A.mark (some (.ref ea))) (setFlight (.ref ea) none) Q' E'' s5) ->
    codeAny (model X.prog X.w) (X.A.mark (some (.ref ea))) (.handlers (.ref ea) [.ExceptHandler none nm (b0 :: suite) hpos] X.env) (λr s₂=>match r with
     |.ok f=>(match nm with
      |none=>Q f s₂
      |some n=>wpAny (model X.prog X.w) X.A (do bindName X.env n .none;unbindBehindTheSuite X.env n hpos) (λ_ s₃=>Q f s₃) E s₂)
     |.error x=>cameBackBy (model X.prog X.w) X.A X.env E x s₂) s5)
  (hd:(x == ("__debug__" : Str))=false:=by decide) (hdD:(dx == ("__debug__" : Str))=false:=by decide)
  (he:starEach (e :: es) X.env=(false,eval e X.env) :: starEach es X.env:=by rfl) (hpl:(backTo cpos (starEach es X.env)).any (·.1)=false:=by rfl)
  (hs:swapsWith (.Call (.Name x p) (e :: es) [] cpos) none epos.line X.env=pure false:=by rfl) :
  DS M X (.Try [.Expr (.Call (.Name x p) (e :: es) [] cpos) epos] [.ExceptHandler (some (.Name dx np)) nm (b0 :: suite) hpos] [] [] pos) (l8 fn al tbl):=λhK hM pins s σ H D' I q=>by
 obtain ⟨F0,ρ,fp,S,pq⟩:=q;refine wpAny_Try_except (wpAny_execs_cons ?_);have F':FnOk X.prog X.w X.K X.mg X.base (CXE X.prog X.w) k f fd ps (sp3 M.K M.mg fn):=by
  rw [hK,hM];exact F
 refine wpAny_Expr_any ?_ I.quiet hs;refine wpAny_Call_Name_kw (jq I hg (by rw [hM];exact hm) ?_ hd)
 refine PySem.W.callWith_K (h₀:=X.base) (K:=X.K) I.ok.mod.kin (by rw [hK];exact hk) ?_ he hpl
 have pa:=ha (λe s₁=>wpAny (model X.prog X.w) X.A (noteFrame e X.env) (λ_ s₂=>wpAny (model X.prog X.w) X.A (setFlight e none) (λ_ s₃=>wpAny (model X.prog X.w) X.A (handleBy e X.env [.ExceptHandler (some (.Name dx np)) nm (b0 :: suite) hpos]) (SP X pins D') X.xe s₃) X.xe s₂) X.xe s₁) hK hM
 refine thn (pa cpos pins s σ H (λvs H1=>∃G1 ds,Ext F0 H G1 H1/\RepAll M.K G1 vs ds/\aw M H1 fp (eG M X.N.length G1 H1 fp D') (match fn ds with
   |.ok _=>.ok (.nx ρ)
   |.ex c=>(match tbl.lookup c with
    |some b=>.ok (.rt (.sh (.int b)))
    |none=>.bad)
   |.bad=>.bad)) (Bu I) ⟨F0,ρ,fp,S,(aw.bind pq).mono λxs px vs F1 H1 fx e1 r1 w1=>?_⟩) λus s1 hz=>?_
 ·obtain ⟨G1,d1,k1⟩:=r1.frz e1 w1
  exact ⟨G1,xs.map OD.er,d1,k1,(px.ext d1).mono λo ho=>eG.stp d1.stp ho⟩
 ·obtain ⟨vs,H1,I1',r1,G1,ds,d1,k1,px⟩:=hz
  have I1:Inv X pins σ H1 s1:=nJ I1';have S1:=S.ext d1;refine ⟨I1.kIn,?_⟩;have hsp:sp3 M.K M.mg fn vs H1 (λ_ H2=>(∃z,fn ds=.ok z)/\∃G2,Ext G1 H1 G2 H2) (λcls _ H2=>(∃c b,fn ds=.ex c/\tbl.lookup c=some b/\M.mg c=some cls)/\aB H1 H2):=by
   refine ⟨G1,ds,d1.fh,k1,?_⟩;cases hf:fn ds with
   |ok z=>exact λv F' H' fx e _ _=>⟨⟨z,rfl⟩,F',e⟩
   |bad =>
    rw [hf]at px;exact px.elim
   |ex c =>
    rw [hf]at px;cases hc:tbl.lookup c with
    |none =>
     simp only [hc]at px;exact px.elim
    |some b =>
     obtain ⟨C,hC,_⟩:=hT c b hc;exact ⟨.ref C,hC,λod H2 hk=>⟨⟨c,b,rfl,hc,hC⟩,λa o z=>hk a o z (by simp)⟩⟩
  have hl:(us++[]).length=ps.length:=by
   rw [Zx,<-r1.length];exact F.len _ _ _ _ hsp
  have hbd:=hb s1 us (hK▸I1.kIn) hl;rw [Zx]at hbd;refine wpAny_call (codeAny_mono (F'.run X.A X.stack s1 H1 ⟨us,[]⟩ us vs _ _ hr I1.kK hbd r1 hsp) λr s2 hq=>?_)
  cases r with
  |error ev =>
   have hq':CXE X.prog X.w X.stack H1 s1 (λcls _ H2=>(∃c b,fn ds=.ex c/\tbl.lookup c=some b/\M.mg c=some cls)/\aB H1 H2) ev s2:=hq
   refine Am I1 hq' hst hfr (by rw [hK];exact hD) hgD (by rw [hM];exact hmD) hdD λea cls H' _ hE=>?_
   obtain ⟨⟨c,b,hfn,hc,hmc⟩,same⟩:=hE;obtain ⟨C,hC,hsub,hh⟩:=hT c b hc;rw [hC]at hmc;cases hmc;refine ⟨C,rfl,by rw [hK];exact hsub,λs5 hset=>hh pins σ H' ea _ _ I1.ok.hd I1.ok.frames I1.len (λu σ' H'' s'' sm J ru=>?_) s5 hset⟩
   rw [hfn]at px;simp only [hc]at px;have e2:Ext G1 H1 G1 H'':=⟨aB.refl _,same.trans sm,d1.fh.trans (same.trans sm),λ_ _ z=>z⟩
   exact ⟨.int b,σ',H'',J,ru,px (.int b) G1 H'' [] e2.fh (Res.sh (.int b)) ⟨aB.refl _,λa o z _=>same.trans sm a o z,(λa m=>by cases m),λ_ _ _ z=>z⟩⟩
  |ok fl =>
   cases fl with
   |ret u =>
    obtain ⟨v,H2,J,_,⟨z,hf⟩,G2,e2⟩:=I1.after hq;rw [hf]at px;exact wpAny_execs_nil (wpAny_execs_nil ⟨σ,H2,J,px σ G2 H2 fp (S1.ext e2) e2.stp⟩)
   |next=>exact False.elim hq
   |brk=>exact False.elim hq
   |cont=>exact False.elim hq
end
section
variable {X:Cx} {ea:Addr} {i j:Nat} {kn:Str} {c1 c2 c3 c4 cv:Expr} {b1 b2 b3 b4:Bool} {p1 p2 q1 q2 q3 q4 q5 q6 q7 q8 q9 r1 r2 r3 r4 r5 r6 r7 r8 m1 m2:Pos} {k1 k2 k3 k4 k5:Nat}
theorem oX (hN:X.N.Nodup) (hj:X.N[j]?=some kn) (hx:Loc X.env.scope kn) (hv:Vis X.env.scope kn) (h1:PE X c1 (tB (Pe i ea j) b1)) (h2:PE X c2 (tB (Pe i ea j) b2)) (h3:PE X c3 (tB (Pe i ea j) b3)) (h4:PE X c4 (tB (Pe i ea j) b4)) (h5:PE X cv (tB (Pe i ea j) true))
  (hc:([b1,b2,b3,b4]:List Bool).count true=1) {k:Int} (hk:(1:Int)+(([b1,b2,b3,b4]:List Bool).idxOf true:Nat)=k)
  (e5:∀whole,isTrue cv X.env whole=(do let v <-whole;standAt cv.pos;holding [v] (truthy v)):=by intro _;rfl)
  (hd:(kn == ("__debug__" : Str))=false:=by decide) (hcd:(kn == ("__classdict__" : Str))=false:=by decide)
  (s1:starEach [c1,c2,c3,c4] X.env=(false,eval c1 X.env) :: starEach [c2,c3,c4] X.env:=by rfl) (s2:starEach [c2,c3,c4] X.env=(false,eval c2 X.env) :: starEach [c3,c4] X.env:=by rfl) (s3:starEach [c3,c4] X.env=(false,eval c3 X.env) :: starEach [c4] X.env:=by rfl) (s4:starEach [c4] X.env=(false,eval c4 X.env) :: starEach [] X.env:=by rfl)
  (hs:swapsWith (.List [c1,c2,c3,c4] p2) (some (.Name kn p1)) q1.line X.env=pure false:=by rfl) (hf:X.fn kn=true\/X.env.scope.names.lookup kn=some .local:=by first | exact .inl rfl | exact .inr rfl | assumption)
  (t1:starEach [.Constant (.bool true) k1 q2] X.env=(false,eval (.Constant (.bool true) k1 q2) X.env) :: starEach [] X.env:=by rfl)
  (f1:((backTo q4 (starEach [.Constant (.bool true) k1 q2] X.env)).all (λx=>!x.1) && (backToKw q4 (keywordEach [] X.env)).all (λx=>x.1.isSome) && decide (([.Constant (.bool true) k1 q2]:List Expr).length+([]:List Keyword).length+(if ([]:List Keyword).isEmpty then 0 else 1)<30))=true:=by rfl)
  (g1:(q3.endLine == q4.line)=true:=by rfl) (g2:(backTo q4 (starEach [] X.env)).any (·.1)=false:=by rfl) (a1:attributeBase (.Name kn r1) "count" X.env (eval (.Name kn r1) X.env)=eval (.Name kn r1) X.env:=by rfl)
  (t2:starEach [.Constant (.bool true) k4 r3] X.env=(false,eval (.Constant (.bool true) k4 r3) X.env) :: starEach [] X.env:=by rfl)
  (f2:((backTo r5 (starEach [.Constant (.bool true) k4 r3] X.env)).all (λx=>!x.1) && (backToKw r5 (keywordEach [] X.env)).all (λx=>x.1.isSome) && decide (([.Constant (.bool true) k4 r3]:List Expr).length+([]:List Keyword).length+(if ([]:List Keyword).isEmpty then 0 else 1)<30))=true:=by rfl)
  (g3:(r4.endLine == r5.line)=true:=by rfl) (g4:(backTo r5 (starEach [] X.env)).any (·.1)=false:=by rfl) (a2:attributeBase (.Name kn r2) "index" X.env (eval (.Name kn r2) X.env)=eval (.Name kn r2) X.env:=by rfl)
  (hm:behindInMarks .NotEq (.Constant (.int 1) k2 q5)=false:=by first | exact nz _ (by decide) (by decide) | rfl) :
  PSs X [.Assign [.Name kn p1] (.List [c1,c2,c3,c4] p2) q1,
   .If (.BoolOp .Or [.UnaryOp .Not cv q6,.Compare (.Call (.Attribute (.Name kn r1) "count" q3) [.Constant (.bool true) k1 q2] [] q4) [.NotEq] [.Constant (.int 1) k2 q5] q7] q8) [.Return (some (.Constant (.int 9) k3 r6)) q9] [] r7,
   .Return (some (.BinOp (.Constant (.int 1) k5 m1) .Add (.Call (.Attribute (.Name kn r2) "index" r4) [.Constant (.bool true) k4 r3] [] r5) r8)) m2] (Hw (Pe i ea j) k):=by
 subst hk;refine Ar (i8 (rW hN hj hx (wa (b5 h1 (b5 h2 (b5 h3 (b5 h4 gF s4) s3) s2) s1)) hs hf)
  (i8 (tK (Bx (yw (yN h5 e5)) (xB (qm xQ (sY PySem.F.plainAttrs_list PySem.F.slot_list_count PySem.F.type_list_count uY (a9 hj hv hd hcd) (b5 yH gF t1) a1 f1 g1 t1 g2) kW hm))).pt (l_ (k_ kW)) l3)
   (l_ (k_ (BE wY kW (sY PySem.F.plainAttrs_list PySem.F.slot_list_index PySem.F.type_list_index va (a9 hj hv hd hcd) (b5 yH gF t2) a2 f2 g3 t2 g4)))))) λD σ H q=>?_
 obtain ⟨P0,k⟩:=q;obtain ⟨q1,q2,q3⟩:=P0;refine ⟨⟨q1,q2,q3⟩,λH1 e1=>⟨⟨q1,q2,q3⟩,λH2 e2=>⟨⟨q1,q2,q3⟩,λH3 e3=>⟨⟨q1,q2,q3⟩,λH4 e4=>⟨by show 4<=sizeLine;decide,λp hp=>?_⟩⟩⟩⟩⟩
 have P1:Pe i ea j (σ.set j (some (.ref p))):=⟨by rw [List.getElem?_set_ne (Ne.symm q3)];exact q1,by rw [ZJ];exact q2,q3⟩
 have sj:(σ.set j (some (V.ref p)))[j]?=some (some (.ref p)):=List.getElem?_set_self q2;have sq:∀H6:Hp,aB (upd H4 p (.lst [.bl b1,.bl b2,.bl b3,.bl b4])) H6->SqL X.K H6 p (([b1,b2,b3,b4]:List Bool).map V.bl):=λH6 e6=>SqL.of (e6 p _ aZ)
 have mem:true∈([b1,b2,b3,b4]:List Bool):=List.count_pos_iff.mp (by lia)
 refine ⟨P1,λH6 e6=>⟨true,rfl,?_⟩⟩
 refine ⟨_,sj,.inl ⟨rfl,_,sq H6 e6⟩,p,_,true,rfl,rfl,sq H6 e6,rfl,false,?_,?_⟩
 ·rw [hc]
  rfl
 ·refine ⟨_,sj,.inl ⟨rfl,_,sq H6 e6⟩,p,_,true,rfl,rfl,sq H6 e6,mem,1,_,rfl,rfl,?_⟩
  refine k H6 ((((e1.trans e2).trans e3).trans e4).trans (aB.trans ?_ e6));exact (aB.refl H4).upd hp
end
theorem CA {α:Type} {Pr:Str->α->Prop}:∀c b,List.lookup c ([]:List (Str×α))=some b->Pr c b:=λ_ _ h=>by cases h
theorem ue {α:Type} {Pr:Str->α->Prop} {a:Str} {b0:α} {l:List (Str×α)} (h:Pr a b0) (r:∀c b,l.lookup c=some b->Pr c b):∀c b,((a,b0) :: l).lookup c=some b->Pr c b:=λc b q=>by
 rw [List.lookup_cons]at q;split at q
 ·rename_i e
  cases q;rw [beq_iff_eq.mp e];exact h
 ·exact r c b q
noncomputable def spS (K:PySem.W.Frag) (mg:Str->Option Value) (fn:Fn) (np n:Nat) (b:Fb):Sp:=λvs H Q E=>sp3 K mg fn vs H Q E\/spP K np n b vs H Q E
theorem fnS {P:Program} {w:World} {K:PySem.W.Frag} {mg:Str->Option Value} {base:Heap} {CX:CXT} {k:Nat} {f:Addr} {fd:FuncData} {ps:List Str} {fn:Fn} {np n:Nat} {b:Fb} (F1:FnOk P w K mg base CX k f fd ps (sp3 K mg fn)) (F2:FnOk P w K mg base CX k f fd ps (spP K np n b)) :
  FnOk P w K mg base CX k f fd ps (spS K mg fn np n b):=⟨λvs H Q E h=>h.elim (F1.len vs H Q E) (F2.len vs H Q E),λA outer s H args us vs Q E hr h0 hb hv h=>h.elim (F1.run A outer s H args us vs Q E hr h0 hb hv) (F2.run A outer s H args us vs Q E hr h0 hb hv)⟩
noncomputable def hG (n i:Nat) (fn:Fn) (b:Fb) (al:Fa) (w:Nat) (s1 s2:Fs):Fs:=fun ρ=>match ρ[i]? with
 |some (some x)=>(al ρ).bind λys=>match fn (x.er :: ys.map OD.er) with
  |.ok (.sh (.int k))=>(match ρ[w]? with
   |some (some (.sh (.int k')))=>if k≠k' then s1 ρ else s2 ρ
   |_=>.bad)
  |_=>lO n i b al w s1 s2 ρ
 |_=>.bad
section
variable {M:Mx} {n' n:Nat} {σ:L2.St} {H:Hp} {D:Ends}
theorem zE {al:Fa} {Q Q':List V->Hp->Prop} (h:tA M n al σ H Q) (k:∀vs H,Q vs H->Q' vs H):tA M n al σ H Q':=by
 obtain ⟨F,ρ,fp,S,p⟩:=h;exact ⟨F,ρ,fp,S,p.mono λxs px vs F1 H1 fx e r w=>k _ _ (px vs F1 H1 fx e r w)⟩
theorem AZ {i np w:Nat} {fn:Fn} {b:Fb} {al:Fa} {s1 s2:Fs} (hl:∀ρ ys,al ρ=.ok ys->ys.length+1=np) (h:tS M n (hG n' i fn b al w s1 s2) D σ H) :
  xp (qM (tOp rNe (mI (spS M.K M.mg fn np n' b) [] M.E (fv (d9 i) (tA M n al))) (d9 w))) (tS M n s1) (tS M n s2) D σ H:=by
 obtain ⟨F,ρ,fp,S,p⟩:=h;have own:tS M n (lO n' i b al w s1 s2) D σ H->xp (qM (tOp rNe (mI (spS M.K M.mg fn np n' b) [] M.E (fv (d9 i) (tA M n al))) (d9 w))) (tS M n s1) (tS M n s2) D σ H:=λh=>by
  obtain ⟨v,hv,q⟩:=Dg hl h;exact ⟨v,hv,zE q λvs H z=>.inr z⟩
 unfold hG at p;split at p
 ·rename_i x e
  cases ha:al ρ with
  |bad=>rw [ha]at p;exact p.elim
  |ex c =>
   rw [ha]at p;obtain ⟨v,_,_,_,h1,_,_,_⟩:=S.own.at e;exact ⟨v,h1,F,ρ,fp,S,by rw [ha];exact p⟩
  |ok ys =>
   rw [ha]at p;have p':aw M H fp (eG M n F H fp D) (match fn (x.er :: ys.map OD.er) with
    |.ok (.sh (.int k))=>(match ρ[w]? with
     |some (some (.sh (.int k')))=>if k≠k' then s1 ρ else s2 ρ
     |_=>.bad)
    |_=>lO n' i b al w s1 s2 ρ):=p
   split at p'
   ·rename_i k hfn
    split at p'
    ·rename_i k' ew
     obtain ⟨v,f,g1,g2,h1,h2,_,_⟩:=S.own.at e;refine ⟨v,h1,F,ρ,fp,S,?_⟩;rw [ha];intro vs F1 H1 fx e1 r1 w1;obtain ⟨G1,d1,k1⟩:=r1.frz e1 w1;show spS M.K M.mg fn np n' b ((v :: vs)++[]) H1 _ M.E
     rw [Zx];refine .inl ⟨H1,x.er :: ys.map OD.er,aB.refl _,.cons ((h2.mono d1.ff λa _ o q=>d1.hh a o q).frz d1.fh λa _ o q=>q) (k1.same d1.fh),?_⟩
     rw [hfn];intro v' F' H' fx' e' r' w';have ro:=r'.own;cases ro with
     |sh rr =>
      cases rr;have E:Ext F H F H':=⟨aB.refl _,d1.hh.trans e'.hh,S.same.trans (d1.hh.trans e'.hh),λ_ _ z=>z⟩
      have S':=S.ext E;obtain ⟨u,_,_,_,q1,q2,_,_⟩:=S'.own.at ew;cases q2 with
      |sh q2 =>
       cases q2;refine ⟨_,q1,rfl,_,rfl,?_⟩;have ed:(!decide (V.int k=V.int k'))=decide (k≠k'):=by
        by_cases z:k=k'
        ·subst z;simp
        ·have:¬V.int k=V.int k':=λq=>z (by injection q)
         simp [z,this]
       rw [ed];show if decide (k≠k')=true then tS M n s1 D σ H' else tS M n s2 D σ H'
       by_cases z:k≠k'
       ·rw [if_pos (decide_eq_true z)]
        rw [if_pos z]at p';exact ⟨F,ρ,fp,S',PostS.stp E.stp p'⟩
       ·rw [if_neg (by rw [decide_eq_false z];exact Zm)]
        rw [if_neg z]at p';exact ⟨F,ρ,fp,S',PostS.stp E.stp p'⟩
    ·exact p'.elim
   ·exact own ⟨F,ρ,fp,S,p'⟩
 ·exact p.elim
end
section
variable {M:Mx} {X:Cx} {es:List Expr} {pos apos cpos pp px pw:Pos} {al:Fa} {nm x w:Str} {i j m n':Nat} {b:Fb} {fn:Fn} {CX:CXT} {k:Nat} {g:Addr} {fd:FuncData} {ps:List Str}
theorem y_ {sa sb:List Stmt} {f1 f2:Fs} (G1:FnOk X.prog X.w M.K M.mg X.base CX k g fd ps (sp3 M.K M.mg fn)) (G2:FnOk X.prog X.w M.K M.mg X.base CX k g fd ps (spP M.K (m+1) n' b)) (hr:Room k X.A) (hg:Gl X nm) (hm:M.mg nm=some (.ref g)) (hk:PySem.W.keepIn M.K (.ref g)=true)
  (hb:Binds M.K fd ps []) (hx:Passes CX X M.E) (v:PE X (.Name x px) (d9 i)) (ha:DA M X es al) (hA:AL al m) (vw:PE X (.Name w pw) (d9 j)) (h1:DSs M X sa f1) (h2:DSs M X sb f2)
  (hdb:(nm == ("__debug__" : Str))=false:=by decide) (he:starEach (.Name x px :: es) X.env=(false,eval (.Name x px) X.env) :: starEach es X.env:=by rfl) (hpl:(backTo cpos (starEach es X.env)).any (·.1)=false:=by rfl) (hbm:behindInMarks .NotEq (.Name w pw)=false:=by first | exact nz _ (by decide) (by decide) | rfl) :
  DS M X (.If (.Compare (.Call (.Name nm pp) (.Name x px :: es) [] cpos) [.NotEq] [.Name w pw] apos) sa sb pos) (hG n' i fn b al j f1 f2):=λhK hM=>by
 have G':FnOk X.prog X.w X.K X.mg X.base CX k g fd ps (spS M.K M.mg fn (m+1) n' b):=by
  rw [hK,hM];exact fnS G1 G2
 exact psI (tK (qm xQ (qj (ds:=[]) (dvs:=[]) G' hr hg (by rw [hM];exact hm) (by rw [hK];exact hk) (by rw [hK];exact hb) .nil hx (b5 v (ha hK hM) he) hdb he hpl) vw hbm) (h1 hK hM) (h2 hK hM)) λ_ _ _ z=>AZ (fun ρ ys q=>by rw [hA ρ ys q]) z
end
noncomputable def G_:Fb:=λ_=>.bad
section
variable {M:Mx} {X:Cx}
theorem la {ss:List Stmt}:PSs X ss pO:=λ_ _ _ _ _ _ h=>h.elim
theorem lz {ss:List Stmt}:DSs M X ss il:=λ_ _=>Ar la λ_ _ _ q=>BK q
theorem CF {f:Bool} {ss:List Stmt}:DB M X f ss G_:=λ_ _=>⟨_,la,λD _ σ H h=>by
 obtain ⟨F,ρ,fp,S,p⟩:=h;exact p.elim⟩
end
theorem pB {K:PySem.W.Frag} {x:Str} {c:Addr} {Pr:Addr->Prop} (a:PySem.W.nsIn K mainGlobals x=some (some (.ref c))) (h:Pr c):∀C,PySem.W.nsIn K mainGlobals x=some (some (.ref C))->Pr C:=λC e=>by
 rw [a]at e;cases e;exact h
section
variable {ρ:Env} {a k:Fe} {al:Fa} {i n w:Nat} {tb:Str->Bool} {f nm:Str} {b:Fb} {fn:Fn} {s1 s2:Fs} {t:Ft} {b1 b2:Fb}
noncomputable def G0 (tb:Str->Bool) (f:Str):Option (Option OD)->R OD
 |some (some (.oi p nm ds))=>match df f (ds.map λq=>(.tuple [.str q.1],q.2)) with
  |some d=>if tb nm=true then .ok (.sh d) else .bad
  |none=>.bad
 |_=>.bad
theorem yh:fj i tb f ρ=G0 tb f ρ[i]?:=rfl
noncomputable def tE (i:Nat) (tb:Str->Bool) (f:Str) (ρ:Env) (y:OD):Option (Option OD)->R Out
 |some (some (.oi p nm ds))=>if tb nm=true/\ds.length<1000 then .ok (.nx (ρ.set i (some (.oi p nm (cu f y.er ds))))) else .bad
 |_=>.bad
theorem xq:jB i tb f a ρ=unK (λy=>tE i tb f ρ y ρ[i]?) (a ρ):=cC _ _
theorem wK {y:OD} {p:Option Addr} {ds:List (Str×PyData)} (h:tb nm=true) (hl:ds.length<1000):tE i tb f ρ y (some (some (.oi p nm ds)))=.ok (.nx (ρ.set i (some (.oi p nm (cu f y.er ds))))):=if_pos ⟨h,hl⟩
noncomputable def BH (i:Nat) (fa:Fe) (ρ:Env):Option (Option OD)->R OD
 |some (some (.oi p nm ds))=>unK (λy=>if GK y=true then .ok y else .bad) (fa (ρ.set i (some (.sh (jN nm ds)))))
 |_=>.bad
theorem wN:kG i a ρ=BH i a ρ ρ[i]?:=by
 unfold kG BH;generalize ρ[i]?=o
 rcases nv (β:=Nat) o with rfl | rfl | ⟨d,rfl⟩ | ⟨xs,rfl⟩ | ⟨xs,rfl⟩ | ⟨xs,rfl⟩ | ⟨p,nm,xs,rfl⟩ | ⟨c,xs,rfl⟩ <;> first | rfl | exact cC _ _
theorem sG:AY a ρ=unK (λx=>.ok (ρ,x)) (a ρ):=cC _ _
noncomputable def Bj (b:Fb):Out->R (Env×OD)
 |.nx ρ'=>b ρ'
 |_=>.bad
theorem iE {s:Fs}:eS s b ρ=unK (Bj b) (s ρ):=by
 unfold eS;cases s ρ with
 |ok o=>cases o <;> rfl
 |ex c=>rfl
 |bad=>rfl
theorem ig {ρ':Env}:Bj b (.nx ρ')=b ρ':=rfl
theorem oM:bNx ρ=.ok (ρ,.sh .none):=rfl
theorem Bo:bIf t b1 b2 ρ=unK (λc=>if c=true then b1 ρ else b2 ρ) (t ρ):=cC _ _
end
noncomputable def nr:List (PyData×PyData)->Option (List PyData)
 |[]=>some []
 | (.int i,_) :: r=>(nr r).map (.int i :: ·)
 | (.str x,_) :: r=>(nr r).map (.str x :: ·)
 |_ :: _=>none
noncomputable def xr:List PyData->R OD
 |[.dict kvs]=>(match nr kvs with
  |some ks=>.ok (.ol (ks.map OD.sh))
  |none=>.bad)
 |_=>.bad
noncomputable def HD:List V->Hp->VK->Prop:=λxs H Q=>∃a kvs,xs=[.ref a]/\H a=some (.dK kvs)/\∀l,H l=none->Q (.ref l) (upd H l (.lst (kvs.map λp=>kV p.1)))
theorem kO:∀kvs:List (Key×PyData),nr (kvs.map λp=>(kD p.1,p.2))=some (kvs.map λp=>kD p.1)
 |[]=>rfl
 | (.inl i,d) :: r=>by
  rw [Zk,Zk];show (nr (r.map λp=>(kD p.1,p.2))).map _=_
  rw [kO r];rfl
 | (.inr x,d) :: r=>by
  rw [Zk,Zk];show (nr (r.map λp=>(kD p.1,p.2))).map _=_
  rw [kO r];rfl
theorem AG (kvs:List (Key×PyData)):xr [dD kvs]=.ok (.ol ((kvs.map λp=>kD p.1).map OD.sh)):=by
 show (match nr (kvs.map λp=>(kD p.1,p.2)) with
  |some ks=>R.ok (OD.ol (ks.map OD.sh))
  |none=>.bad)=_
 rw [kO]
theorem vI:∀{k:Key} {v:Value} (h:my k v=true),RelV (kV k) v
 |.inl i,v,h=>by
  obtain ⟨t,e⟩:=Value.isInt_shape (k:=i) (v:=v) h;exact ⟨t,e⟩
 |.inr x,v,h=>by
  obtain ⟨t,e⟩:=Value.isStrOf_shape (x:=x) (v:=v) h;exact ⟨t,e⟩
section
variable {X:Cx} {M:Mx}
theorem Af {vs:List V} {us:List Value} (hl:us.length=vs.length) (h:∀(i:Nat) v u,vs[i]?=some v->us[i]?=some u->RelV v u):Vals vs us:=by
 induction vs generalizing us with
 |nil =>
  cases us with
  |nil=>exact .nil
  |cons u us=>simp at hl
 |cons v vs ih =>
  cases us with
  |nil=>simp at hl
  |cons u us=>exact .cons (h 0 v u rfl rfl) (ih (by simpa using hl) λi v' u' a b=>h (i+1) v' u' (by simpa using a) (by simpa using b))
theorem xI (hc:X.calm=true):eV X (.type "list") HD:=by
 intro pins s σ H xs us Q I r h;obtain ⟨a,kvs,rfl,ha,q⟩:=h;obtain ⟨u,rfl,ru⟩:=Vals.one r;cases ru;obtain ⟨hz,lo,vs,r',hd⟩:=(show kvs.length<=sizeLine/\(a == sysModules)=false/\∃vs,KV kvs vs/\s.heap.DictOf (cT X.prog X.w) a vs from I.hok a _ ha)
 obtain ⟨ep,hda⟩:=hd.dictAt;have hk:=KV.keys r';have hlen:vs.length=kvs.length:=by
  have:=congrArg List.length hk;rw [Zc,Zc]at this;exact this.symm
 refine PySem.W.kdl_call (PySem.W.kdl_dict (knd:=cT X.prog X.w) (kvs:=vs) (ep:=ep) lo) (I.ok.hd hc) hda (by lia) λh' tk acc' c' kp e hacc=>?_
 refine ⟨.ref s.heap.objs.size,_,I.laid (t':=tk) kp (Zn _) (show c9 X.prog X.w _ h' _ (.lst (kvs.map λp=>kV p.1)) from ⟨by rw [Zc];exact hz,acc'.toList,c',?_,e⟩),rfl,q _ (I.hok.fresh (Zn _))⟩
 refine Af (by rw [Array.length_toList,hacc.1,Zc,hlen]) λi v u hv hu=>?_
 rw [Za]at hv;obtain ⟨p,hp,rfl⟩:=Zp.mp hv;obtain ⟨k,x,hkx,his⟩:=hacc.2 i u (by simpa using hu)
 have e1:(kvs.map (·.1))[i]?=(vs.map (·.1))[i]?:=by rw [hk]
 rw [Za,Za,hp,hkx]at e1;have e2:p.1=k:=Zz e1;rw [e2];exact vI his
theorem CH:OkC M HD xr:=by
 intro x dx F H fp Q s rx p;unfold xr at p;split at p
 ·rename_i kvs
  cases rx with
  |cons h1 h2 =>
   cases h2;generalize hdd:PyData.dict kvs=d at h1
   cases h1 with
   |@dct a kv ds ha hk hr =>
    unfold dD at hdd;cases hdd;rw [kO]at p;refine ⟨a,kv,rfl,s _ _ ha,λl hl=>?_⟩
    have e:(kv.map λp=>kV p.1)=(ds.map λp=>kV p.1):=by
     have:=congrArg (List.map kV) hk;rw [Zi,Zi]at this;exact this
    rw [e];refine OkE.lstD s p ?_ hl;clear p ha hk hr e
    induction ds with
    |nil=>exact .nil
    |cons q r ih =>
     refine .cons ?_ ih;show Rep M.K F (kV q.1) (kD q.1)
     cases q.1 with
     |inl i=>exact .int i
     |inr x=>exact .str x
   |@ins a C dx fs nm ds ha hk hr =>
    unfold jN at hdd;cases hdd;exact p.elim
   |non=>cases hdd
   |bl _=>cases hdd
   |int _=>cases hdd
   |str _=>cases hdd
   |lst _ _=>cases hdd
   |tup _ _=>cases hdd
 ·exact p.elim
end
theorem OwnS.two {K:PySem.W.Frag} {F H:Hp} {σ:L2.St} {ρ:Env} {g:List Addr} {x y:OD} (S:OwnS K F H σ ρ g) (nd:g.Nodup) (h0:ρ[0]?=some (some x)) (h1:ρ[1]?=some (some y)) :
  ∃v f w f2,Own K F H v x f/\Own K F H w y f2/\(∀a∈f,a∉f2)/\(∀a∈f,a∈g)/\(∀a∈f2,a∈g)/\f.Nodup/\f2.Nodup:=by
 cases S with
 |nil=>simp at h0
 |no r=>simp at h0
 |@yes v x' f σ' ρ' g' h r =>
  cases r with
  |nil=>simp at h1
  |no r=>simp at h1
  |@yes w y' f2 σ2 ρ2 g2 h2 r2 =>
   have e0:x'=x:=by simpa using h0
   have e1:y'=y:=by simpa using h1
   subst e0 e1;simp only [ZK,Zs]at nd;obtain ⟨n1,⟨n2,n3,n4⟩,n5⟩:=nd;exact ⟨v,f,w,f2,h,h2,λa m z=>n5 a m a (.inl z) rfl,λa m=>by simp [m],λa m=>by simp [m],n1,n2⟩
noncomputable def kj (n:Nat) (b:Fb) (nm:Str) (ys:List OD) (zs:List PyData) (r:OD×OD):Prop:=xg (.oi none nm []) r.1=true/\∀a c,∃ρ',b (mH n (.oi (some a) nm [] :: .pl c ys :: zs.map OD.sh))=.ok (ρ',r.2)/\ρ'[0]?=some (some (oo a r.1))/\ρ'[1]?=some (some (.pl c ys))
open Classical in
noncomputable def iq (n:Nat) (b:Fb) (nm:Str) (ys:List OD) (zs:List PyData):R (OD×OD):=if h:∃r,kj n b nm ys zs r then .ok h.choose else .bad
theorem rK {n:Nat} {b:Fb} {nm:Str} {ys:List OD} {zs:List PyData} {r:OD×OD} (h:iq n b nm ys zs=.ok r):kj n b nm ys zs r:=by
 unfold iq at h;split at h
 ·rename_i hx
  cases h;exact hx.choose_spec
 ·cases h
theorem vP {n:Nat} {b:Fb} {nm:Str} {ys:List OD} {zs:List PyData} {c:Str}:iq n b nm ys zs≠.ex c:=by
 unfold iq;split
 ·intro z;cases z
 ·intro z;cases z
theorem uI {n:Nat} {b:Fb} {nm:Str} {ys:List OD} {zs:List PyData} {r:OD×OD} (h:kj n b nm ys zs r):iq n b nm ys zs=.ok r:=by
 have hx:∃r,kj n b nm ys zs r:=⟨r,h⟩;unfold iq;rw [dif_pos hx];have s:=hx.choose_spec;obtain ⟨ρ1,e1,q1,_⟩:=s.2 0 0;obtain ⟨ρ2,e2,q2,_⟩:=h.2 0 0;rw [e1]at e2;have e3:=R.ok.inj e2;have e4:ρ1=ρ2:=(Prod.mk.inj e3).1;have e5:hx.choose.2=r.2:=(Prod.mk.inj e3).2;rw [e4,q2]at q1;have e6:=rH (eU h.1) (eU s.1) (Zz (Zz q1));exact congrArg R.ok (Prod.ext e6.symm e5)
noncomputable def oQ (i:Nat) (nm:Str) (n j:Nat) (b:Fb) (al:Fa):Fs:=fun ρ=>match ρ[j]? with
 |some (some (.ol ys))=>(al ρ).bind λzs=>(iq n b nm ys (zs.map OD.er)).bind λr=>match r.2 with
  |.sh .none=>.ok (.nx (ρ.set i (some r.1)))
  |_=>.bad
 |_=>.bad
section
variable {M:Mx} {n' n:Nat} {σ:L2.St} {H:Hp} {D:Ends}
theorem DH {i j:Nat} {nm:Str} {C:Addr} {np:Nat} {b:Fb} {al:Fa} (hi:i<n) (hC:PySem.W.nsIn M.K mainGlobals nm=some (some (.ref C))) (hl:∀ρ ys,al ρ=.ok ys->ys.length+2=np) (h:tS M n (oQ i nm n' j b al) D σ H) :
  pQ (By C (spP M.K np n' b) [] M.E (fv (d9 j) (tA M n al))) (oT i) D σ H:=by
 obtain ⟨F,ρ,fp,S,p⟩:=h;unfold oQ at p;split at p
 ·rename_i ys e
  obtain ⟨v,f,h1,r0,sub,wr0⟩:=S.swap e;have ro:=r0.own;cases ro with
  |@ol c vs _ g hc hv =>
   refine ⟨.ref c,h1,F,ρ,fp,S,?_⟩;cases ha:al ρ with
   |bad=>rw [ha]at p;exact p.elim
   |ex c=>rw [ha]at p;exact p
   |ok zs =>
    rw [ha]at p;have hz:=hl ρ zs ha;intro us F1 H1 fx e1 r1 w1;obtain ⟨G1,d1,k1⟩:=r1.frz e1 w1;obtain ⟨v2,f2,h2,r2,sub2,wr⟩:=(S.ext d1).swap e;rw [h1]at h2;cases h2;intro x dx hx hdx ne;have p':aw M H fp (eG M n F H fp D) ((iq n' b nm ys (zs.map OD.er)).bind λr=>match r.2 with
     |.sh .none=>.ok (.nx (ρ.set i (some r.1)))
     |_=>.bad):=p
    cases hcc:iq n' b nm ys (zs.map OD.er) with
    |bad=>rw [hcc]at p';exact p'.elim
    |ex c=>exact absurd hcc vP
    |ok r =>
     rw [hcc]at p';obtain ⟨x1,y1⟩:=r;have p2:aw M H fp (eG M n F H fp D) (match (generalizing:=false) y1 with
      |.sh .none=>.ok (.nx (ρ.set i (some x1)))
      |_=>.bad):=p'
     obtain ⟨hlk,hrun⟩:=rK hcc;obtain ⟨ρ',hb,hρ0,hρ1⟩:=hrun x c;have gx:G1 x=none:=d1.fh.free hx;have keep:∀q o,H1 q=some o->upd (upd H1 dx (.own x)) x (.ins C dx []) q=some o:=λq o z=>by
      have h1:q≠x:=by rintro rfl;rw [hx]at z;cases z
      have h2:q≠dx:=by rintro rfl;rw [hdx]at z;cases z
      rw [az h1,az h2];exact z
     have ro2:=r2.own;have o1:Own M.K G1 (upd (upd H1 dx (.own x)) x (.ins C dx [])) (.ref x) (.oi (some x) nm []) [x]:=.oi (fs:=[]) ⟨λb z=>(Zz z).symm,hC,aZ⟩ rfl .nil
     have o2:Own M.K G1 (upd (upd H1 dx (.own x)) x (.ins C dx [])) (.ref c) (.pl c ys) f2:=by
      cases ro2 with
      |ol q1 q2=>exact .pl (keep _ _ q1) (q2.mono (aB.refl _) λa m o z=>keep a o z)
     have xf:x∉f2:=λm=>by
      obtain ⟨o,z⟩:=r2.own.dom x m;rw [hx]at z;cases z
     split at p2
     ·show spP M.K np n' b (.ref x :: ((.ref c :: us)++[])) _ _ _
      rw [Zx];refine ⟨G1,.oi (some x) nm [] :: .pl c ys :: (zs.map OD.er).map OD.sh,[x]++(f2++[]),λq o z=>keep q o (d1.fh q o z),⟨.cons o1 (.cons o2 (OwnL.shs k1)),?_,λq m=>?_⟩,by rw [Zr,Zr,Zc,Zc];lia,_,hb,?_⟩
      ·rw [Zx,List.singleton_append]
       exact List.nodup_cons.mpr ⟨xf,r2.nd⟩
      ·rw [Zx]at m
       rcases Zs.mp m with m | m
       ·rw [List.mem_singleton]at m
        subst m;exact gx
       ·exact r2.fr q m
      ·intro v' σ' F' H' fp' fy S' st' ry dis
       rw [Zx]at st';have rv:=ry.own;cases rv with
       |sh rr =>
        cases rr;refine ⟨rfl,?_⟩;obtain ⟨v3,f3,v4,f4,q3,q4,q5,q6,q7,q8,q9⟩:=S'.own.two S'.nd hρ0 hρ1;have hv3:=ui (eU hlk) q3;subst hv3;have hv4:v4=.ref c:=by
         cases q4 with
         |pl _ _=>rfl
        subst hv4;have x3:x∈f3:=by
         rcases jO hlk with ⟨_,_,nm2,ds2,_,hxx⟩ | ⟨_,_,hxx,_⟩
         ·have hxx:x1=.oi none nm2 ds2:=hxx
          subst hxx;cases q3 with
          |oi _ _ _=>exact Zf
         ·cases hxx
        have q4':Own M.K F' H' (.ref c) (.ol ys) f4:=by
         cases q4 with
         |pl z1 z2=>exact .ol z1 z2
        have hnone:∀q,upd (upd H1 dx (.own x)) x (.ins C dx []) q=none->H1 q=none:=λq z=>by
         cases hq:H1 q with
         |none=>rfl
         |some o=>rw [keep q o hq]at z;cases z
        have nin:∀q,H1 q≠none->q∉f2->q∉[x]++f2:=λq hq m z=>by
         rcases Zs.mp z with z | z
         ·rw [List.mem_singleton]at z
          subst z;exact hq hx
         ·exact m z
        have st4:Stp G1 H1 f2 F' H' f4:=⟨st'.ff,λq o z m=>st'.keep q o (keep q o z) (nin q (bF z) m),λq m=>by
         rcases st'.new q (Zw _ (q7 q m)) with z | z
         ·rcases Zs.mp z with z | z
          ·rw [List.mem_singleton]at z
           subst z;exact absurd m (q5 q x3)
          ·exact .inl z
         ·exact .inr (hnone q z),λq z m w=>st'.nw q (by
           cases hq:H1 q with
           |none=>exact absurd hq z
           |some o=>rw [keep q o hq];simp) (nin q z m) w⟩
        obtain ⟨fp2,S2,st2,sub4⟩:=wr F' H' (.ol ys) f4 S'.same q4' q9 (λq m=>S'.fr q (q7 q m)) st4
        obtain ⟨fp3,S3,sub5⟩:=S2.set hi (v:=.ref x) (x:=x1) (fx:=f3) ⟨vQ (eU hlk) q3,q8,λq m=>S'.fr q (q6 q m)⟩ λq m z=>by
         rcases sub4 q z with ⟨z1,z2⟩ | z
         ·obtain ⟨o,w⟩:=(S.ext d1).own.dom q z1
          rcases st'.new q (Zw _ (q6 q m)) with y | y
          ·exact nin q (bF w) z2 y
          ·rw [hnone q y]at w
           cases w
         ·exact q5 q m z
        have es:ρ.set j (some (.ol ys))=ρ:=by
         apply List.ext_getElem?
         intro q;by_cases hq:j=q
         ·subst hq
          rw [e,List.getElem?_set_self (Zb.mp e).1]
         ·rw [List.getElem?_set_ne hq]
        rw [es]at S3;have st5:=d1.stp.trans st2;refine p2 _ F' H' fp3 S3 ⟨st5.ff,st5.keep,λq m=>?_,st5.nw⟩
        rcases sub5 q m with z | z
        ·exact st5.new q z
        ·rcases st'.new q (Zw _ (q6 q z)) with y | y
         ·rcases Zs.mp y with y | y
          ·rw [List.mem_singleton]at y
           subst y;exact .inr (d1.hh.free hx)
          ·exact .inl (sub2 q y)
         ·exact .inr (d1.hh.free (hnone q y))
     ·exact p2.elim
 ·exact p.elim
end
section
variable {M:Mx} {X:Cx} {es:List Expr} {p px cp tp spos:Pos} {al:Fa} {x y nm:Str} {i j m n':Nat} {b:Fb} {CX:CXT} {k:Nat} {fd:FuncData} {ps:List Str}
theorem zc {C f:Addr} (hC:PySem.W.nsIn M.K mainGlobals nm=some (some (.ref C))) (Mk:Mk M.K C f)
  (F:FnOk X.prog X.w M.K M.mg X.base CX k f fd ps (spP M.K (m+2) n' b)) (hr:Room (k+1) X.A) (hg:Gl X nm) (hm:M.mg nm=some (.ref C)) (hb:Binds M.K fd ps []) (hx:Passes CX X M.E) (v:PE X (.Name y px) (d9 j)) (ha:DA M X es al) (hA:AL al m)
  (hN:X.N.Nodup) (hi:X.N[i]?=some x) (hlo:Loc X.env.scope x)
  (hf:X.fn x=true\/X.env.scope.names.lookup x=some .local:=by first | exact .inl rfl | exact .inr rfl | assumption)
  (hdb:(nm == ("__debug__" : Str))=false:=by decide) (he:starEach (.Name y px :: es) X.env=(false,eval (.Name y px) X.env) :: starEach es X.env:=by rfl) (hpl:(backTo cp (starEach es X.env)).any (·.1)=false:=by rfl)
  (hs2:swapsWith (.Call (.Name nm p) (.Name y px :: es) [] cp) (some (.Name x tp)) spos.line X.env=pure false:=by rfl) :
  DS M X (.Assign [.Name x tp] (.Call (.Name nm p) (.Name y px :: es) [] cp) spos) (oQ i nm n' j b al):=λhK hM=>by
 have F':FnOk X.prog X.w X.K X.mg X.base CX k f fd ps (spP M.K (m+2) n' b):=by
  rw [hK,hM];exact F
 exact psI (rW hN hi hlo (AV (by rw [hK];exact Mk) F' hr hg (by rw [hM];exact hm) (by rw [hK];exact hb) .nil hx (b5 v (ha hK hM) he) hdb he hpl) hs2 hf) λ_ _ _ z=>DH (lH hi) hC (fun ρ ys q=>by rw [hA ρ ys q]) z
end
end L3
namespace B
inductive F where
 |nil
 |cons (k:Nat) (c r:F)
namespace F
noncomputable def pre:F->List Nat
 |nil=>[]
 |cons k c r=>k :: (pre c++pre r)
noncomputable def roots:F->List Nat
 |nil=>[]
 |cons k _ r=>k :: roots r
noncomputable def f_:F->List Nat
 |nil=>[]
 |cons k c r=>f_ r++(k :: f_ c)
noncomputable def app:F->F->F
 |nil,g=>g
 |cons k c r,g=>cons k c (app r g)
noncomputable def mir:F->F
 |nil=>nil
 |cons k c r=>app (mir r) (cons k (mir c) nil)
noncomputable def map (h:Nat->Nat):F->F
 |nil=>nil
 |cons k c r=>cons (h k) (map h c) (map h r)
noncomputable def Con (ch:Nat->List Nat):F->Prop
 |nil=>True
 |cons k c r=>ch k=roots c/\Con ch c/\Con ch r
noncomputable def Eld (e:Nat->Int):Int->F->Prop
 |_,nil=>True
 |p,cons k c r=>e k=p/\Eld e (k:Int) c/\Eld e p r
theorem pre_app:∀f g:F,pre (app f g)=pre f++pre g
 |nil,g=>rfl
 |cons k c r,g=>by rw [app,pre,pre,pre_app r g,List.cons_append,ZD]
theorem m9:∀f g:F,f_ (app f g)=f_ g++f_ f
 |nil,g=>by rw [app,f_,Zx]
 |cons k c r,g=>by rw [app,f_,f_,m9 r g,ZD]
theorem jk:∀f g:F,roots (app f g)=roots f++roots g
 |nil,g=>rfl
 |cons k c r,g=>by rw [app,roots,roots,jk r g,List.cons_append]
theorem sR:∀f:F,app f nil=f
 |nil=>rfl
 |cons k c r=>by rw [app,sR r]
theorem o6:∀f g h:F,app (app f g) h=app f (app g h)
 |nil,g,h=>rfl
 |cons k c r,g,h=>by rw [app,app,app,o6 r g h]
theorem t6:∀f g:F,mir (app f g)=app (mir g) (mir f)
 |nil,g=>by rw [app,mir,sR]
 |cons k c r,g=>by rw [app,mir,mir,t6 r g,o6]
theorem p6:∀f:F,mir (mir f)=f
 |nil=>rfl
 |cons k c r=>by
  rw [mir,t6,mir,mir,p6 c,p6 r];rfl
theorem j4:∀f:F,pre (mir f)=f_ f
 |nil=>rfl
 |cons k c r=>by rw [mir,pre_app,j4 r,f_,pre,j4 c,pre,Zx]
theorem za (f:F):f_ (mir f)=pre f:=by rw [<-j4 (mir f),p6]
theorem l4 {ch:Nat->List Nat}:∀f g:F,Con ch (app f g) ↔ Con ch f/\Con ch g
 |nil,g=>by rw [app,Con];simp
 |cons k c r,g=>by rw [app,Con,Con,l4 r g];simp only [and_assoc]
theorem uv {e:Nat->Int} {p:Int}:∀f g:F,Eld e p (app f g) ↔ Eld e p f/\Eld e p g
 |nil,g=>by rw [app,Eld];simp
 |cons k c r,g=>by rw [app,Eld,Eld,uv r g];simp only [and_assoc]
theorem snoc:∀f:F,f≠nil->∃g k c,f=app g (cons k c nil)
 |nil,h=>absurd rfl h
 |cons k c nil,_=>⟨nil,k,c,rfl⟩
 |cons k c (cons k' c' r'),_=>by
  obtain ⟨g,a,b,e⟩:=snoc (cons k' c' r') (λz=>nomatch z)
  exact ⟨cons k c g,a,b,by rw [app,e]⟩
theorem ic {e:Nat->Int} {q:Int}:∀(p:Int) (f:F),Eld e p f->q≠p->(∀j∈pre f,(j:Int)≠q)->(pre f).filter (λj=>decide (e j=q))=[]
 |_,nil,_,_,_=>rfl
 |p,cons k c r,h,hp,hq=>by
  obtain ⟨h1,h2,h3⟩:=h;rw [pre,List.filter_cons,if_neg (by rw [decide_eq_true_eq,h1];exact λz=>hp z.symm),List.filter_append,ic _ c h2 (λz=>hq k (by rw [pre];exact Zf) z.symm) (λj hj=>hq j (by rw [pre];simp [hj])),ic p r h3 hp (λj hj=>hq j (by rw [pre];simp [hj]))]
  rfl
theorem rE {e:Nat->Int}:∀(p:Int) (f:F),Eld e p f->(∀j∈pre f,(j:Int)≠p)->(pre f).filter (λj=>decide (e j=p))=roots f
 |_,nil,_,_=>rfl
 |p,cons k c r,h,hq=>by
  obtain ⟨h1,h2,h3⟩:=h;rw [pre,List.filter_cons,if_pos (by rw [decide_eq_true_eq,h1]),List.filter_append,ic _ c h2 (λz=>hq k (by rw [pre];exact Zf) z.symm) (λj hj=>hq j (by rw [pre];simp [hj])),rE p r h3 (λj hj=>hq j (by rw [pre];simp [hj])),roots]
  rfl
theorem jn {ch ch':Nat->List Nat}:∀f:F,(∀q∈pre f,ch q=ch' q)->Con ch' f->Con ch f
 |nil,_,_=>trivial
 |cons k c r,h,hc=>by
  obtain ⟨h1,h2,h3⟩:=hc;exact ⟨(h k (by rw [pre];exact Zf)).trans h1,jn c (λq m=>h q (by rw [pre];simp [m])) h2,jn r (λq m=>h q (by rw [pre];simp [m])) h3⟩
theorem qk {e:Nat->Int}:∀(p:Int) (f:F),Eld e p f->(pre f).Nodup->(∀j∈pre f,(j:Int)≠p)->Con (λq=>(pre f).filter (λj=>decide (e j=(q:Int)))) f
 |_,nil,_,_,_=>trivial
 |p,cons k c r,h,nd,hp=>by
  obtain ⟨h1,h2,h3⟩:=h;rw [pre,List.nodup_cons,ZK]at nd;obtain ⟨nk,n1,n2,n3⟩:=nd;have hpk:(k:Int)≠p:=hp k (by rw [pre];exact Zf)
  have kc:∀j∈pre c,(j:Int)≠(k:Int):=λj m z=>nk (by
   have:j=k:=by lia
   rw [<-this];simp [m])
  have kr:∀j∈pre r,(j:Int)≠(k:Int):=λj m z=>nk (by
   have:j=k:=by lia
   rw [<-this];simp [m])
  have pc:∀j∈pre c,(j:Int)≠p:=λj m=>hp j (by rw [pre];simp [m])
  have pr:∀j∈pre r,(j:Int)≠p:=λj m=>hp j (by rw [pre];simp [m])
  have split:∀q:Nat,(q:Int)≠p->(pre (cons k c r)).filter (λj=>decide (e j=(q:Int)))=(pre c).filter (λj=>decide (e j=(q:Int)))++(pre r).filter (λj=>decide (e j=(q:Int))):=λq hq=>by
   rw [pre,List.filter_cons,if_neg (by rw [decide_eq_true_eq,h1];exact λz=>hq z.symm),List.filter_append]
  refine ⟨?_,jn c (λq m=>?_) (qk _ c h2 n1 kc),jn r (λq m=>?_) (qk p r h3 n2 pr)⟩
  ·show (pre (cons k c r)).filter (λj=>decide (e j=(k:Int)))=roots c
   rw [split k hpk,rE _ c h2 kc,ic p r h3 hpk kr,Zx]
  ·show (pre (cons k c r)).filter (λj=>decide (e j=(q:Int)))=(pre c).filter (λj=>decide (e j=(q:Int)))
   rw [split q (pc q m),ic p r h3 (pc q m) (λj mj z=>n3 q m j mj (by lia)),Zx]
  ·show (pre (cons k c r)).filter (λj=>decide (e j=(q:Int)))=(pre r).filter (λj=>decide (e j=(q:Int)))
   rw [split q (pr q m),ic _ c h2 (λz=>kr q m z) (λj mj z=>n3 j mj q m (by lia)),List.nil_append]
end F
end B
namespace B
namespace F
theorem jt:∀f:F,(f_ f).Perm (pre f)
 |nil=>List.Perm.refl _
 |cons k c r=>by
  rw [f_,pre];have h1:=jt c;have h2:=jt r;have:(f_ r++k :: f_ c).Perm (k :: (f_ r++f_ c)):=List.perm_middle;refine this.trans (List.Perm.cons k ?_);exact (h2.append h1).trans List.perm_append_comm
structure Pf (n:Nat) (e:Nat->Int) (c:F):Prop where
 pre:0 :: pre c=List.range n
 root:e 0=-1
 eld:Eld e 0 c
variable {n:Nat} {e:Nat->Int} {c:F}
noncomputable def full (c:F):F:=cons 0 c nil
theorem Pf.pos (h:Pf n e c):0<n:=by
 have:=congrArg List.length h.pre;rw [Zr,Zh]at this
 lia
theorem Pf.preF (h:Pf n e c):F.pre (full c)=List.range n:=by
 unfold full;rw [F.pre,F.pre,Zx];exact h.pre
theorem Pf.eldF (h:Pf n e c):Eld e (-1) (full c):=⟨h.root,h.eld,trivial⟩
theorem Pf.con (h:Pf n e c):Con (λq=>(List.range n).filter (λj=>decide (e j=(q:Int)))) (full c):=by
 have:=qk (-1) (full c) h.eldF (by rw [h.preF];exact List.nodup_range) (λj _=>by lia)
 rw [h.preF]at this;exact this
noncomputable def R (c:F):List Nat:=f_ (full c)
noncomputable def g (c:F) (k:Nat):Nat:=(R c).idxOf k
noncomputable def e1 (e:Nat->Int) (c:F) (i:Nat):Int:=match (R c)[i]? with
 |some k=>if e k<0 then -1 else (g c (e k).toNat:Int)
 |none=>-1
noncomputable def c1 (c:F):F:=map (g c) (mir c)
theorem p7 {e:Nat->Int}:∀(p:Int) (f:F),Eld e p f->∀k∈F.pre f,e k=p\/∃j:Nat,j∈F.pre f/\e k=(j:Int)
 |_,nil,_,_,m=>by cases m
 |p,cons a c r,h,k,m=>by
  obtain ⟨h1,h2,h3⟩:=h;rw [F.pre]at m;rcases Zo.mp m with rfl | m
  ·exact .inl h1
  ·rcases Zs.mp m with m | m
   ·rcases p7 _ c h2 k m with z | ⟨j,j1,j2⟩
    ·exact .inr ⟨a,by rw [F.pre];exact Zf,z⟩
    ·exact .inr ⟨j,by rw [F.pre];simp [j1],j2⟩
   ·rcases p7 p r h3 k m with z | ⟨j,j1,j2⟩
    ·exact .inl z
    ·exact .inr ⟨j,by rw [F.pre];simp [j1],j2⟩
end F
end B
namespace B
namespace F
noncomputable def path:F->List Nat
 |nil=>[]
 |cons k c nil=>k :: path c
 |cons _ _ (cons k c r)=>path (cons k c r)
noncomputable def iK:F->Nat->Nat->F
 |f,0,x=>app f (cons x nil nil)
 |nil,_+1,_=>nil
 |cons k c nil,d+1,x=>cons k (iK c d x) nil
 |cons k c (cons k' c' r'),d+1,x=>cons k c (iK (cons k' c' r') (d+1) x)
theorem oR:∀(f:F) (x:Nat),path (app f (cons x nil nil))=[x]
 |nil,x=>rfl
 |cons k c nil,x=>rfl
 |cons k c (cons k' c' r'),x=>by
  have:=oR (cons k' c' r') x;rw [app]at this ⊢;rw [app];rw [path];exact this
theorem lx {e e':Nat->Int}:∀(p:Int) (f:F),(∀k∈F.pre f,e' k=e k)->Eld e p f->Eld e' p f
 |_,nil,_,_=>trivial
 |p,cons k c r,h,hc=>by
  obtain ⟨h1,h2,h3⟩:=hc;exact ⟨(h k (by rw [F.pre];exact Zf)).trans h1,lx _ c (λq m=>h q (by rw [F.pre];simp [m])) h2,lx p r (λq m=>h q (by rw [F.pre];simp [m])) h3⟩
theorem xy {k d x:Nat} {c r:F}:∃k' c' r',iK (cons k c r) (d+1) x=cons k' c' r':=by
 cases r with
 |nil=>exact ⟨_,_,_,by rw [iK]⟩
 |cons a b t=>exact ⟨_,_,_,by rw [iK]⟩
theorem mC {e:Nat->Int} {x:Nat}:∀(f:F) (d:Nat) (p:Int),d<=(path f).length->Eld e p f->e x=(if d=0 then p else ((path f)[d-1]?.getD 0:Int)) ->
  F.pre (iK f d x)=F.pre f++[x]/\path (iK f d x)=(path f).take d++[x]/\Eld e p (iK f d x)
 |f,0,p,_,h,hx=>by
  rw [iK,pre_app,oR,uv];exact ⟨rfl,rfl,h,by simpa using hx,trivial,trivial⟩
 |nil,d+1,p,hd,_,_=>by
  rw [path]at hd;simp at hd
 |cons k c nil,d+1,p,hd,h,hx=>by
  obtain ⟨h1,h2,h3⟩:=h;rw [path,Zr]at hd;have ih:=mC (e:=e) (x:=x) c d (k:Int) (by lia) h2 (by
   rw [hx,if_neg (by lia),path]
   by_cases d0:d=0
   ·subst d0
    rfl
   ·obtain ⟨m,rfl⟩:∃m,d=m+1:=⟨d-1,by lia⟩
    rw [if_neg (by lia)]
    rfl)
  rw [iK,F.pre,F.pre,ih.1,F.pre];refine ⟨by simp [F.pre],?_,h1,ih.2.2,trivial⟩
  rw [path,path,ih.2.1,List.take_succ_cons,List.cons_append]
 |cons k c (cons k' c' r'),d+1,p,hd,h,hx=>by
  obtain ⟨h1,h2,h3⟩:=h;have hp:path (cons k c (cons k' c' r'))=path (cons k' c' r'):=by rw [path]
  rw [hp]at hd hx;have ih:=mC (e:=e) (x:=x) (cons k' c' r') (d+1) p hd h3 hx;obtain ⟨a,b,t,hq⟩:=xy (k:=k') (d:=d) (x:=x) (c:=c') (r:=r');rw [iK,F.pre,ih.1,hp];refine ⟨?_,?_,h1,h2,ih.2.2⟩
  ·show k :: (F.pre c++(F.pre (cons k' c' r')++[x]))=(k :: (F.pre c++F.pre (cons k' c' r')))++[x]
   rw [List.cons_append,ZD]
  rw [hq]at ih ⊢;rw [path];exact ih.2.1
end F
end B
namespace B
open PySem L2 L3
noncomputable def gz:Fs:=(aH (sIf (ay (eOp gLt (af 1) (eB dJ (ag (af 0) au)))) (bI (eOp gIx (af 0) (af 1))) sNx)
 (aH (bU 2 (eOp gj (eOp jQ (eC (.int 7919)) (af 1)) (eC (.int 5))))
 (aH (sIf (ay (eOp gGt (eB dJ (ag (af 0) au)) (eC (.int 0)))) (bU 2 (eOp gI (eOp gj (eOp jQ (eOp gIx (af 0) (eOp gI (af 1) (eB dJ (ag (af 0) au)))) (eC (.int 48271))) (eOp jQ (af 1) (eC (.int 7919)))) (eC (.int 2147483647)))) sNx)
 (bI (eOp gI (eOp jQ (af 2) (af 2)) (eC (.int 2147483629)))))))
noncomputable def bS:Fn:=bW 2 3 gz
noncomputable def dB:Fs:=(bI (i_ (eW "int" (af 0)) (xn (eW "bool" (af 0)))))
noncomputable def aC:Fn:=bW 1 1 dB
noncomputable def fL:Fs:=(aH (bU 2 (eC (.str "abcdefghijklmnopqrstuvwxyz")))
 (aH (bU 3 (eC (.str "")))
 (aH (gX (iR1 (eOp gj (eC (.int 1)) (eOp gI (af 0) (af 1)))) (gNm 4) (bU 3 (eOp gj (af 3) (eOp gIx (af 2) (eOp gI (eOp nE (af 0) (eOp gj (eC (.int 9)) (eOp jQ (eOp jQ (eC (.int 4)) (af 4)) (af 4)))) (eC (.int 26)))))))
 (bI (af 3)))))
noncomputable def dv:Fn:=bW 2 5 fL
noncomputable def gv:Fs:=(aH (bU 5 (fJ au))
 (aH (bU 6 (eSh (fJ au)))
 (aH (gX (iR1 (af 2)) (gNm 7) (aH (bU 8 (eOp gI (eOp jQ (aT bS (ag (af 0) (ag (eOp gj (af 1) (af 7)) au))) (eC (.int 69621))) (eC (.int 2147483629))))
 (aH (sIf (ay (eOp gGt (af 7) (eC (.int 0)))) (aH (bU 9 (eOp gj (eC (.int 1)) (eOp gI (af 8) (eB dJ (ag (af 6) au)))))
 (aH (sIf (ay (eOp gEq (eOp gI (eOp nE (af 8) (eC (.int 16))) (eC (.int 3))) (eC (.int 0)))) (bU 9 (eB dJ (ag (af 6) au))) sNx)
 (aH (bU 6 (eSh (eSl w8 (af 6) tj (kx (eB t8 (ag (af 9) (ag (af 4) au)))))))
 (nV 5 (eSh (mO (ag (eOp gIx (af 6) (eUn jw (eC (.int 1)))) (ag (eSh (aT dv (ag (eOp nE (af 8) (eC (.int 64))) (ag (af 3) au)))) (ag (eOp gj (eC (.int 1)) (eOp gI (eOp nE (af 8) (eC (.int 4096))) (eC (.int 9)))) au))))))))) (nV 5 (eSh (mO (ag (eUn jw (eC (.int 1))) (ag (eSh (aT dv (ag (eOp nE (af 8) (eC (.int 64))) (ag (af 3) au)))) (ag (eOp gj (eC (.int 1)) (eOp gI (eOp nE (af 8) (eC (.int 4096))) (eC (.int 9)))) au)))))))
 (bU 6 (eSh (eOp gj (af 6) (fJ (ag (af 7) au))))))))
 (kL 5))))
noncomputable def fi:Fn:=bW 5 10 gv
local macro_rules
 |`(tactic| push_cast only [$a,*] $[$l:location]?)=>do
  let e <- ("v_var v_c IV IL CD Ca FF Ex v_and v_or v_not IA Dj zm Ha Gp CB v_b Ea v_bor Cz B_ Iv GY GN zX zO Jp ED nt Jl IK IP Jh FC HV HI FJ GB Cn HE Jt Ji IS HZ Fz Ic Dq HJ DL Dd Hf Gf Em Fv Fx Ho Gh Gx Hy Iw IB Fj Jc HY CM Cj Hg E_ AI zT C3 Cy CG DD G9 G6 C5 Gb C_ Eh Dr GA Hb DY IW GD Dw HS EK Cr Ip Al Hr EX G8 Fm Jr IQ Jy GF EC B0 HW H_ Eb F6 FO Ik Ig G5 Iq FN GP Hk GQ GW Jf Js IF Jd II Jq Dl Ht HR CJ EF Ci Ed Es CN Iu Ek Fp Dc at0 at1 at2 FP CQ Dn Cc Ep CO BV DM DZ Eg El Ew Ct BM EW Ey DC Jn Ja Jx IY Jw ID cq gk xb flat List.map_cons List.map_nil List.length_cons List.length_nil List.getElem?_cons_zero List.getElem?_cons_succ List.getElem?_nil List.set_cons_zero List.set_cons_succ List.cons_append List.nil_append List.append_nil List.replicate_succ List.replicate_zero Nat.reduceAdd Nat.reduceSub Nat.reduceLeDiff Nat.reduceLT Nat.reduceEqDiff Nat.zero_add Bool.not_true Bool.not_false if_true if_false Bool.false_eq_true reduceIte decide_true decide_false reduceCtorEq zw IJ Int.reduceLT Int.reduceLE Int.reduceNeg Int.reducePow Int.reduceToNat Int.reduceMul Int.reduceAdd Int.reduceSub Nat.reducePow and_true true_and and_self List.length_map Gq HB v_sub FY Hm FK Gj He tu GG F9 Int.cast_ofNat_Int Int.reduceEq Int.reduceNe HN Cg BZ GL HU Gg GI Fu".splitOn " ").toArray.mapM λs=>`(Lean.Parser.Tactic.simpLemma| $(Lean.mkIdent s.toName):ident)
  `(tactic| simp (maxSteps:=1000000) -implicitDefEqProofs only [$e,*,$a,*] $[$l]?)
theorem vi (z:Int):aC [.int z]=.ok (.sh (.bool true)):=by
 unfold aC dB;push_cast only [and_self]
theorem pP (ns:List Int) (k:Int) (h0:0<=k) (h1:k<1000000):∃z,bS [.list (ns.map PyData.int),.int k]=.ok (.sh (.int z)):=by
 unfold bS gz;by_cases hk:k<(ns.length:Int)
 ·obtain ⟨x,e1,e2⟩:=rT (ns.map PyData.int) k h0 (by simpa using hk)
  rw [Za]at e1;obtain ⟨z,_,rfl⟩:=Zp.mp e1;exact ⟨z,by push_cast only [decide_eq_true hk,e2]⟩
 ·by_cases hl:(0:Int)<ns.length
  ·have hm:=fA k hl
   obtain ⟨x,e1,e2⟩:=rT (ns.map PyData.int) (k % (ns.length:Int)) hm.1 (by simpa using hm.2)
   rw [Za]at e1;obtain ⟨z,_,rfl⟩:=Zp.mp e1;have h2:=fA (z * 48271+k * 7919) (show (0:Int)<2147483647 by decide)
   have c2:iU ((z * 48271+k * 7919) % 2147483647) ((z * 48271+k * 7919) % 2147483647)=true:=zw (by lia) (by lia)
   refine ⟨(z * 48271+k * 7919) % 2147483647 * ((z * 48271+k * 7919) % 2147483647) % 2147483629,?_⟩;push_cast only [decide_eq_false hk,decide_eq_true hl,hl,e2,c2]
  ·have c2:iU (7919 * k+5) (7919 * k+5)=true:=zw (by lia) (by lia)
   refine ⟨(7919 * k+5) * (7919 * k+5) % 2147483629,?_⟩;push_cast only [decide_eq_false hk,decide_eq_false hl,c2]
structure Nd where
 e:Int
 l:Str
 t:Int
noncomputable def A_ (l:Str):Prop:=1<=l.length/\l.length<=9/\∀c∈l.cps.toList,97<=c/\c<=122
noncomputable def F7 (n:Nd):Prop:=A_ n.l/\1<=n.t/\n.t<=9
noncomputable def ndD (n:Nd):PyData:=.tuple [.int n.e,.str n.l,.int n.t]
noncomputable def av (ts:List Nd):List PyData:=ts.map ndD
inductive Grown (deep:Nat):List Nd->List Int->Prop
 |root {n:Nd}:F7 n->n.e=-1->Grown deep [n] [0]
 |step {ns:List Nd} {way:List Int} {c:Nat} {n:Nd}:Grown deep ns way->1<=c->c<=way.length->c<=deep->F7 n->way[c-1]?=some n.e->Grown deep (ns++[n]) (way.take c++[(ns.length:Int)])
theorem Grown.pos {deep:Nat} {ns:List Nd} {way:List Int} (g:Grown deep ns way):0<ns.length/\0<way.length:=by
 cases g with
 |root=>simp
 |step=>simp
theorem Grown.way_lt {deep:Nat} {ns:List Nd} {way:List Int} (g:Grown deep ns way):∀x∈way,0<=x/\x<ns.length:=by
 induction g with
 |root=>simp
 |@step ns way c n g h1 h2 h3 h4 h5 ih =>
  intro x hx;rw [Zs]at hx;rw [Zd];rcases hx with hx | hx
  ·have:=ih x (List.mem_of_mem_take hx)
   simp
   lia
  ·have:x=ns.length:=by simpa using hx
   simp
   lia
theorem Grown.elder {deep:Nat} {ns:List Nd} {way:List Int} (g:Grown deep ns way):∀(k:Nat) (n:Nd),ns[k]?=some n->(k=0->n.e=-1)/\(0<k->0<=n.e)/\n.e<k:=by
 induction g with
 |@root n h e =>
  intro k m hm;cases k with
  |zero =>
   have:n=m:=by simpa using hm
   subst this;exact ⟨λ_=>e,λh=>absurd h (Nat.lt_irrefl _),by lia⟩
  |succ k=>simp at hm
 |@step ns way c n g h1 h2 h3 h4 h5 ih =>
  intro k m hm;by_cases hk:k<ns.length
  ·rw [List.getElem?_append_left hk]at hm
   exact ih k m hm
  ·rw [List.getElem?_append_right (by lia)]at hm
   have hk':k=ns.length:=by
    have:=(Zb.mp hm).1;simp at this
    lia
   subst hk';have:n=m:=by simpa using hm
   subst this;have hp:=g.pos.1;have:=g.way_lt n.e (ZB h5);exact ⟨λh=>by lia,λ_=>this.1,this.2⟩
theorem AW {k:Int} (h0:0<=k) (h1:k<26):∃c,atI (Str.ofString "abcdefghijklmnopqrstuvwxyz").cps.toList k=some c/\97<=c/\c<=122:=by
 have e:(Str.ofString "abcdefghijklmnopqrstuvwxyz").cps.toList=List.range' 97 26:=by decide +kernel
 rw [e];obtain ⟨v,e1,e2⟩:=rT (List.range' 97 26) k h0 (by simpa using h1)
 refine ⟨v,e2,?_⟩;have:=List.mem_range'.mp (ZB e1)
 lia
theorem yA (k:Int) (h0:0<=k) (h1:k<26):∃c,atI (Str.ofString "abcdefghijklmnopqrstuvwxyz").cps.toList k=some c/\(97<=c/\c<=122):=AW h0 h1
theorem t7 (a b:Str):(a++b).cps.toList=a.cps.toList++b.cps.toList:=PyProof.Rows.cps_toList_append a b
theorem tJ (a:Str):a.length=a.cps.toList.length:=by simp [Str.length]
theorem xY (a:Str) (c:Nat):(a++⟨#[c]⟩:Str).length=a.length+1:=by
 rw [tJ,t7,tJ,Zd];rfl
theorem wu (z m:Int) (m1:1<=m) (m2:m<=9):∃l,A_ l/\dv [.int z,.int m]=.ok (.sh (.str l)):=by
 unfold dv fL;have hm:=fA z (show 0<m by lia)
 have s1:ba (1+z % m)=true:=sI (by lia) (by lia)
 have p0:(0:Int)<m:=by lia
 obtain ⟨f,hf⟩:∃f:Nat->Nat,∀i:Nat,atI (Str.ofString "abcdefghijklmnopqrstuvwxyz").cps.toList (z / (9+4 * (0+(i:Int)) * (0+(i:Int))) % 26)=some (f i)/\(97<=f i/\f i<=122) :=
  ⟨λi=>Classical.choose (yA _ (fA (z / (9+4 * (0+(i:Int)) * (0+(i:Int)))) (show (0:Int)<26 by decide)).1 (fA _ (by decide)).2),λi=>Classical.choose_spec (yA _ (fA (z / (9+4 * (0+(i:Int)) * (0+(i:Int)))) (show (0:Int)<26 by decide)).1 (fA _ (by decide)).2)⟩
 push_cast only [p0,s1];generalize hL:cy _ _ _ _=r
 refine gc hL (λi ρ=>∃(l:Str) (v:Option OD),ρ=[some (.sh (.int z)),some (.sh (.int m)),some (.sh (.str (Str.ofString "abcdefghijklmnopqrstuvwxyz"))),some (.sh (.str l)),v]/\l.length=i/\∀c∈l.cps.toList,97<=c/\c<=122) ⟨_,_,rfl,rfl,λc hc=>by cases hc⟩ ?_ ?_
 ·rintro i d ρ hd ⟨l,v,rfl,hl,hc⟩
  obtain ⟨hi,rfl⟩:=jd hd;have i9:(i:Int)<9:=by lia
  have ib:0<=4 * (0+(i:Int)) * (0+(i:Int))/\4 * (0+(i:Int)) * (0+(i:Int))<=4 * 8 * 8:=by
   have a1:0<=(0+(i:Int)):=by lia
   have a2:(0+(i:Int))<=8:=by lia
   refine ⟨Int.mul_nonneg (by lia) a1,?_⟩
   exact Int.mul_le_mul (by lia) a2 a1 (by lia)
  have ec:=(hf i).1;have c1:=(hf i).2.1;have c2:=(hf i).2.2;generalize f i=c at ec c1 c2
  have k1:iU (4 * (0+(i:Int))) (0+(i:Int))=true:=zw (by lia) (by lia)
  have k2:(0<9+4 * (0+(i:Int)) * (0+(i:Int))/\9+4 * (0+(i:Int)) * (0+(i:Int))<1073741824)=True:=eq_true ⟨by lia,by lia⟩
  have k3:((Str.ofString "abcdefghijklmnopqrstuvwxyz").length<=BIG)=True:=by decide +kernel
  have k4:(l.length+(⟨#[c]⟩:Str).length<=BIG)=True:=cJ (by rw [hl];show i+1<=1000;lia)
  push_cast only [k1,k2,k3,k4,ec,Option.map_some];refine ⟨_,_,rfl,by rw [xY,hl],λd hd=>?_⟩
  rw [t7,Zs]at hd;rcases hd with hd | hd
  ·exact hc d hd
  ·have:d=c:=by simpa using hd
   lia
 ·rintro ρ' rfl ⟨l,v,rfl,hl,hc⟩
  rw [kf]at hl;push_cast only [and_self];exact ⟨l,⟨by lia,by lia,hc⟩,rfl⟩
theorem qx (xs:List PyData) (k:Nat):cutD xs none (some (k:Int))=xs.take k:=by
 unfold cutD;rw [HT.xX,HT.zV,List.drop_zero,Nat.sub_zero];rcases Nat.le_total k xs.length with h | h
 ·rw [Nat.min_eq_left h]
 ·rw [Nat.min_eq_right h,List.take_of_length_le (Zn _),List.take_of_length_le h]
theorem oY {way:List Int} {k:Nat} (h1:1<=k) (h2:k<=way.length):∃e,way[k-1]?=some e/\atI ((way.take k).map PyData.int) (-1)=some (.int e):=by
 have hk:k-1<way.length:=by lia
 refine ⟨way[k-1],by simp [hk],?_⟩
 have h:way.take (k-1+1)=way.take (k-1)++[way[k-1]]:=by
  rw [List.take_add_one];simp [hk]
 rw [show k-1+1=k by lia]at h
 rw [h,Zl];exact yl _ _
theorem bu (ts:List Nd):(av ts).length=ts.length:=by unfold av;rw [Zc]
theorem nh (ts:List Nd) (n:Nd):av (ts++[n])=av ts++[.tuple [.int n.e,.str n.l,.int n.t]]:=by
 unfold av;rw [Zl];rfl
theorem AQ (ns:List Int) (st:Int) (many:Nat) (most deep:Int) (s0:0<=st) (s1:st<=1000) (n0:1<=many) (n1:many<=900) (m0:1<=most) (m1:most<=9) (d0:1<=deep) (d1:deep<=1000) :
  ∃ts way,Grown deep.toNat ts way/\ts.length=many/\fi [.list (ns.map PyData.int),.int st,.int many,.int most,.int deep]=.ok (.ol ((av ts).map OD.sh)):=by
 unfold fi gv;have s62:ba (many:Int)=true:=sI (by lia) (by lia)
 push_cast only [s62];generalize hL:cy _ _ _ _=r
 refine gc hL (λi ρ=>∃(ts:List Nd) (way:List Int) (v7 v8 v9:Option OD),ρ=[some (.sh (.list (ns.map PyData.int))),some (.sh (.int st)),some (.sh (.int many)),some (.sh (.int most)),some (.sh (.int deep)),some (.ol ((av ts).map OD.sh)),some (.sh (.list (way.map PyData.int))),v7,v8,v9]/\ts.length=i/\way.length<=i/\((i=0/\ts=[]/\way=[])\/(0<i/\Grown deep.toNat ts way)))
  ⟨[],[],_,_,_,rfl,rfl,Zn _,.inl ⟨rfl,rfl,rfl⟩⟩ ?_ ?_
 ·rintro i d ρ hd ⟨ts,way,v7,v8,v9,rfl,hti,hwi,hg⟩
  obtain ⟨hi,rfl⟩:=jd hd;rw [Int.toNat_natCast]at hi;obtain ⟨y,hy⟩:=pP ns (st+(0+(i:Int))) (by lia) (by lia)
  obtain ⟨l,hl,el⟩:=wu (y * 69621 % 2147483629 / 64) most m0 m1;have hq:=fA (y * 69621 % 2147483629 / 4096) (show (0:Int)<9 by decide)
  have lb:((av ts).length<BIG)=True:=by rw [bu];exact ja (by lia)
  by_cases h0:(0:Int)<0+(i:Int)
  ·have hg':Grown deep.toNat ts way:=by
    rcases hg with hg | hg
    ·lia
    ·exact hg.2
   have wp:=hg'.pos.2;have wl:(0:Int)<way.length:=by lia
   have hr:=fA (y * 69621 % 2147483629) wl;have fin:∀c:Nat,1<=c->c<=way.length->c<=deep.toNat->∀(e:Int),way[c-1]?=some e->Grown deep.toNat (ts++[⟨e,l,1+y * 69621 % 2147483629 / 4096 % 9⟩]) (way.take c++[(ts.length:Int)]):=λc c1 c2 c3 e he =>
    Grown.step hg' c1 c2 c3 ⟨hl,by show 1<=1+_;lia,by show 1+_<=9;lia⟩ he
   have lw:∀c:Nat,((way.take c).length+1<=BIG)=True:=λc=>cJ (by rw [ZE];lia)
   by_cases h3:y * 69621 % 2147483629 / 16 % 3=0
   ·obtain ⟨c,hc⟩:∃c:Nat,(if deep<(way.length:Int) then deep else (way.length:Int))=(c:Int):=⟨(if deep<(way.length:Int) then deep else (way.length:Int)).toNat,by split <;> lia⟩
    obtain ⟨c1,c2,c3⟩:1<=c/\c<=way.length/\c<=deep.toNat:=by split at hc <;> lia
    obtain ⟨e,he,hat⟩:=oY c1 c2;push_cast only [hy,el,wl,decide_eq_true h0,decide_eq_true h3,hc,qx,<-List.map_take,cV,hat,lb,lw];have t1:=nh ts ⟨e,l,1+y * 69621 % 2147483629 / 4096 % 9⟩;have t2:(av ts).map OD.sh++[OD.sh (.tuple [.int e,.str l,.int (1+y * 69621 % 2147483629 / 4096 % 9)])]=(av (ts++[⟨e,l,1+y * 69621 % 2147483629 / 4096 % 9⟩])).map OD.sh:=by rw [t1,Zl];rfl
    have w1:(way.take c).map PyData.int++[PyData.int (0+(i:Int))]=(way.take c++[(ts.length:Int)]).map PyData.int:=by rw [Zl,hti,Int.zero_add];rfl
    rw [t2,w1];exact ⟨_,_,_,_,_,rfl,by rw [Zd,hti];rfl,by rw [Zd,ZE,List.length_singleton];lia,.inr ⟨Nat.succ_pos _,fin c c1 c2 c3 e he⟩⟩
   ·obtain ⟨c,hc⟩:∃c:Nat,(if deep<1+y * 69621 % 2147483629 % (way.length:Int) then deep else 1+y * 69621 % 2147483629 % (way.length:Int))=(c:Int):=⟨(if deep<1+y * 69621 % 2147483629 % (way.length:Int) then deep else 1+y * 69621 % 2147483629 % (way.length:Int)).toNat,by split <;> lia⟩
    obtain ⟨c1,c2,c3⟩:1<=c/\c<=way.length/\c<=deep.toNat:=by split at hc <;> lia
    obtain ⟨e,he,hat⟩:=oY c1 c2;push_cast only [hy,el,wl,decide_eq_true h0,decide_eq_false h3,hc,qx,<-List.map_take,cV,hat,lb,lw];have t1:=nh ts ⟨e,l,1+y * 69621 % 2147483629 / 4096 % 9⟩;have t2:(av ts).map OD.sh++[OD.sh (.tuple [.int e,.str l,.int (1+y * 69621 % 2147483629 / 4096 % 9)])]=(av (ts++[⟨e,l,1+y * 69621 % 2147483629 / 4096 % 9⟩])).map OD.sh:=by rw [t1,Zl];rfl
    have w1:(way.take c).map PyData.int++[PyData.int (0+(i:Int))]=(way.take c++[(ts.length:Int)]).map PyData.int:=by rw [Zl,hti,Int.zero_add];rfl
    rw [t2,w1];exact ⟨_,_,_,_,_,rfl,by rw [Zd,hti];rfl,by rw [Zd,ZE,List.length_singleton];lia,.inr ⟨Nat.succ_pos _,fin c c1 c2 c3 e he⟩⟩
  ·obtain ⟨i0,rfl,rfl⟩:i=0/\ts=[]/\way=[]:=by
    rcases hg with hg | hg
    ·exact hg
    ·lia
   push_cast only [hy,el,decide_eq_false h0,cV,lb];subst i0;exact ⟨[⟨-1,l,1+y * 69621 % 2147483629 / 4096 % 9⟩],[0],_,_,_,rfl,rfl,by decide,.inr ⟨Nat.succ_pos _,Grown.root ⟨hl,by show 1<=1+_;lia,by show 1+_<=9;lia⟩ rfl⟩⟩
 ·rintro ρ' rfl ⟨ts,way,v7,v8,v9,rfl,hti,hwi,hg⟩
  rw [kf,Int.toNat_natCast]at hti hg;rcases hg with hg | hg
  ·lia
  ·push_cast only [and_self]
   exact ⟨ts,way,hg.2,hti,rfl⟩
theorem qD {ts:List Nd} {k:Nat} {n:Nd} (h:ts[k]?=some n):atI (av ts) (k:Int)=some (.tuple [.int n.e,.str n.l,.int n.t]):=dj (by unfold av;rw [Za,h];rfl)
instance:Inhabited Nd:=⟨⟨0, "",0⟩⟩
noncomputable def eOf (ts:List Nd) (k:Nat):Int:=(ts[k]?.map (·.e)).getD 0
noncomputable def PT (ts:List Nd) (c:F):Prop:=F.Pf ts.length (eOf ts) c
theorem hV {ts:List Nd} {k:Nat} {n:Nd} (h:ts[k]?=some n):eOf ts k=n.e:=by unfold eOf;rw [h];rfl
theorem xw {deep:Nat} {ns:List Nd} {way:List Int} (g:Grown deep ns way):∃c,PT ns c/\way=(0 :: F.path c).map (λk:Nat=>(k:Int)):=by
 induction g with
 |@root n h1 h2=>exact ⟨F.nil,⟨rfl,by rw [hV (n:=n) rfl];exact h2,trivial⟩,rfl⟩
 |@step ns way k n g h1 h2 h3 h4 h5 ih =>
  obtain ⟨c,p,hw⟩:=ih;subst hw;rw [Zc,Zr]at h2;have same:∀j,j<ns.length->eOf (ns++[n]) j=eOf ns j:=λj hj=>by
   unfold eOf;rw [List.getElem?_append_left hj]
  have new:eOf (ns++[n]) ns.length=n.e:=hV (by simp)
  have inR:∀j∈F.pre c,j<ns.length:=λj m=>by
   have:j∈0 :: F.pre c:=Ze _ m;rw [p.pre,ZH]at this;exact this
  have he:F.Eld (eOf (ns++[n])) 0 c:=F.lx 0 c (λj m=>same j (inR j m)) p.eld
  obtain ⟨q1,q2,q3⟩:=F.mC (x:=ns.length) c (k-1) 0 (by lia) he (by
   rw [new];rw [Za]at h5;by_cases k1:k=1
   ·subst k1
    have:=Zz h5;rw [if_pos rfl];exact this.symm
   ·obtain ⟨m,rfl⟩:∃m,k=m+2:=⟨k-2,by lia⟩
    rw [if_neg (by lia)]
    have e:(0 :: F.path c)[m+2-1]?=(F.path c)[m+2-1-1]?:=rfl;rw [e]at h5;obtain ⟨v,hv,hv2⟩:=Zp.mp h5;rw [hv,<-hv2];rfl)
  refine ⟨F.iK c (k-1) ns.length,⟨?_,?_,q3⟩,?_⟩
  ·rw [q1,<-List.cons_append,p.pre,Zd,Zr,List.length_nil,List.range_succ]
  ·rw [same 0 p.pos]
   exact p.root
  ·rw [q2]
   obtain ⟨m,rfl⟩:∃m,k=m+1:=⟨k-1,by lia⟩
   rw [Zk,Zk,List.take_succ_cons,Zl,Nat.add_sub_cancel,List.map_take];rfl
noncomputable def hX (ts:List Nd) (k:Nat):Nd:=ts[k]?.getD default
theorem sP {ts:List Nd} {k:Nat} (h:k<ts.length):(hX ts k).e=eOf ts k:=by
 unfold hX eOf;rw [Zg h];rfl
section
variable {ts:List Nd} {c:F}
end
noncomputable def fM:Fs:=(sIf (kP (ay (eOp gLt (af 1) (eC (.int 0)))) (ay (eOp gGe (af 1) (eB dJ (ag (af 0) au))))) il sNx)
noncomputable def bB:Fn:=bW 2 2 fM
noncomputable def eX:Fs:=(aH (gT (aT bB (ag (af 0) (ag (af 1) au))))
 (bI (dH (iEn (af 0)) (gTp 2 (bK (gNm 0) (bK (gNm 1) gm))) (ay (eOp gEq (eOp gIx (af 1) (eC (.int 0))) (af 2))) (af 0) 2 [1])))
noncomputable def cH:Fn:=bW 2 2 eX
noncomputable def EL (ts:List Nd):Prop:=∀(k:Nat) (n:Nd),ts[k]?=some n->(k=0->n.e=-1)/\(0<k->0<=n.e)/\n.e<k
theorem take_snoc {α:Type} {xs:List α} {i:Nat} {x:α} (h:xs[i]?=some x):xs.take (i+1)=xs.take i++[x]:=by rw [List.take_add_one,h];rfl
structure NumOk (L:List Nat) (i:Nat) (nums:List (List Nat)):Prop where
 row:∀(j:Nat) (r:List Nat),nums[j]?=some r->r≠[]/\r.Pairwise (·<·)/\∀k,k∈r ↔ k<i/\L[k]?=some j
 lt:∀(k v:Nat),k<i->L[k]?=some v->v<nums.length
 sum:(nums.map List.length).sum=i
noncomputable def D_ (f:Nat->Int) (n:Nat):List PyData:=(List.range n).map λx=>PyData.int (f x)
theorem Ij (f:Nat->Int) (n x:Nat) (v:Int):((D_ f n).map OD.sh).set x (.sh (.int v))=(D_ (λy=>if y=x then v else f y) n).map OD.sh:=by
 unfold D_;rw [Zi,Zi];apply List.ext_getElem?
 intro k;by_cases hk:x=k
 ·subst hk
  by_cases hn:x<n
  ·rw [List.getElem?_set_self (by simpa using hn),Za,Zy hn]
   simp
  ·rw [Zu (by simp;lia),Zu (by simp;lia)]
 ·rw [List.getElem?_set_ne hk,Za,Za]
  cases h:(List.range n)[k]? with
  |none=>rfl
  |some y =>
   have:y=k:=by
    have:=(Zb.mp h).2;simp at this
    exact this.symm
   subst this;simp [Ne.symm hk]
theorem nH (xs:List PyData) (j:Nat) (h:j<xs.length):bB [.list xs,.int j]=.ok (.sh .none):=by
 unfold bB fM;have d1:decide ((j:Int)<0)=false:=decide_eq_false (by lia)
 have d2:decide ((xs.length:Int)<=(j:Int))=false:=decide_eq_false (by lia)
 push_cast only [d1,d2]
noncomputable def iL (rs:List Nat):List Int:=rs.map λk:Nat=>(k:Int)
noncomputable def nD (rs:List Nat):List PyData:=(iL rs).map PyData.int
noncomputable def nO (rs:List Nat):List OD:=(nD rs).map OD.sh
theorem dM (rs:List Nat):(nO rs).map OD.er=nD rs:=cV _
theorem cL (rs:List Nat):(nD rs).length=rs.length:=by unfold nD iL;rw [Zc,Zc]
theorem rQ (rs:List Nat):(nO rs).length=rs.length:=by unfold nO;rw [Zc,cL]
theorem Dx (a b:List Nat):nO a++nO b=nO (a++b):=by unfold nO nD iL;rw [Zl,Zl,Zl]
theorem j3 (a:List Nat) (k:Nat):nO a++[OD.sh (.int (k:Int))]=nO (a++[k]):=by rw [<-Dx];rfl
theorem nc {rs:List Nat} {i k:Nat} (h:rs[i]?=some k):(nD rs)[i]?=some (.int (k:Int)):=by
 unfold nD iL;rw [Za,Za,h];rfl
noncomputable def chN (ts:List Nd) (q:Nat):List Nat:=(List.range ts.length).filter (λj=>decide (eOf ts j=(q:Int)))
theorem uT (ts:List Nd):dN (av ts)=(List.range ts.length).map λk:Nat=>PyData.tuple [.int (k:Int),ndD (hX ts k)]:=by
 apply List.ext_getElem?
 intro i;rw [Za];by_cases hi:i<ts.length
 ·rw [Zy hi]
  unfold dN av;rw [Za,List.getElem?_zipIdx,Za,Zg hi];unfold hX;simp [Zg hi]
 ·rw [Zu (by unfold dN av;simp;lia),Zu (by rw [Zh];lia)]
  rfl
theorem gJ (L:List Nat):(L.map λk:Nat=>OD.sh (.int (k:Int)))=nO L:=by
 unfold nO nD iL;rw [Zi,Zi];rfl
theorem i6 (ts:List Nd) (q:Nat) (hq:q<ts.length) (hl:ts.length<=100):cH [.list (av ts),.int q]=.ok (.ol (nO (chN ts q))):=by
 unfold cH eX;have ck:=nH (av ts) q (by rw [bu];exact hq)
 push_cast only [ck];generalize hC:cK _ _ _ _ _ _=rc
 have e:=jo hC (λk:Nat=>PyData.tuple [.int (k:Int),ndD (hX ts k)]) (λk=>decide (eOf ts k=(q:Int))) (λk:Nat=>.sh (.int (k:Int))) (List.range ts.length) (uT ts) (by rw [Zh];exact of_eq_true (cJ (by lia))) (by
  intro k hk;rw [ZH]at hk;have he:=sP hk;refine ⟨?_,λ_=>?_⟩
  ·push_cast only [ndD,he]
  ·push_cast only [ndD])
 subst e;rw [gJ];push_cast only [and_self];rfl
theorem hZ {β:Type} (f g:Nat->β) (n k:Nat) (hk:∀q,q≠k->g q=f q):((List.range n).map f).set k (g k)=(List.range n).map g:=by
 apply List.ext_getElem?
 intro i;by_cases hi:k=i
 ·subst hi
  by_cases hn:k<n
  ·rw [List.getElem?_set_self (by simpa using hn),Za,Zy hn]
   rfl
  ·rw [Zu (by simp;lia),Zu (by simp;lia)]
 ·rw [List.getElem?_set_ne hi,Za,Za]
  by_cases hn:i<n
  ·rw [Zy hn]
   show some (f i)=some (g i)
   rw [hk i (Ne.symm hi)]
  ·rw [Zu (by simp;lia)]
   rfl
noncomputable def chI (ts:List Nd) (i q:Nat):List Nat:=(List.range i).filter (λj=>decide (eOf ts j=(q:Int)))
theorem zr (ts:List Nd) (i q:Nat):(chI ts i q).length<=i:=by
 unfold chI;have:=List.length_filter_le (λj=>decide (eOf ts j=(q:Int))) (List.range i)
 rw [Zh]at this;exact this
theorem mD (ts:List Nd) (i q:Nat):chI ts (i+1) q=chI ts i q++(if eOf ts i=(q:Int) then [i] else []):=by
 unfold chI;rw [List.range_succ,List.filter_append];congr 1
 by_cases h:eOf ts i=(q:Int)
 ·rw [if_pos h]
  simp [h]
 ·rw [if_neg h]
  simp [h]
noncomputable def fU:Fs:=(sIf (kP (ay (eOp gLt (af 1) (eC (.int 0)))) (ay (eOp gGe (af 1) (eB dJ (ag (af 0) au))))) (mR "NoNode") sNx)
noncomputable def bO:Fn:=bW 2 2 fU
noncomputable def fR:Fs:=(aH (bU 2 (eD1 (eUn jw (eC (.int 1))) (eUn jw (eC (.int 1)))))
 (aH (gX (iEn (af 1)) (gTp 2 (bK (gNm 3) (bK (gNm 4) gm))) (sDP 2 (af 4) (af 3)))
 (aH (bU 5 (eSh (dH (gY (af 1)) (gNm 0) h_ (eOp gIx (af 1) (af 0)) 1 [0])))
 (qi 2 (bI (dH (gY (af 5)) (gNm 0) h_ (mO (ag (eOp gDx (af 1) (eOp gIx (af 0) (eC (.int 0)))) (ag (eOp gIx (af 0) (eC (.int 1))) (ag (eOp gIx (af 0) (eC (.int 2))) au)))) 1 [2]))))))
noncomputable def dw:Fn:=bW 2 6 fR
noncomputable def br:Fb:=(eS (jB 0 (λnm=>decide (nm = "Easel")) "tree" (jX 1 (eB gN (ag (af 1) au))))
 (eS (jB 0 (λnm=>decide (nm = "Easel")) "gap" (af 2))
 (eS (jB 0 (λnm=>decide (nm = "Easel")) "folds" (fJ au))
 (eS (jB 0 (λnm=>decide (nm = "Easel")) "anew" (md (eB qc (ag (eB dJ (ag (af 1) au)) au))))
 bNx))))
noncomputable def e_:Fs:=(bI (eB gN (ag (ni (λnm=>decide (nm = "Easel")) "tree" (af 0)) au)))
noncomputable def bg:Fn:=bW 1 1 e_
noncomputable def eM:Fs:=(bI (eB gN (ag (ni (λnm=>decide (nm = "Easel")) "folds" (af 0)) au)))
noncomputable def a8:Fn:=bW 1 1 eM
noncomputable def gD:Fs:=(bI (mO (ag (af 0) (ag (eSh (eB qc (ag (eB dJ (ag (af 0) au)) au))) au))))
noncomputable def bR:Fn:=bW 1 1 gD
noncomputable def fV:Fs:=(aH (bU 2 (eSh (dH (gY (eOp gIx (af 0) (eC (.int 0)))) (gNm 0) h_ (eOp gIx (af 0) (eC (.int 0))) 1 [])))
 (bI (dH (iEn (eOp gIx (af 0) (eC (.int 1)))) (gTp 2 (bK (gNm 0) (bK (gNm 1) gm))) (qz (ay (eOp (g5 false) (af 1) (af 2))) (ay (eOp (g5 false) (af 0) (af 3)))) (af 0) 2 [1,2])))
noncomputable def dF:Fn:=bW 2 3 fV
noncomputable def eY:Fs:=(aH (bU 2 eD0)
 (aH (gX (gY (af 1)) (gNm 3) (aH (bU 4 (af 3))
 (gH (ay (eOp gNe (af 4) (eUn jw (eC (.int 1))))) (aH (sDP 2 (af 4) (eC (.bool true)))
 (bU 4 (eOp gIx (eOp gIx (af 0) (af 4)) (eC (.int 0))))))))
 (qi 2 (bI (eB zK (ag (eB xr (ag (af 2) au)) au))))))
noncomputable def dP:Fn:=bW 2 5 eY
noncomputable def fP:Fs:=(aH (bU 1 (dH (gY (af 0)) (gNm 0) h_ (fJ au) 1 []))
 (aH (gX (iR2 (eC (.int 1)) (eB dJ (ag (af 0) au))) (gNm 2) (kX 1 (eOp gIx (eOp gIx (af 0) (af 2)) (eC (.int 0))) (af 2)))
 (qi 1 (bI (fJ (ag (dH (gY (af 0)) (gTp 3 (bK (gNm 0) (bK (gNm 1) (bK (gNm 2) gm)))) h_ (mO (ag (af 1) (ag (af 2) au))) 3 []) (ag (af 1) (ag (eOp jQ (fJ (ag (eC (.bool false)) au)) (eB dJ (ag (af 0) au))) au))))))))
noncomputable def eL:Fn:=bW 1 3 fP
noncomputable def fS:Fs:=(aH (bU 2 (fJ au))
 (aH (bU 3 (fJ (ag (eC (.int 0)) au)))
 (aH (gH (u7 (ay (eOp gNe (af 3) (fJ au)))) (aH (vK 3 (gNm 4))
 (aH (nV 2 (af 4))
 (sIf (kP (ay (af 1)) (dX (ay (eOp gIx (eOp gIx (af 0) (eC (.int 2))) (af 4))))) (qi 3 (bU 3 (eOp gj (af 3) (wj (eOp gIx (eOp gIx (af 0) (eC (.int 1))) (af 4)) (eUn jw (eC (.int 1))))))) sNx))))
 (kL 2))))
noncomputable def bP:Fn:=bW 2 5 fS
noncomputable def fq:Fs:=(aH (bU 1 (eOp jQ (fJ (ag (eUn jw (eC (.int 1))) au)) (eB dJ (ag (eOp gIx (af 0) (eC (.int 0))) au))))
 (aH (gX (iR1 (eB dJ (ag (eOp gIx (af 0) (eC (.int 0))) au))) (gNm 2) (gX (gY (eOp gIx (eOp gIx (af 0) (eC (.int 1))) (af 2))) (gNm 3) (uV 1 (af 3) (af 2))))
 (kL 1)))
noncomputable def dY:Fn:=bW 1 4 fq
noncomputable def di:Fs:=(aH (bU 3 (eOp gIx (af 2) (eOp gI (af 0) (eB dJ (ag (af 2) au)))))
 (aH (bU 4 (eOp gI (eOp nE (af 0) (eC (.int 8))) (af 1)))
 (aH (sIf (ay (eOp gEq (af 3) (eC (.str "put")))) il sNx)
 (aH (sIf (ay (eOp gEq (af 3) (eC (.str "move")))) il sNx)
 (bI (mO (ag (af 3) (ag (af 4) au))))))))
noncomputable def cI:Fn:=bW 3 8 di
noncomputable def ku:Fs:=(aH (bU 2 (fJ au))
 (aH (gX (gY (af 0)) (gNm 3) (nV 2 (xN (eOr (eOp gEq (eOp gIx (af 3) (eC (.int 0))) (eUn jw (eC (.int 1)))) (i_ (eOp gIx (af 2) (eOp gIx (af 3) (eC (.int 0)))) (eOp (g5 true) (eOp gIx (af 3) (eC (.int 0))) (af 1)))))))
 (aH (qi 2 (bU 4 (dH (iEn (af 2)) (gTp 2 (bK (gNm 0) (bK (gNm 1) gm))) (ay (af 1)) (af 0) 2 [])))
 (nC (jX 4 (aT dw (ag (af 0) (ag (af 4) au)))) 4))))
noncomputable def iZ:Fn:=bW 2 5 ku
noncomputable def eN:Fs:=(aH (gT (aT bB (ag (af 0) (ag (af 2) au))))
 (sIf (ay (eOp (g5 true) (af 2) (af 1))) il sNx))
noncomputable def cO:Fn:=bW 3 3 eN
noncomputable def dq:Fs:=(aH (gT (aT bO (ag (af 0) (ag (af 2) au))))
 (sIf (ay (eOp (g5 true) (af 2) (af 1))) (mR "NoDeed") sNx))
noncomputable def bE:Fn:=bW 3 3 dq
noncomputable def gy:Fs:=(aH (bU 2 (eSh (aT dY (ag (af 0) au))))
 (aH (bU 3 (fJ au))
 (aH (gX (gY (af 1)) (gNm 4) (aH (bU 5 (eUn jw (eC (.int 1))))
 (aH (sIf (ay (eOp gGe (eOp gIx (af 2) (af 4)) (eC (.int 0)))) (bU 5 (uP (af 1) (eOp gIx (af 2) (af 4)))) sNx)
 (nV 3 (mO (ag (af 5) (ag (eOp gIx (eOp gIx (eOp gIx (af 0) (eC (.int 0))) (af 4)) (eC (.int 0))) (ag (eOp gIx (eOp gIx (eOp gIx (af 0) (eC (.int 0))) (af 4)) (eC (.int 1))) au))))))))
 (kL 3))))
noncomputable def d6:Fn:=bW 2 6 gy
noncomputable def gR:Fs:=(aH (bU 2 (eSh (aT bP (ag (af 0) (ag (eC (.bool true)) au)))))
 (aH (gX (iTp (eSl zD (af 1) (kx (eC (.int 1))) (kx (eOp gj (eC (.int 2)) (eB vv (ag (eOp gEq (eOp gIx (af 1) (eC (.int 0))) (eC (.str "move"))) au)))))) (gNm 3) (sIf (kP (ay (eOp gLt (af 3) (eC (.int 0)))) (ay (eOp gGe (af 3) (eB dJ (ag (af 2) au))))) (bI (eC (.int 1))) sNx))
 (aH (bU 4 (eOp gIx (af 2) (eOp gIx (af 1) (eC (.int 1)))))
 (aH (sIf (kP (ay (eOp gEq (eOp gIx (af 1) (eC (.int 0))) (eC (.str "fold")))) (ay (eOp gEq (eOp gIx (af 1) (eC (.int 0))) (eC (.str "unfold"))))) (aH (bU 5 (i_ (eOp gNe (eOp gIx (eOp gIx (af 0) (eC (.int 1))) (af 4)) (fJ au)) (eOp gEq (eOp gIx (eOp gIx (af 0) (eC (.int 2))) (af 4)) (eOp gEq (eOp gIx (af 1) (eC (.int 0))) (eC (.str "unfold"))))))
 (bI (eOp gIx (fJ (ag (eC (.int 2)) (ag (eC (.int 0)) au))) (eB vv (ag (af 5) au))))) sNx)
 il))))
noncomputable def fX:Fn:=bW 2 8 gR
noncomputable def b8:Fb:=(eS (bU 2 (eSh (md (aT bP (ag (af 0) (ag (eC (.bool true)) au))))))
 (eS (bU 3 (eOp gIx (af 2) (eOp gIx (af 1) (eC (.int 1)))))
 (bIf (kP (ay (eOp gEq (eOp gIx (af 1) (eC (.int 0))) (eC (.str "fold")))) (ay (eOp gEq (eOp gIx (af 1) (eC (.int 0))) (eC (.str "unfold"))))) (eS (nG 0 2 (af 3) (eOp gEq (eOp gIx (af 1) (eC (.int 0))) (eC (.str "fold"))))
 (AY (fJ (ag (af 3) au))))
 G_)))
noncomputable def fW:Fs:=(aH (gT (aT bB (ag (af 0) (ag (af 2) au))))
 (sIf (kP (ay (eOp (g5 false) (af 2) (af 1))) (ay (eOp gEq (eB dJ (ag (aT cH (ag (af 0) (ag (af 2) au))) au)) (eC (.int 0))))) il sNx))
noncomputable def dt:Fn:=bW 3 3 fW
noncomputable def eJ:Fs:=(aH (gT (aT bO (ag (af 0) (ag (af 2) au))))
 (sIf (kP (ay (eOp (g5 false) (af 2) (af 1))) (ay (eOp gEq (eB dJ (ag (aT cH (ag (af 0) (ag (af 2) au))) au)) (eC (.int 0))))) (mR "NoDeed") sNx))
noncomputable def bZ:Fn:=bW 3 3 eJ
noncomputable def fQ:Fs:=(bI (aT iZ (ag (ni (λnm=>decide (nm = "Easel")) "tree" (af 0)) (ag (ni (λnm=>decide (nm = "Easel")) "folds" (af 0)) au))))
noncomputable def aF:Fn:=bW 1 1 fQ
noncomputable def aM:Fb:=(eS (bU 4 (eOp gIx (kG 0 (eSh (de (λnm=>List.lookup nm [("Easel",aF)]) "seen" (af 0) au))) (eC (.int 1))))
 (eS (jB 0 (λnm=>decide (nm = "Easel")) "tree" (eOp gIx (af 1) (eC (.int 0))))
 (eS (jB 0 (λnm=>decide (nm = "Easel")) "folds" (aT dF (ag (af 1) (ag (af 2) au))))
 (eS (bU 5 (eSh (kG 0 (eSh (de (λnm=>List.lookup nm [("Easel",aF)]) "seen" (af 0) au)))))
 (eS (bU 6 (eSh (dH (gY (eOp gIx (af 5) (eC (.int 1)))) (gNm 0) h_ (eOp gIx (eOp gIx (af 1) (eC (.int 1))) (af 0)) 1 [1])))
 (eS (bU 7 (eSh (dH (iEn (af 6)) (gTp 2 (bK (gNm 0) (bK (gNm 1) gm))) (kP (ay (eOp (g5 false) (af 1) (af 2))) (ay (eOp (g5 true) (af 1) (af 3)))) (af 0) 2 [3,4])))
 (eS (jB 0 (λnm=>decide (nm = "Easel")) "anew" (aT dP (ag (eOp gIx (af 5) (eC (.int 0))) (ag (af 7) au))))
 bNx)))))))
noncomputable def fN:Fs:=(aH (gT (aT bZ (ag (ni (λnm=>decide (nm = "Easel")) "tree" (af 0)) (ag (ni (λnm=>decide (nm = "Easel")) "folds" (af 0)) (ag (af 1) au)))))
 il)
noncomputable def cX:Fn:=bW 2 2 fN
noncomputable def bM:Fb:=(eS (gT (aT dt (ag (fj 0 (λnm=>decide (nm = "Easel")) "tree") (ag (fj 0 (λnm=>decide (nm = "Easel")) "folds") (ag (af 1) au)))))
 (eS (ik "Easel" "settle" 8 0 aM (ag (aT bR (ag (fj 0 (λnm=>decide (nm = "Easel")) "tree") au)) (ag (eOp gj (fj 0 (λnm=>decide (nm = "Easel")) "folds") (fJ (ag (af 1) au))) (ag (fJ (ag (af 1) au)) au))))
 bNx))
noncomputable def eP:Fs:=(aH (gT (aT bE (ag (ni (λnm=>decide (nm = "Easel")) "tree" (af 0)) (ag (ni (λnm=>decide (nm = "Easel")) "folds" (af 0)) (ag (af 1) au)))))
 il)
noncomputable def cA:Fn:=bW 2 2 eP
noncomputable def bj:Fb:=(eS (gT (aT cO (ag (fj 0 (λnm=>decide (nm = "Easel")) "tree") (ag (fj 0 (λnm=>decide (nm = "Easel")) "folds") (ag (af 1) au)))))
 (eS (ik "Easel" "settle" 8 0 aM (ag (aT bR (ag (fj 0 (λnm=>decide (nm = "Easel")) "tree") au)) (ag (dH (gY (fj 0 (λnm=>decide (nm = "Easel")) "folds")) (gNm 0) (ay (eOp gNe (af 0) (af 1))) (af 0) 1 [1]) (ag (fJ (ag (af 1) au)) au))))
 bNx))
noncomputable def iF:Fs:=(sIf (ay (eOp gEq (eOp gIx (af 1) (eC (.int 0))) (eC (.str "fold")))) (gT (de (λnm=>List.lookup nm [("Easel",cX)]) "fold" (af 0) (ag (eOp gIx (af 1) (eC (.int 1))) au))) (sIf (ay (eOp gEq (eOp gIx (af 1) (eC (.int 0))) (eC (.str "unfold")))) (gT (de (λnm=>List.lookup nm [("Easel",cA)]) "unfold" (af 0) (ag (eOp gIx (af 1) (eC (.int 1))) au))) (sIf (ay (eOp gEq (eOp gIx (af 1) (eC (.int 0))) (eC (.str "cut")))) il (sIf (ay (eOp gEq (eOp gIx (af 1) (eC (.int 0))) (eC (.str "put")))) il il))))
noncomputable def eR:Fn:=bW 2 2 iF
noncomputable def cB:Fb:=(eS (sIf (ay (eOp gEq (eOp gIx (af 1) (eC (.int 0))) (eC (.str "fold")))) (ik "Easel" "fold" 2 0 bM (ag (eOp gIx (af 1) (eC (.int 1))) au)) (sIf (ay (eOp gEq (eOp gIx (af 1) (eC (.int 0))) (eC (.str "unfold")))) (ik "Easel" "unfold" 2 0 bj (ag (eOp gIx (af 1) (eC (.int 1))) au)) (sIf (ay (eOp gEq (eOp gIx (af 1) (eC (.int 0))) (eC (.str "cut")))) il (sIf (ay (eOp gEq (eOp gIx (af 1) (eC (.int 0))) (eC (.str "put")))) il il))))
 bNx)
noncomputable def ia:Fn:=λ_=>.bad
noncomputable def fF:Fs:=(aH (sIf (ay (eW "str" (af 1))) (bI (i_ (eW "str" (af 0)) (eOp gEq (af 0) (af 1)))) sNx)
 (aH (sIf (ay (aT aC (ag (af 1) au))) (bI (i_ (aT aC (ag (af 0) au)) (eOp gEq (af 0) (af 1)))) sNx)
 (aH (sIf (ay (eW "tuple" (af 1))) (sIf (dX (ay (eW "tuple" (af 0)))) (bI (eC (.bool false))) sNx) (sIf (dX (ay (eW "list" (af 0)))) (bI (eC (.bool false))) sNx))
 (aH (sIf (ay (eOp gNe (eB dJ (ag (af 0) au)) (eB dJ (ag (af 1) au)))) (bI (eC (.bool false))) sNx)
 (aH (gX (o_ (af 0) (af 1)) (gTp 2 (bK (gNm 2) (bK (gNm 3) gm))) (sIf (dX (ay (aT ia (ag (af 2) (ag (af 3) au))))) (bI (eC (.bool false))) sNx))
 (bI (eC (.bool true))))))))
noncomputable def fE:Fn:=bW 2 4 fF
noncomputable def fH:Fs:=(aH (sIf (ay (eW "str" (af 1))) (bI (i_ (eW "str" (af 0)) (eOp gEq (af 0) (af 1)))) sNx)
 (aH (sIf (ay (aT aC (ag (af 1) au))) (bI (i_ (aT aC (ag (af 0) au)) (eOp gEq (af 0) (af 1)))) sNx)
 (aH (sIf (ay (eW "tuple" (af 1))) (sIf (dX (ay (eW "tuple" (af 0)))) (bI (eC (.bool false))) sNx) (sIf (dX (ay (eW "list" (af 0)))) (bI (eC (.bool false))) sNx))
 (aH (sIf (ay (eOp gNe (eB dJ (ag (af 0) au)) (eB dJ (ag (af 1) au)))) (bI (eC (.bool false))) sNx)
 (aH (gX (o_ (af 0) (af 1)) (gTp 2 (bK (gNm 2) (bK (gNm 3) gm))) (sIf (dX (ay (aT fE (ag (af 2) (ag (af 3) au))))) (bI (eC (.bool false))) sNx))
 (bI (eC (.bool true))))))))
noncomputable def fC:Fn:=bW 2 4 fH
noncomputable def fI:Fs:=(aH (sIf (ay (eW "str" (af 1))) (bI (i_ (eW "str" (af 0)) (eOp gEq (af 0) (af 1)))) sNx)
 (aH (sIf (ay (aT aC (ag (af 1) au))) (bI (i_ (aT aC (ag (af 0) au)) (eOp gEq (af 0) (af 1)))) sNx)
 (aH (sIf (ay (eW "tuple" (af 1))) (sIf (dX (ay (eW "tuple" (af 0)))) (bI (eC (.bool false))) sNx) (sIf (dX (ay (eW "list" (af 0)))) (bI (eC (.bool false))) sNx))
 (aH (sIf (ay (eOp gNe (eB dJ (ag (af 0) au)) (eB dJ (ag (af 1) au)))) (bI (eC (.bool false))) sNx)
 (aH (gX (o_ (af 0) (af 1)) (gTp 2 (bK (gNm 2) (bK (gNm 3) gm))) (sIf (dX (ay (aT fC (ag (af 2) (ag (af 3) au))))) (bI (eC (.bool false))) sNx))
 (bI (eC (.bool true))))))))
noncomputable def d_:Fn:=bW 2 4 fI
noncomputable def fG:Fs:=(aH (sIf (ay (eW "str" (af 1))) (bI (i_ (eW "str" (af 0)) (eOp gEq (af 0) (af 1)))) sNx)
 (aH (sIf (ay (aT aC (ag (af 1) au))) (bI (i_ (aT aC (ag (af 0) au)) (eOp gEq (af 0) (af 1)))) sNx)
 (aH (sIf (ay (eW "tuple" (af 1))) (sIf (dX (ay (eW "tuple" (af 0)))) (bI (eC (.bool false))) sNx) (sIf (dX (ay (eW "list" (af 0)))) (bI (eC (.bool false))) sNx))
 (aH (sIf (ay (eOp gNe (eB dJ (ag (af 0) au)) (eB dJ (ag (af 1) au)))) (bI (eC (.bool false))) sNx)
 (aH (gX (o_ (af 0) (af 1)) (gTp 2 (bK (gNm 2) (bK (gNm 3) gm))) (sIf (dX (ay (aT d_ (ag (af 2) (ag (af 3) au))))) (bI (eC (.bool false))) sNx))
 (bI (eC (.bool true))))))))
noncomputable def h9:Fn:=bW 2 4 fG
noncomputable abbrev dA:Fn:=h9
noncomputable def gn:Fs:=(aH (l8 eR (ag (af 0) (ag (af 1) au)) [("NoDeed",2),("NoNode",1)])
 (bI (eC (.int 0))))
noncomputable def bq:Fn:=bW 2 4 gn
noncomputable def aX:Fb:=(eS (qN (gi 2 0 cB (ag (af 1) au)))
 (AY (eC (.int 0))))
noncomputable def fT:Fs:=(aH (bU 3 (eSh (aT bP (ag (af 1) (ag (eC (.bool true)) au)))))
 (aH (bU 4 (eSh (aT bP (ag (af 1) (ag (eC (.bool false)) au)))))
 (aH (bU 5 (eSh (dH (iR1 (eB dJ (ag (af 3) au))) (gNm 0) (ay (eOp gIx (eOp gIx (af 1) (eC (.int 2))) (eOp gIx (af 2) (af 0)))) (af 0) 1 [1,3])))
 (aH (bU 6 (eSh (fJ (ag (eSh (aT d6 (ag (af 1) (ag (af 3) au)))) (ag (af 5) (ag (eSh (mO (ag (eSh (aT d6 (ag (af 1) (ag (af 4) au)))) (ag (eSh (dH (gY (af 4)) (gNm 0) h_ (uP (af 1) (af 0)) 1 [3])) au)))) au))))))
 (aH (gX (iR1 (eC (.int 3))) (gNm 7) (aH (bU 8 (eOp gI (eOp gj (af 7) (af 2)) (eC (.int 3))))
 (aH (bU 9 (eOp gIx (af 6) (af 8)))
 (aH (sIf (ay (eOp gEq (af 8) (eC (.int 0)))) (bU 9 (eSh (de (λnm=>List.lookup nm [("Easel",bg)]) "whole" (af 0) au))) sNx)
 (aH (sIf (ay (eOp gEq (af 8) (eC (.int 1)))) (bU 9 (eSh (de (λnm=>List.lookup nm [("Easel",a8)]) "folded" (af 0) au))) sNx)
 (aH (sIf (ay (eOp gEq (af 8) (eC (.int 2)))) (bU 9 (eSh (de (λnm=>List.lookup nm [("Easel",aF)]) "seen" (af 0) au))) sNx)
 (sIf (dX (ay (aT dA (ag (af 9) (ag (eOp gIx (af 6) (af 8)) au))))) (bI (eC (.bool false))) sNx)))))))
 (bI (eC (.bool true))))))))
noncomputable def dC:Fn:=bW 3 10 fT
noncomputable def qt:Fs:=(aH (bU 1 (eSh (aT fi (ag (af 0) (ag (eC (.int 2)) (ag (eOp gj (eC (.int 1)) (eOp gI (aT bS (ag (af 0) (ag (eC (.int 0)) au))) (eC (.int 16)))) (ag (eC (.int 9)) (ag (eC (.int 8)) au))))))))
 (aH (bU 2 (eB gN (ag (af 1) au)))
 (aH (oQ 3 "Easel" 3 2 br (ag (eOp gj (eC (.int 1)) (eOp gI (aT bS (ag (af 0) (ag (eC (.int 1)) au))) (eC (.int 20)))) au))
 (aH (uJ 2)
 (aH (bU 4 (aT eL (ag (af 1) au)))
 (aH (sIf (u7 (dX (ay (aT dC (ag (af 3) (ag (af 4) (ag (eC (.int 0)) au))))))) (bI (eC (.bool false))) sNx)
 (aH (gX (gY (eSl w8 (af 0) (kx (eC (.int 19))) (kx (eC (.int 59))))) (gNm 5) (aH (bU 6 (eOp gI (eOp jQ (af 5) (eC (.int 48271))) (eC (.int 2147483647))))
 (aH (bU 7 (eSh (aT cI (ag (af 6) (ag (eB dJ (ag (af 1) au)) (ag (fJ (ag (eC (.str "fold")) (ag (eC (.str "unfold")) (ag (eC (.str "fold")) au)))) au))))))
 (aH (bU 8 (eSh (xN (aT fX (ag (af 4) (ag (af 7) au))))))
 (aH (hG 4 3 bq aX (ag (af 7) au) 8 (bI (eC (.bool false))) sNx)
 (aH (sIf (ay (eOp gEq (af 8) (eC (.int 0)))) (gi 8 4 b8 (ag (af 7) au)) sNx)
 (aH (kY (de (λnm=>List.lookup nm [("Easel",a8)]) "folded" (af 3) au) (eUn jw (eC (.int 1))))
 (aH (ij (de (λnm=>List.lookup nm [("Easel",bg)]) "whole" (af 3) au))
 (aH (ij (vC 1 (de (λnm=>List.lookup nm [("Easel",aF)]) "seen" (af 3) au)))
 (aH (ij (vC 0 (de (λnm=>List.lookup nm [("Easel",aF)]) "seen" (af 3) au)))
 (sIf (u7 (dX (ay (aT dC (ag (af 3) (ag (af 4) (ag (eOp nE (af 6) (eC (.int 512))) au))))))) (bI (eC (.bool false))) sNx)))))))))))
 (bI (eC (.bool true))))))))))
noncomputable def mh:Fn:=bW 1 9 qt
noncomputable def top (i:Nat):Stmt:=PySem.Challenge.pw_boughdraw_k71_folds.main.body.getD i (.Pass ⟨0,0,0,0⟩)
noncomputable abbrev bp:Stmt:=top 10
theorem jz:FnScope ["tree", "node"] ["tree", "node"] (aj bp):=⟨rfl,rfl,rfl,by decide +kernel,rfl,by decide +kernel,by decide +kernel⟩
noncomputable abbrev b6:Stmt:=top 15
theorem eK:FnScope ["rows", "numbers", "places", "place", "number", "named"] ["rows", "numbers"] (aj b6):=⟨rfl,rfl,rfl,by decide +kernel,rfl,by decide +kernel,by decide +kernel⟩
noncomputable abbrev bH:Stmt:=(iB (top 27)).getD 0 (.Pass ⟨0,0,0,0⟩)
theorem kJ:FnScope ["self", "tree", "gap"] ["self", "tree", "gap"] (aj bH):=⟨rfl,rfl,rfl,by decide +kernel,rfl,by decide +kernel,by decide +kernel⟩
noncomputable abbrev b7:Stmt:=(iB (top 27)).getD 1 (.Pass ⟨0,0,0,0⟩)
theorem mW:FnScope ["self"] ["self"] (aj b7):=⟨rfl,rfl,rfl,by decide +kernel,rfl,by decide +kernel,by decide +kernel⟩
noncomputable abbrev bQ:Stmt:=(iB (top 27)).getD 2 (.Pass ⟨0,0,0,0⟩)
theorem lW:FnScope ["self"] ["self"] (aj bQ):=⟨rfl,rfl,rfl,by decide +kernel,rfl,by decide +kernel,by decide +kernel⟩
noncomputable abbrev cx:Stmt:=top 28
theorem pA:FnScope ["tree"] ["tree"] (aj cx):=⟨rfl,rfl,rfl,by decide +kernel,rfl,by decide +kernel,by decide +kernel⟩
noncomputable abbrev bY:Stmt:=top 29
theorem jD:FnScope ["changed", "folds", "elders"] ["changed", "folds"] (aj bY):=⟨rfl,rfl,rfl,by decide +kernel,rfl,by decide +kernel,by decide +kernel⟩
noncomputable abbrev cE:Stmt:=top 30
theorem dR:FnScope ["tree", "nodes", "found", "node", "higher"] ["tree", "nodes"] (aj cE):=⟨rfl,rfl,rfl,by decide +kernel,rfl,by decide +kernel,by decide +kernel⟩
noncomputable abbrev cS:Stmt:=top 32
theorem iz:FnScope ["_law_script", "_law_k", "_law_number"] ["_law_script", "_law_k"] (aj cS):=⟨rfl,rfl,rfl,by decide +kernel,rfl,by decide +kernel,by decide +kernel⟩
noncomputable abbrev bV:Stmt:=top 33
theorem om:FnScope ["_law_found"] ["_law_found"] (aj bV):=⟨rfl,rfl,rfl,by decide +kernel,rfl,by decide +kernel,by decide +kernel⟩
noncomputable abbrev cQ:Stmt:=top 34
theorem eI:FnScope ["_law_number", "_law_most", "_law_letters", "_law_label_here", "_law_k"] ["_law_number", "_law_most"] (aj cQ):=⟨rfl,rfl,rfl,by decide +kernel,rfl,by decide +kernel,by decide +kernel⟩
noncomputable abbrev b_:Stmt:=top 36
theorem g7:FnScope ["_law_tree_here", "_law_kids", "_law_k"] ["_law_tree_here"] (aj b_):=⟨rfl,rfl,rfl,by decide +kernel,rfl,by decide +kernel,by decide +kernel⟩
noncomputable abbrev cb:Stmt:=top 37
theorem eF:FnScope ["_law_state", "_law_all_of_them", "_law_found", "_law_left", "_law_node"] ["_law_state", "_law_all_of_them"] (aj cb):=⟨rfl,rfl,rfl,by decide +kernel,rfl,by decide +kernel,by decide +kernel⟩
noncomputable abbrev cF:Stmt:=top 38
theorem ft:FnScope ["_law_state", "_law_found", "_law_node", "_law_child"] ["_law_state"] (aj cF):=⟨rfl,rfl,rfl,by decide +kernel,rfl,by decide +kernel,by decide +kernel⟩
noncomputable abbrev bt:Stmt:=top 49
theorem eT:FnScope ["_law_number", "_law_size", "_law_kinds", "_law_kind", "_law_node", "_law_letters", "_law_rows_here", "_law_k"] ["_law_number", "_law_size", "_law_kinds"] (aj bt):=⟨rfl,rfl,rfl,by decide +kernel,rfl,by decide +kernel,by decide +kernel⟩
noncomputable abbrev bN:Stmt:=top 11
theorem nR:FnScope ["tree", "node"] ["tree", "node"] (aj bN):=⟨rfl,rfl,rfl,by decide +kernel,rfl,by decide +kernel,by decide +kernel⟩
noncomputable abbrev gw:Stmt:=top 17
theorem kM:FnScope ["tree", "folds", "seen", "row", "numbers"] ["tree", "folds"] (aj gw):=⟨rfl,rfl,rfl,by decide +kernel,rfl,by decide +kernel,by decide +kernel⟩
noncomputable abbrev bA:Stmt:=top 19
theorem iJ:FnScope ["tree", "folds", "node"] ["tree", "folds", "node"] (aj bA):=⟨rfl,rfl,rfl,by decide +kernel,rfl,by decide +kernel,by decide +kernel⟩
noncomputable abbrev da:Stmt:=top 35
theorem cD:FnScope ["_law_script", "_law_start_here", "_law_many", "_law_most", "_law_deep", "_law_tree_here", "_law_way", "_law_k", "_law_number", "_law_keep"] ["_law_script", "_law_start_here", "_law_many", "_law_most", "_law_deep"] (aj da):=⟨rfl,rfl,rfl,by decide +kernel,rfl,by decide +kernel,by decide +kernel⟩
noncomputable abbrev dg:Stmt:=top 39
theorem eg:FnScope ["_law_state", "_law_order_here", "_law_elders_here", "_law_found", "_law_node", "_law_elder"] ["_law_state", "_law_order_here"] (aj dg):=⟨rfl,rfl,rfl,by decide +kernel,rfl,by decide +kernel,by decide +kernel⟩
noncomputable abbrev dU:Stmt:=top 44
theorem fY:FnScope ["_law_state", "_law_deed", "_law_order_here", "_law_number", "_law_node", "_law_right", "_law_level_here", "_law_elder"] ["_law_state", "_law_deed"] (aj dU):=⟨rfl,rfl,rfl,by decide +kernel,rfl,by decide +kernel,by decide +kernel⟩
noncomputable abbrev dh:Stmt:=top 46
theorem iH:FnScope ["_law_state", "_law_deed", "_law_order_here", "_law_node", "_law_first", "_law_more", "_law_elder", "_law_touched"] ["_law_state", "_law_deed"] (aj dh):=⟨rfl,rfl,rfl,by decide +kernel,rfl,by decide +kernel,by decide +kernel⟩
noncomputable abbrev b9:Stmt:=top 18
theorem jH:FnScope ["tree", "folds", "node"] ["tree", "folds", "node"] (aj b9):=⟨rfl,rfl,rfl,by decide +kernel,rfl,by decide +kernel,by decide +kernel⟩
noncomputable abbrev cg:Stmt:=(iB (top 27)).getD 3 (.Pass ⟨0,0,0,0⟩)
theorem nZ:FnScope ["self"] ["self"] (aj cg):=⟨rfl,rfl,rfl,by decide +kernel,rfl,by decide +kernel,by decide +kernel⟩
noncomputable abbrev aY:Stmt:=(iB (top 27)).getD 11 (.Pass ⟨0,0,0,0⟩)
theorem dn:FnScope ["self", "changed", "folds", "touched", "before", "now", "numbers", "roused"] ["self", "changed", "folds", "touched"] (aj aY):=⟨rfl,rfl,rfl,by decide +kernel,rfl,by decide +kernel,by decide +kernel⟩
noncomputable abbrev cj:Stmt:=(iB (top 27)).getD 6 (.Pass ⟨0,0,0,0⟩)
theorem jJ:FnScope ["self", "node"] ["self", "node"] (aj cj):=⟨rfl,rfl,rfl,by decide +kernel,rfl,by decide +kernel,by decide +kernel⟩
noncomputable abbrev bh:Stmt:=(iB (top 27)).getD 7 (.Pass ⟨0,0,0,0⟩)
theorem iM:FnScope ["self", "node"] ["self", "node"] (aj bh):=⟨rfl,rfl,rfl,by decide +kernel,rfl,by decide +kernel,by decide +kernel⟩
noncomputable abbrev dE:Stmt:=top 47
theorem nP:FnScope ["_law_easel", "_law_deed"] ["_law_easel", "_law_deed"] (aj dE):=⟨rfl,rfl,rfl,by decide +kernel,rfl,by decide +kernel,by decide +kernel⟩
noncomputable abbrev a7:Stmt:=top 50
theorem bo:FnScope ["_law_found", "_law_due_here", "_law_one", "_law_other"] ["_law_found", "_law_due_here"] (aj a7):=⟨rfl,rfl,rfl,by decide +kernel,rfl,by decide +kernel,by decide +kernel⟩
noncomputable abbrev cR:Stmt:=top 48
theorem d4:FnScope ["_law_easel", "_law_deed", "e", "_law_kinds"] ["_law_easel", "_law_deed"] (aj cR):=⟨rfl,rfl,rfl,by decide +kernel,rfl,by decide +kernel,by decide +kernel⟩
noncomputable abbrev cn:Stmt:=top 51
theorem bC:FnScope ["_law_easel", "_law_state", "_law_turn", "_law_order_here", "_law_sight", "_law_shut", "_law_due_here", "_law_k", "_law_at", "_law_found"] ["_law_easel", "_law_state", "_law_turn"] (aj cn):=⟨rfl,rfl,rfl,by decide +kernel,rfl,by decide +kernel,by decide +kernel⟩
noncomputable abbrev ke:Stmt:=top 52
theorem iu:FnScope ["_law_script", "_law_tree_here", "_law_handed", "_law_easel", "_law_state", "_law_cell_here", "_law_number", "_law_deed", "_law_word"] ["_law_script"] (aj ke):=⟨rfl,rfl,rfl,by decide +kernel,rfl,by decide +kernel,by decide +kernel⟩
theorem fg:bootBuiltins "list" = some (.type "list"):=by decide +kernel
theorem f9:bootBuiltins "tuple" = some (.type "tuple"):=by decide +kernel
theorem rS:bootBuiltins "int" = some (.type "int"):=by decide +kernel
theorem zz:bootBuiltins "bool" = some (.type "bool"):=by decide +kernel
theorem jc:bootBuiltins "str" = some (.type "str"):=by decide +kernel
theorem jE:bootBuiltins "ValueError" = some (.type "ValueError"):=by decide +kernel
structure Txt (K:PySem.W.Frag) (mg:Str->Option Value):Prop where
 z_ValueError:mg "ValueError" = none
 z_bool:mg "bool" = none
 z_enumerate:mg "enumerate" = none
 z_int:mg "int" = none
 z_isinstance:mg "isinstance" = none
 z_len:mg "len" = none
 z_list:mg "list" = none
 z_min:mg "min" = none
 z_range:mg "range" = none
 z_sorted:mg "sorted" = none
 z_str:mg "str" = none
 z_tuple:mg "tuple" = none
 z_zip:mg "zip" = none
 xs:∃c_DrawError c_NoDeed c_NoNode c_NoPlace c_NoTree:Addr,mg "DrawError" = some (.ref c_DrawError)/\mg "NoDeed" = some (.ref c_NoDeed)/\mg "NoNode" = some (.ref c_NoNode)/\mg "NoPlace" = some (.ref c_NoPlace)/\mg "NoTree" = some (.ref c_NoTree)/\ExcK K c_NoDeed/\ExcK K c_NoNode/\PySem.W.excIn K c_DrawError vE vN=true/\PySem.W.subIn K (.ref c_NoDeed) (.ref c_DrawError)=some true/\PySem.W.subIn K (.ref c_NoNode) (.ref c_DrawError)=some true/\PySem.W.kitOne K (.ref c_NoDeed) (.ref c_NoDeed)=some true/\PySem.W.kitOne K (.ref c_NoDeed) (.ref c_NoNode)=some false/\PySem.W.kitOne K (.ref c_NoDeed) (.ref c_NoPlace)=some false/\PySem.W.kitOne K (.ref c_NoDeed) (.ref c_NoTree)=some false/\PySem.W.kitOne K (.ref c_NoNode) (.ref c_NoDeed)=some false/\PySem.W.kitOne K (.ref c_NoNode) (.ref c_NoNode)=some true/\PySem.W.kitOne K (.ref c_NoNode) (.ref c_NoPlace)=some false/\PySem.W.kitOne K (.ref c_NoNode) (.ref c_NoTree)=some false/\PySem.W.kitOne K (.ref c_NoDeed) (.type "ValueError")=some true/\PySem.W.kitOne K (.ref c_NoNode) (.type "ValueError")=some true
structure DefM (K:PySem.W.Frag) (x q:Str) (st:Stmt) (ps:List Str) (f:Addr) (fd:FuncData):Prop where
 F:Fun K x q st f fd
 b:Binds K fd ps []
structure Obs (K:PySem.W.Frag) (mg:Str->Option Value) (c_Easel f_Easel___init__ f_Easel_whole f_Easel_folded f_Easel_seen f_Easel_settle f_Easel_fold f_Easel_unfold:Addr):Prop where
 a_Easel:PySem.W.nsIn K mainGlobals "Easel" = some (some (.ref c_Easel))
 m_Easel:mg "Easel" = some (.ref c_Easel)
 i_Easel:InsK K c_Easel
 mk_Easel:Mk K c_Easel f_Easel___init__
 na_Easel_tree:eu K c_Easel "tree"
 na_Easel_gap:eu K c_Easel "gap"
 na_Easel_folds:eu K c_Easel "folds"
 na_Easel_anew:eu K c_Easel "anew"
 me_Easel_fold:Meth K c_Easel "fold" f_Easel_fold
 me_Easel_folded:Meth K c_Easel "folded" f_Easel_folded
 me_Easel_seen:Meth K c_Easel "seen" f_Easel_seen
 me_Easel_settle:Meth K c_Easel "settle" f_Easel_settle
 me_Easel_unfold:Meth K c_Easel "unfold" f_Easel_unfold
 me_Easel_whole:Meth K c_Easel "whole" f_Easel_whole
 q_Easel_Easel:PySem.W.kitOne K (.ref c_Easel) (.ref c_Easel)=some true
section
variable {P:Program} {w:World} {K:PySem.W.Frag} {mg:Str->Option Value} {base:Heap} {c_Easel f_Easel___init__ f_Easel_whole f_Easel_folded f_Easel_seen f_Easel_settle f_Easel_fold f_Easel_unfold:Addr}
theorem oq {f:Addr} {fd:FuncData} (F:Fun K "check_node" "check_node" bp f fd) (T:Txt K mg) (O:Obs K mg c_Easel f_Easel___init__ f_Easel_whole f_Easel_folded f_Easel_seen f_Easel_settle f_Easel_fold f_Easel_unfold):FnOk P w K mg base CX0 1 f fd ["tree", "node"] (sp3 K mg bB):=by
 refine fm (N:=["tree", "node"]) (k:=0) (body:=fM) rfl rfl rfl F jz λcdv A outer s H E hr=>?_
 unfold fM;exact (ah (aW (n9 (kH (aR tL (λ_=>t_) (aa 1) aq (aJ _)) (iA (aR uE (λ_=>uD) (aa 1) (cP aP bX rfl T.z_len PySem.boot_len (ae (aa 0) ao)) (aJ _))))) (ah dW) aD))
theorem oh {f:Addr} {fd:FuncData} (F:Fun K "check_node" "check_node" bp f fd) (T:Txt K mg) (O:Obs K mg c_Easel f_Easel___init__ f_Easel_whole f_Easel_folded f_Easel_seen f_Easel_settle f_Easel_fold f_Easel_unfold):FnOk P w K mg base (CXE P w) 1 f fd ["tree", "node"] (sp3 K mg bO):=by
 refine uN (N:=["tree", "node"]) (k:=0) (body:=fU) rfl rfl rfl F jz λcdv A outer s H E hr=>?_
 obtain ⟨c_DrawError,c_NoDeed,c_NoNode,c_NoPlace,c_NoTree,m_DrawError,m_NoDeed,m_NoNode,m_NoPlace,m_NoTree,x_NoDeed,x_NoNode,h_DrawError,u_NoDeed_DrawError,u_NoNode_DrawError,k_NoDeed_NoDeed,k_NoDeed_NoNode,k_NoDeed_NoPlace,k_NoDeed_NoTree,k_NoNode_NoDeed,k_NoNode_NoNode,k_NoNode_NoPlace,k_NoNode_NoTree,v_NoDeed_ValueError,v_NoNode_ValueError⟩:=T.xs;unfold fU;exact (ah (aW (n9 (kH (aR tL (λ_=>t_) (aa 1) aq (aJ _)) (iA (aR uE (λ_=>uD) (aa 1) (cP aP bX rfl T.z_len PySem.boot_len (ae (aa 0) ao)) (aJ _))))) (ah (nL Lv.of rfl rfl m_NoNode x_NoNode.ex)) aD))
theorem n8 {f:Addr} {fd:FuncData} (F:Fun K "renumbered" "renumbered" b6 f fd) (T:Txt K mg) (O:Obs K mg c_Easel f_Easel___init__ f_Easel_whole f_Easel_folded f_Easel_seen f_Easel_settle f_Easel_fold f_Easel_unfold):FnOk P w K mg base CX0 1 f fd ["rows", "numbers"] (sp3 K mg dw):=by
 refine fm (N:=["rows", "numbers", "places", "place", "number", "named"]) (k:=0) (body:=fR) rfl rfl rfl F eK λcdv A outer s H E hr=>?_
 unfold fR;exact (ai (aN (i:=2) eK.nd rfl (Or.inr rfl) (Gm (jG g9 (λ_=>g8) aq) (jG g9 (λ_=>g8) aq)))
   (ai (eh rfl PassesOwn.never (j5 rfl T.z_enumerate (aa 1)) (gZ (n:=2) rfl (bw (aK (i:=3) eK.nd rfl (Or.inl rfl)) (bw (aK (i:=4) eK.nd rfl (Or.inl rfl)) fK))) (ah (tM 2 (r9 hr) (aa 4) (aa 3))))
   (ai (ji (i:=5) (sc:=(aj b6)) (outs:=[(0, "rows")]) (is:=[0]) ["number"] (λ_ _ _ q=>wQ q) eK.nd rfl (Or.inl rfl) ⟨rfl,rfl,by decide +kernel,by decide +kernel,by decide +kernel,⟨⟨rfl,rfl⟩,trivial⟩⟩ rfl (by decide) (d5 (aa 1)) (λ_ _ _ _ _=>(aK (i:=0) (show List.Nodup (["number", "rows"]:List Str) by decide +kernel) rfl (Or.inl rfl))) (λ_ _ _ _ _=>jW) (λ_ _ _ _ _=>(aG ax aE (aa 1) (aa 0) (λ_ _=>rfl))))
   (ah (m_ 2 (aL (iG (sc:=(aj b6)) (outs:=[(2, "places")]) (is:=[0]) ["row"] ⟨rfl,rfl,by decide +kernel,by decide +kernel,by decide +kernel,⟨⟨rfl,rfl⟩,trivial⟩⟩ rfl (by decide) (d5 (aa 5)) (λ_ _ _ _ _=>(aK (i:=0) (show List.Nodup (["row", "places"]:List Str) by decide +kernel) rfl (Or.inl rfl))) (λ_ _ _ _ _=>jW) (λ_ _ _ _ _=>(i5 (ae (Gn (r9 hr) (aa 1) (aG ax aE (aa 0) aq (λ_ _=>rfl)) (λ_ _=>rfl)) (ae (aG ax aE (aa 0) aq (λ_ _=>rfl)) (ae (aG ax aE (aa 0) aq (λ_ _=>rfl)) ao))))))))))))
theorem kq {f:Addr} {fd:FuncData} (F:Fun K "__init__" "Easel.__init__" bH f fd) (T:Txt K mg) (O:Obs K mg c_Easel f_Easel___init__ f_Easel_whole f_Easel_folded f_Easel_seen f_Easel_settle f_Easel_fold f_Easel_unfold):FnOk P w K mg base CX0 1 f fd ["self", "tree", "gap"] (spP K 3 3 br):=by
 refine fnP (N:=["self", "tree", "gap"]) (k:=0) (b:=br) rfl rfl F kJ λcdv A outer s H E hr=>?_
 unfold br;exact (cz (iw (tb:=λnm=>decide (nm = "Easel")) (i:=0) (bT O.a_Easel ⟨O.i_Easel.c,O.na_Easel_tree⟩) (a9 rfl (by first | exact Or.inl rfl | exact Or.inr (Or.inl rfl) | exact Or.inr (Or.inr rfl))) (ub 1 (mm (jh _ rfl) pM rfl T.z_list fg (ae (aa 1) ao))))
   (cz (iw (tb:=λnm=>decide (nm = "Easel")) (i:=0) (bT O.a_Easel ⟨O.i_Easel.c,O.na_Easel_gap⟩) (a9 rfl (by first | exact Or.inl rfl | exact Or.inr (Or.inl rfl) | exact Or.inr (Or.inr rfl))) (aa 2))
   (cz (iw (tb:=λnm=>decide (nm = "Easel")) (i:=0) (bT O.a_Easel ⟨O.i_Easel.c,O.na_Easel_folds⟩) (a9 rfl (by first | exact Or.inl rfl | exact Or.inr (Or.inl rfl) | exact Or.inr (Or.inr rfl))) (cW ao))
   (cz (iw (tb:=λnm=>decide (nm = "Easel")) (i:=0) (bT O.a_Easel ⟨O.i_Easel.c,O.na_Easel_anew⟩) (a9 rfl (by first | exact Or.inl rfl | exact Or.inr (Or.inl rfl) | exact Or.inr (Or.inr rfl))) (sX (wX rfl rfl T.z_list fg rfl T.z_range (ae (cP aP bX rfl T.z_len PySem.boot_len (ae (aa 1) ao)) ao))))
   mJ))))
theorem mv {f:Addr} {fd:FuncData} (F:Fun K "whole" "Easel.whole" b7 f fd) (T:Txt K mg) (O:Obs K mg c_Easel f_Easel___init__ f_Easel_whole f_Easel_folded f_Easel_seen f_Easel_settle f_Easel_fold f_Easel_unfold):FnOk P w K mg base CX0 1 f fd ["self"] (sp3 K mg bg):=by
 refine fm (N:=["self"]) (k:=0) (body:=e_) rfl rfl rfl F mW λcdv A outer s H E hr=>?_
 unfold e_;exact (ah (aL (mm (jh _ rfl) pM rfl T.z_list fg (ae (iY (tb:=λnm=>decide (nm = "Easel")) (bT O.a_Easel ⟨O.i_Easel.c,O.na_Easel_tree⟩) (aa 0)) ao))))
theorem lU {f:Addr} {fd:FuncData} (F:Fun K "folded" "Easel.folded" bQ f fd) (T:Txt K mg) (O:Obs K mg c_Easel f_Easel___init__ f_Easel_whole f_Easel_folded f_Easel_seen f_Easel_settle f_Easel_fold f_Easel_unfold):FnOk P w K mg base CX0 1 f fd ["self"] (sp3 K mg a8):=by
 refine fm (N:=["self"]) (k:=0) (body:=eM) rfl rfl rfl F lW λcdv A outer s H E hr=>?_
 unfold eM;exact (ah (aL (mm (jh _ rfl) pM rfl T.z_list fg (ae (iY (tb:=λnm=>decide (nm = "Easel")) (bT O.a_Easel ⟨O.i_Easel.c,O.na_Easel_folds⟩) (aa 0)) ao))))
theorem qf {f:Addr} {fd:FuncData} (F:Fun K "unchanged" "unchanged" cx f fd) (T:Txt K mg) (O:Obs K mg c_Easel f_Easel___init__ f_Easel_whole f_Easel_folded f_Easel_seen f_Easel_settle f_Easel_fold f_Easel_unfold):FnOk P w K mg base CX0 1 f fd ["tree"] (sp3 K mg bR):=by
 refine fm (N:=["tree"]) (k:=0) (body:=gD) rfl rfl rfl F pA λcdv A outer s H E hr=>?_
 unfold gD;exact (ah (aL (i5 (ae (aa 0) (ae (cZ (wX rfl rfl T.z_list fg rfl T.z_range (ae (cP aP bX rfl T.z_len PySem.boot_len (ae (aa 0) ao)) ao))) ao)))))
theorem ou {f:Addr} {fd:FuncData} (F:Fun K "kept_folds" "kept_folds" bY f fd) (T:Txt K mg) (O:Obs K mg c_Easel f_Easel___init__ f_Easel_whole f_Easel_folded f_Easel_seen f_Easel_settle f_Easel_fold f_Easel_unfold):FnOk P w K mg base CX0 1 f fd ["changed", "folds"] (sp3 K mg dF):=by
 refine fm (N:=["changed", "folds", "elders"]) (k:=0) (body:=fV) rfl rfl rfl F jD λcdv A outer s H E hr=>?_
 unfold fV;exact (ai (aN (i:=2) jD.nd rfl (Or.inr rfl) (cZ (iG (sc:=(aj bY)) (outs:=[]) (is:=[0]) ["row"] ⟨rfl,rfl,by decide +kernel,by decide +kernel,by decide +kernel,trivial⟩ rfl (by decide) (d5 (aG ax aE (aa 0) aq (λ_ _=>rfl))) (λ_ _ _ _ _=>(aK (i:=0) (show List.Nodup (["row"]:List Str) by decide +kernel) rfl (Or.inl rfl))) (λ_ _ _ _ _=>jW) (λ_ _ _ _ _=>(aG ax aE (aa 0) aq (λ_ _=>rfl))))))
   (ah (aL (iG (sc:=(aj bY)) (outs:=[(1, "folds"),(2, "elders")]) (is:=[0,1]) ["node", "number"] ⟨rfl,rfl,by decide +kernel,by decide +kernel,by decide +kernel,⟨⟨rfl,rfl⟩,⟨rfl,rfl⟩,trivial⟩⟩ rfl (by decide) (j5 rfl T.z_enumerate (aG ax aE (aa 0) aq (λ_ _=>rfl))) (λ_ _ _ _ _=>(gZ (n:=2) rfl (bw (aK (i:=0) (show List.Nodup (["node", "number", "folds", "elders"]:List Str) by decide +kernel) rfl (Or.inl rfl)) (bw (aK (i:=1) (show List.Nodup (["node", "number", "folds", "elders"]:List Str) by decide +kernel) rfl (Or.inl rfl)) fK)))) (λ_ _ _ _ _=>(ly (n9 (CS (aR ie ir (aa 1) (aa 2) rfl) (zJ (aR ie ir (aa 0) (aa 3) rfl)))))) (λ_ _ _ _ _=>(aa 0))))))
theorem mq {f:Addr} {fd:FuncData} (F:Fun K "with_elders" "with_elders" cE f fd) (T:Txt K mg) (O:Obs K mg c_Easel f_Easel___init__ f_Easel_whole f_Easel_folded f_Easel_seen f_Easel_settle f_Easel_fold f_Easel_unfold):FnOk P w K mg base CX0 1 f fd ["tree", "nodes"] (sp3 K mg dP):=by
 refine fm (N:=["tree", "nodes", "found", "node", "higher"]) (k:=0) (body:=eY) rfl rfl rfl F dR λcdv A outer s H E hr=>?_
 unfold eY;exact (ai (aN (i:=2) dR.nd rfl (Or.inl rfl) Ie)
   (ai (eh rfl PassesOwn.never (d5 (aa 1)) (aK (i:=3) dR.nd rfl (Or.inl rfl)) (ai (aN (i:=4) dR.nd rfl (Or.inl rfl) (aa 3))
   (ah (qG PassesOwn.never (aR (iW hr.units) lN (aa 4) (jG g9 (λ_=>g8) aq) (aJ _)) (ai (tM 2 (r9 hr) (aa 4) cG)
   (ah (aN (i:=4) dR.nd rfl (Or.inl rfl) (aG ax aE (aG ax aE (aa 0) (aa 4) (λ_ _=>rfl)) aq (λ_ _=>rfl)))))))))
   (ah (m_ 2 (aL (cP (uU _ rfl) C9 rfl T.z_sorted PyProof.Rows.boot_sorted (ae (mm (xI rfl) (λ_=>CH) rfl T.z_list fg (ae (aa 2) ao)) ao)))))))
theorem pC {f:Addr} {fd:FuncData} (F:Fun K "_law_cell" "_law_cell" cS f fd) (T:Txt K mg) (O:Obs K mg c_Easel f_Easel___init__ f_Easel_whole f_Easel_folded f_Easel_seen f_Easel_settle f_Easel_fold f_Easel_unfold):FnOk P w K mg base CX0 1 f fd ["_law_script", "_law_k"] (sp3 K mg bS):=by
 refine fm (N:=["_law_script", "_law_k", "_law_number"]) (k:=0) (body:=gz) rfl rfl rfl F iz λcdv A outer s H E hr=>?_
 unfold gz;exact (ai (aW (aR tL (λ_=>t_) (aa 1) (cP aP bX rfl T.z_len PySem.boot_len (ae (aa 0) ao)) (aJ _)) (ah (aL (aG ax aE (aa 0) (aa 1) (λ_ _=>rfl)))) aD)
   (ai (aN (i:=2) iz.nd rfl (Or.inl rfl) (a_ c7 et (a_ fO g6 aq (aa 1)) aq))
   (ai (aW (aR Bk (λ_=>BL) (cP aP bX rfl T.z_len PySem.boot_len (ae (aa 0) ao)) aq (aJ _)) (ah (aN (i:=2) iz.nd rfl (Or.inl rfl) (a_ eD (λ_=>eA) (a_ c7 et (a_ fO g6 (aG ax aE (aa 0) (a_ eD (λ_=>eA) (aa 1) (cP aP bX rfl T.z_len PySem.boot_len (ae (aa 0) ao))) (λ_ _=>rfl)) aq) (a_ fO g6 (aa 1) aq)) aq))) aD)
   (ah (aL (a_ eD (λ_=>eA) (a_ fO g6 (aa 2) (aa 2)) aq))))))
theorem oa {f:Addr} {fd:FuncData} (F:Fun K "_law_whole" "_law_whole" bV f fd) (T:Txt K mg) (O:Obs K mg c_Easel f_Easel___init__ f_Easel_whole f_Easel_folded f_Easel_seen f_Easel_settle f_Easel_fold f_Easel_unfold):FnOk P w K mg base CX0 1 f fd ["_law_found"] (sp3 K mg aC):=by
 refine fm (N:=["_law_found"]) (k:=0) (body:=dB) rfl rfl rfl F om λcdv A outer s H E hr=>?_
 unfold dB;exact (ah (aL (gG (cN rfl T.z_isinstance rfl T.z_int rS (aa 0)) (gh (DU (cN rfl T.z_isinstance rfl T.z_bool zz (aa 0)))))))
theorem oz {f:Addr} {fd:FuncData} (F:Fun K "_law_label" "_law_label" cQ f fd) (T:Txt K mg) (O:Obs K mg c_Easel f_Easel___init__ f_Easel_whole f_Easel_folded f_Easel_seen f_Easel_settle f_Easel_fold f_Easel_unfold):FnOk P w K mg base CX0 1 f fd ["_law_number", "_law_most"] (sp3 K mg dv):=by
 refine fm (N:=["_law_number", "_law_most", "_law_letters", "_law_label_here", "_law_k"]) (k:=0) (body:=fL) rfl rfl rfl F eI λcdv A outer s H E hr=>?_
 unfold fL;exact (ai (aN (i:=2) eI.nd rfl (Or.inl rfl) cM)
   (ai (aN (i:=3) eI.nd rfl (Or.inl rfl) cM)
   (ai (eh rfl PassesOwn.never (qZ rfl T.z_range (a_ c7 et aq (a_ eD (λ_=>eA) (aa 0) (aa 1)))) (aK (i:=4) eI.nd rfl (Or.inl rfl)) (ah (aN (i:=3) eI.nd rfl (Or.inl rfl) (a_ c7 et (aa 3) (aG ax aE (aa 2) (a_ eD (λ_=>eA) (a_ gM (λ_=>jf) (aa 0) (a_ c7 et aq (a_ fO g6 (a_ fO g6 aq (aa 4)) (aa 4)))) aq) (λ_ _=>rfl))))))
   (ah (aL (aa 3))))))
theorem og {f:Addr} {fd:FuncData} (F:Fun K "_law_start" "_law_start" b_ f fd) (T:Txt K mg) (O:Obs K mg c_Easel f_Easel___init__ f_Easel_whole f_Easel_folded f_Easel_seen f_Easel_settle f_Easel_fold f_Easel_unfold):FnOk P w K mg base CX0 1 f fd ["_law_tree_here"] (sp3 K mg eL):=by
 refine fm (N:=["_law_tree_here", "_law_kids", "_law_k"]) (k:=0) (body:=fP) rfl rfl rfl F g7 λcdv A outer s H E hr=>?_
 unfold fP;exact (ai (ji (i:=1) (sc:=(aj b_)) (outs:=[]) (is:=[0]) ["_law_row"] (λ_ _ _ q=>q) g7.nd rfl (Or.inl rfl) ⟨rfl,rfl,by decide +kernel,by decide +kernel,by decide +kernel,trivial⟩ rfl (by decide) (d5 (aa 0)) (λ_ _ _ _ _=>(aK (i:=0) (show List.Nodup (["_law_row"]:List Str) by decide +kernel) rfl (Or.inl rfl))) (λ_ _ _ _ _=>jW) (λ_ _ _ _ _=>(cW ao)))
   (ai (eh rfl PassesOwn.never (Gv rfl T.z_range aq (cP aP bX rfl T.z_len PySem.boot_len (ae (aa 0) ao))) (aK (i:=2) g7.nd rfl (Or.inl rfl)) (ah (wW 1 (aG ax aE (aG ax aE (aa 0) (aa 2) (λ_ _=>rfl)) aq (λ_ _=>rfl)) (aa 2) (λ_ _=>rfl))))
   (ah (m_ 1 (aL (cW (ae (iG (sc:=(aj b_)) (outs:=[]) (is:=[0,1,2]) ["_law_elder", "_law_label_here", "_law_tall"] ⟨rfl,rfl,by decide +kernel,by decide +kernel,by decide +kernel,trivial⟩ rfl (by decide) (d5 (aa 0)) (λ_ _ _ _ _=>(gZ (n:=3) rfl (bw (aK (i:=0) (show List.Nodup (["_law_elder", "_law_label_here", "_law_tall"]:List Str) by decide +kernel) rfl (Or.inl rfl)) (bw (aK (i:=1) (show List.Nodup (["_law_elder", "_law_label_here", "_law_tall"]:List Str) by decide +kernel) rfl (Or.inl rfl)) (bw (aK (i:=2) (show List.Nodup (["_law_elder", "_law_label_here", "_law_tall"]:List Str) by decide +kernel) rfl (Or.inl rfl)) fK))))) (λ_ _ _ _ _=>jW) (λ_ _ _ _ _=>(i5 (ae (aa 1) (ae (aa 2) ao))))) (ae (aa 1) (ae (a_ fO g6 (cW (ae cG ao)) (cP aP bX rfl T.z_len PySem.boot_len (ae (aa 0) ao))) ao)))))))))
theorem nW {f:Addr} {fd:FuncData} (F:Fun K "_law_order" "_law_order" cb f fd) (T:Txt K mg) (O:Obs K mg c_Easel f_Easel___init__ f_Easel_whole f_Easel_folded f_Easel_seen f_Easel_settle f_Easel_fold f_Easel_unfold):FnOk P w K mg base CX0 1 f fd ["_law_state", "_law_all_of_them"] (sp3 K mg bP):=by
 refine fm (N:=["_law_state", "_law_all_of_them", "_law_found", "_law_left", "_law_node"]) (k:=0) (body:=fS) rfl rfl rfl F eF λcdv A outer s H E hr=>?_
 unfold fS;exact (ai (aN (i:=2) eF.nd rfl (Or.inl rfl) (cW ao))
   (ai (aN (i:=3) eF.nd rfl (Or.inl rfl) (cW (ae aq ao)))
   (ai (qG PassesOwn.never (sJ (aR (iW hr.units) lN (aa 3) (cW ao) (aJ _))) (ai (DV 3 (aK (i:=4) eF.nd rfl (Or.inl rfl)))
   (ai (nI 2 (aa 4))
   (ah (aW (n9 (kH (bG (aa 1)) (iA (ez (bG (aG ax aE (aG ax aE (aa 0) aq (λ_ _=>rfl)) (aa 4) (λ_ _=>rfl))))))) (ah (m_ 3 (aN (i:=3) eF.nd rfl (Or.inl rfl) (a_ c7 et (aa 3) (EJ (λv u=>[v,u]) (aG ax aE (aG ax aE (aa 0) aq (λ_ _=>rfl)) (aa 4) (λ_ _=>rfl)) (jG g9 (λ_=>g8) aq)))))) aD)))))
   (ah (l5 2)))))
theorem mQ {f:Addr} {fd:FuncData} (F:Fun K "_law_elders" "_law_elders" cF f fd) (T:Txt K mg) (O:Obs K mg c_Easel f_Easel___init__ f_Easel_whole f_Easel_folded f_Easel_seen f_Easel_settle f_Easel_fold f_Easel_unfold):FnOk P w K mg base CX0 1 f fd ["_law_state"] (sp3 K mg dY):=by
 refine fm (N:=["_law_state", "_law_found", "_law_node", "_law_child"]) (k:=0) (body:=fq) rfl rfl rfl F ft λcdv A outer s H E hr=>?_
 unfold fq;exact (ai (aN (i:=1) ft.nd rfl (Or.inl rfl) (a_ fO g6 (cW (ae (jG g9 (λ_=>g8) aq) ao)) (cP aP bX rfl T.z_len PySem.boot_len (ae (aG ax aE (aa 0) aq (λ_ _=>rfl)) ao))))
   (ai (eh rfl PassesOwn.never (qZ rfl T.z_range (cP aP bX rfl T.z_len PySem.boot_len (ae (aG ax aE (aa 0) aq (λ_ _=>rfl)) ao))) (aK (i:=2) ft.nd rfl (Or.inl rfl)) (ah (eh rfl PassesOwn.never (d5 (aG ax aE (aG ax aE (aa 0) aq (λ_ _=>rfl)) (aa 2) (λ_ _=>rfl))) (aK (i:=3) ft.nd rfl (Or.inl rfl)) (ah (BN 1 (aa 3) (aa 2))))))
   (ah (l5 1))))
theorem jR {f:Addr} {fd:FuncData} (F:Fun K "_law_drawn_deed" "_law_drawn_deed" bt f fd) (T:Txt K mg) (O:Obs K mg c_Easel f_Easel___init__ f_Easel_whole f_Easel_folded f_Easel_seen f_Easel_settle f_Easel_fold f_Easel_unfold):FnOk P w K mg base CX0 1 f fd ["_law_number", "_law_size", "_law_kinds"] (sp3 K mg cI):=by
 refine fm (N:=["_law_number", "_law_size", "_law_kinds", "_law_kind", "_law_node", "_law_letters", "_law_rows_here", "_law_k"]) (k:=0) (body:=di) rfl rfl rfl F eT λcdv A outer s H E hr=>?_
 unfold di;exact (ai (aN (i:=3) eT.nd rfl (Or.inl rfl) (aG ax aE (aa 2) (a_ eD (λ_=>eA) (aa 0) (cP aP bX rfl T.z_len PySem.boot_len (ae (aa 2) ao))) (λ_ _=>rfl)))
   (ai (aN (i:=4) eT.nd rfl (Or.inl rfl) (a_ eD (λ_=>eA) (a_ gM (λ_=>jf) (aa 0) aq) (aa 1)))
   (ai (aW (aR (bc hr.units) cw (aa 3) cM (aJ _)) lz aD)
   (ai (aW (aR (bc hr.units) cw (aa 3) cM (aJ _)) lz aD)
   (ah (aL (i5 (ae (aa 3) (ae (aa 4) ao)))))))))
theorem mM {f:Addr} {fd:FuncData} (F:Fun K "children_of" "children_of" bN f fd) (T:Txt K mg) (O:Obs K mg c_Easel f_Easel___init__ f_Easel_whole f_Easel_folded f_Easel_seen f_Easel_settle f_Easel_fold f_Easel_unfold) {A1:Addr} {B1:FuncData} (b_1:Def K mg "check_node" bp ["tree", "node"] A1 B1) (c_1:FnOk P w K mg base CX0 1 A1 B1 ["tree", "node"] (sp3 K mg bB)) (Gx_check_node:FnOk P w K mg base (CXE P w) 1 A1 B1 ["tree", "node"] (sp3 K mg bO)):FnOk P w K mg base CX0 2 f fd ["tree", "node"] (sp3 K mg cH):=by
 refine fm (N:=["tree", "node"]) (k:=1) (body:=eX) rfl rfl rfl F nR λcdv A outer s H E hr=>?_
 unfold eX;exact (ai (eZ (aA c_1 (hr.mono (by decide)) rfl b_1.g b_1.F.kp b_1.b aS (ae (aa 0) (ae (aa 1) ao))))
   (ah (aL (iG (sc:=(aj bN)) (outs:=[(1, "node")]) (is:=[0,1]) ["number", "row"] ⟨rfl,rfl,by decide +kernel,by decide +kernel,by decide +kernel,⟨⟨rfl,rfl⟩,trivial⟩⟩ rfl (by decide) (j5 rfl T.z_enumerate (aa 0)) (λ_ _ _ _ _=>(gZ (n:=2) rfl (bw (aK (i:=0) (show List.Nodup (["number", "row", "node"]:List Str) by decide +kernel) rfl (Or.inl rfl)) (bw (aK (i:=1) (show List.Nodup (["number", "row", "node"]:List Str) by decide +kernel) rfl (Or.inl rfl)) fK)))) (λ_ _ _ _ _=>(ly (aR (bc hr.units) cw (aG ax aE (aa 1) aq (λ_ _=>rfl)) (aa 2) (aJ _)))) (λ_ _ _ _ _=>(aa 0))))))
theorem wM {f:Addr} {fd:FuncData} (F:Fun K "shown" "shown" gw f fd) (T:Txt K mg) (O:Obs K mg c_Easel f_Easel___init__ f_Easel_whole f_Easel_folded f_Easel_seen f_Easel_settle f_Easel_fold f_Easel_unfold) {A2:Addr} {B2:FuncData} (b_2:Def K mg "renumbered" b6 ["rows", "numbers"] A2 B2) (c_2:FnOk P w K mg base CX0 1 A2 B2 ["rows", "numbers"] (sp3 K mg dw)):FnOk P w K mg base CX0 2 f fd ["tree", "folds"] (sp3 K mg iZ):=by
 refine fm (N:=["tree", "folds", "seen", "row", "numbers"]) (k:=1) (body:=ku) rfl rfl rfl F kM λcdv A outer s H E hr=>?_
 unfold ku;exact (ai (aN (i:=2) kM.nd rfl (Or.inl rfl) (cW ao))
   (ai (eh rfl PassesOwn.never (d5 (aa 0)) (aK (i:=3) kM.nd rfl (Or.inl rfl)) (ah (nI 2 (wc (Hz (eQ (bc hr.units) cw (aG ax aE (aa 3) aq (λ_ _=>rfl)) (jG g9 (λ_=>g8) aq) (aJ _)) (gh (gG (aG ax aE (aa 2) (aG ax aE (aa 3) aq (λ_ _=>rfl)) (λ_ _=>rfl)) (gh (eQ gq ir (aG ax aE (aa 3) aq (λ_ _=>rfl)) (aa 1) rfl)))))))))
   (ai (m_ 2 (ji (i:=4) (sc:=(aj gw)) (outs:=[]) (is:=[0,1]) ["number", "is_seen"] (λ_ _ _ q=>q) kM.nd rfl (Or.inl rfl) ⟨rfl,rfl,by decide +kernel,by decide +kernel,by decide +kernel,trivial⟩ rfl (by decide) (j5 rfl T.z_enumerate (aa 2)) (λ_ _ _ _ _=>(gZ (n:=2) rfl (bw (aK (i:=0) (show List.Nodup (["number", "is_seen"]:List Str) by decide +kernel) rfl (Or.inl rfl)) (bw (aK (i:=1) (show List.Nodup (["number", "is_seen"]:List Str) by decide +kernel) rfl (Or.inl rfl)) fK)))) (λ_ _ _ _ _=>(ly (bG (aa 1)))) (λ_ _ _ _ _=>(aa 0))))
   (ah (yE 4 (ub 4 (aA c_2 (hr.mono (by decide)) rfl b_2.g b_2.F.kp b_2.b aS (ae (aa 0) (ae (aa 4) ao)))))))))
theorem lY {f:Addr} {fd:FuncData} (F:Fun K "check_unfold" "check_unfold" bA f fd) (T:Txt K mg) (O:Obs K mg c_Easel f_Easel___init__ f_Easel_whole f_Easel_folded f_Easel_seen f_Easel_settle f_Easel_fold f_Easel_unfold) {A1:Addr} {B1:FuncData} (b_1:Def K mg "check_node" bp ["tree", "node"] A1 B1) (c_1:FnOk P w K mg base CX0 1 A1 B1 ["tree", "node"] (sp3 K mg bB)) (Gx_check_node:FnOk P w K mg base (CXE P w) 1 A1 B1 ["tree", "node"] (sp3 K mg bO)):FnOk P w K mg base CX0 2 f fd ["tree", "folds", "node"] (sp3 K mg cO):=by
 refine fm (N:=["tree", "folds", "node"]) (k:=1) (body:=eN) rfl rfl rfl F iJ λcdv A outer s H E hr=>?_
 unfold eN;exact (ai (eZ (aA c_1 (hr.mono (by decide)) rfl b_1.g b_1.F.kp b_1.b aS (ae (aa 0) (ae (aa 2) ao))))
   (ah (aW (aR gq ir (aa 2) (aa 1) rfl) (ah dW) aD)))
theorem lR {f:Addr} {fd:FuncData} (F:Fun K "check_unfold" "check_unfold" bA f fd) (T:Txt K mg) (O:Obs K mg c_Easel f_Easel___init__ f_Easel_whole f_Easel_folded f_Easel_seen f_Easel_settle f_Easel_fold f_Easel_unfold) {A1:Addr} {B1:FuncData} (b_1:Def K mg "check_node" bp ["tree", "node"] A1 B1) (c_1:FnOk P w K mg base CX0 1 A1 B1 ["tree", "node"] (sp3 K mg bB)) (Gx_check_node:FnOk P w K mg base (CXE P w) 1 A1 B1 ["tree", "node"] (sp3 K mg bO)):FnOk P w K mg base (CXE P w) 2 f fd ["tree", "folds", "node"] (sp3 K mg bE):=by
 refine uN (N:=["tree", "folds", "node"]) (k:=1) (body:=dq) rfl rfl rfl F iJ λcdv A outer s H E hr=>?_
 obtain ⟨c_DrawError,c_NoDeed,c_NoNode,c_NoPlace,c_NoTree,m_DrawError,m_NoDeed,m_NoNode,m_NoPlace,m_NoTree,x_NoDeed,x_NoNode,h_DrawError,u_NoDeed_DrawError,u_NoNode_DrawError,k_NoDeed_NoDeed,k_NoDeed_NoNode,k_NoDeed_NoPlace,k_NoDeed_NoTree,k_NoNode_NoDeed,k_NoNode_NoNode,k_NoNode_NoPlace,k_NoNode_NoTree,v_NoDeed_ValueError,v_NoNode_ValueError⟩:=T.xs;unfold dq;exact (ai (eZ (aA Gx_check_node (hr.mono (by decide)) rfl b_1.g b_1.F.kp b_1.b Lv.of.pass (ae (aa 0) (ae (aa 2) ao))))
   (ah (aW (aR gq ir (aa 2) (aa 1) rfl) (ah (nL Lv.of rfl rfl m_NoDeed x_NoDeed.ex)) aD)))
theorem pV {f:Addr} {fd:FuncData} (F:Fun K "_law_tree" "_law_tree" da f fd) (T:Txt K mg) (O:Obs K mg c_Easel f_Easel___init__ f_Easel_whole f_Easel_folded f_Easel_seen f_Easel_settle f_Easel_fold f_Easel_unfold) {A6:Addr} {B6:FuncData} (b_6:Def K mg "_law_cell" cS ["_law_script", "_law_k"] A6 B6) (c_6:FnOk P w K mg base CX0 1 A6 B6 ["_law_script", "_law_k"] (sp3 K mg bS)) {A8:Addr} {B8:FuncData} (b_8:Def K mg "_law_label" cQ ["_law_number", "_law_most"] A8 B8) (c_8:FnOk P w K mg base CX0 1 A8 B8 ["_law_number", "_law_most"] (sp3 K mg dv)):FnOk P w K mg base CX0 2 f fd ["_law_script", "_law_start_here", "_law_many", "_law_most", "_law_deep"] (sp3 K mg fi):=by
 refine fm (N:=["_law_script", "_law_start_here", "_law_many", "_law_most", "_law_deep", "_law_tree_here", "_law_way", "_law_k", "_law_number", "_law_keep"]) (k:=1) (body:=gv) rfl rfl rfl F cD λcdv A outer s H E hr=>?_
 unfold gv;exact (ai (aN (i:=5) cD.nd rfl (Or.inl rfl) (cW ao))
   (ai (aN (i:=6) cD.nd rfl (Or.inl rfl) (cZ (cW ao)))
   (ai (eh rfl PassesOwn.never (qZ rfl T.z_range (aa 2)) (aK (i:=7) cD.nd rfl (Or.inl rfl)) (ai (aN (i:=8) cD.nd rfl (Or.inl rfl) (a_ eD (λ_=>eA) (a_ fO g6 (aA c_6 (hr.mono (by decide)) rfl b_6.g b_6.F.kp b_6.b aS (ae (aa 0) (ae (a_ c7 et (aa 1) (aa 7)) ao))) aq) aq))
   (ai (aW (aR Bk (λ_=>BL) (aa 7) aq (aJ _)) (ai (aN (i:=9) cD.nd rfl (Or.inl rfl) (a_ c7 et aq (a_ eD (λ_=>eA) (aa 8) (cP aP bX rfl T.z_len PySem.boot_len (ae (aa 6) ao)))))
   (ai (aW (aR (bc hr.units) cw (a_ eD (λ_=>eA) (a_ gM (λ_=>jf) (aa 8) aq) aq) aq (aJ _)) (ah (aN (i:=9) cD.nd rfl (Or.inl rfl) (cP aP bX rfl T.z_len PySem.boot_len (ae (aa 6) ao)))) aD)
   (ai (aN (i:=6) cD.nd rfl (Or.inl rfl) (cZ (w4 tU yM (aa 6) zf (kE (cP (ve rfl) (λ_=>zt) rfl T.z_min PyProof.Rows.boot_min (ae (aa 9) (ae (aa 4) ao)))))))
   (ah (nI 5 (cZ (i5 (ae (aG ax aE (aa 6) (jG g9 (λ_=>g8) aq) (λ_ _=>rfl)) (ae (cZ (aA c_8 (hr.mono (by decide)) rfl b_8.g b_8.F.kp b_8.b aS (ae (a_ gM (λ_=>jf) (aa 8) aq) (ae (aa 3) ao)))) (ae (a_ c7 et aq (a_ eD (λ_=>eA) (a_ gM (λ_=>jf) (aa 8) aq) aq)) ao)))))))))) (ah (nI 5 (cZ (i5 (ae (jG g9 (λ_=>g8) aq) (ae (cZ (aA c_8 (hr.mono (by decide)) rfl b_8.g b_8.F.kp b_8.b aS (ae (a_ gM (λ_=>jf) (aa 8) aq) (ae (aa 3) ao)))) (ae (a_ c7 et aq (a_ eD (λ_=>eA) (a_ gM (λ_=>jf) (aa 8) aq) aq)) ao))))))))
   (ah (aN (i:=6) cD.nd rfl (Or.inl rfl) (cZ (a_ c7 et (aa 6) (cW (ae (aa 7) ao)))))))))
   (ah (l5 5)))))
theorem pT {f:Addr} {fd:FuncData} (F:Fun K "_law_rows" "_law_rows" dg f fd) (T:Txt K mg) (O:Obs K mg c_Easel f_Easel___init__ f_Easel_whole f_Easel_folded f_Easel_seen f_Easel_settle f_Easel_fold f_Easel_unfold) {A11:Addr} {B11:FuncData} (b_11:Def K mg "_law_elders" cF ["_law_state"] A11 B11) (c_11:FnOk P w K mg base CX0 1 A11 B11 ["_law_state"] (sp3 K mg dY)):FnOk P w K mg base CX0 2 f fd ["_law_state", "_law_order_here"] (sp3 K mg d6):=by
 refine fm (N:=["_law_state", "_law_order_here", "_law_elders_here", "_law_found", "_law_node", "_law_elder"]) (k:=1) (body:=gy) rfl rfl rfl F eg λcdv A outer s H E hr=>?_
 unfold gy;exact (ai (aN (i:=2) eg.nd rfl (Or.inl rfl) (cZ (aA c_11 (hr.mono (by decide)) rfl b_11.g b_11.F.kp b_11.b aS (ae (aa 0) ao))))
   (ai (aN (i:=3) eg.nd rfl (Or.inl rfl) (cW ao))
   (ai (eh rfl PassesOwn.never (d5 (aa 1)) (aK (i:=4) eg.nd rfl (Or.inl rfl)) (ai (aN (i:=5) eg.nd rfl (Or.inl rfl) (jG g9 (λ_=>g8) aq))
   (ai (aW (aR uE (λ_=>uD) (aG ax aE (aa 2) (aa 4) (λ_ _=>rfl)) aq (aJ _)) (ah (aN (i:=5) eg.nd rfl (Or.inl rfl) (qF (aa 1) (aG ax aE (aa 2) (aa 4) (λ_ _=>rfl))))) aD)
   (ah (nI 3 (i5 (ae (aa 5) (ae (aG ax aE (aG ax aE (aG ax aE (aa 0) aq (λ_ _=>rfl)) (aa 4) (λ_ _=>rfl)) aq (λ_ _=>rfl)) (ae (aG ax aE (aG ax aE (aG ax aE (aa 0) aq (λ_ _=>rfl)) (aa 4) (λ_ _=>rfl)) aq (λ_ _=>rfl)) ao)))))))))
   (ah (l5 3)))))
theorem qQ {f:Addr} {fd:FuncData} (F:Fun K "_law_due" "_law_due" dU f fd) (T:Txt K mg) (O:Obs K mg c_Easel f_Easel___init__ f_Easel_whole f_Easel_folded f_Easel_seen f_Easel_settle f_Easel_fold f_Easel_unfold) {A10:Addr} {B10:FuncData} (b_10:Def K mg "_law_order" cb ["_law_state", "_law_all_of_them"] A10 B10) (c_10:FnOk P w K mg base CX0 1 A10 B10 ["_law_state", "_law_all_of_them"] (sp3 K mg bP)):FnOk P w K mg base CX0 2 f fd ["_law_state", "_law_deed"] (sp3 K mg fX):=by
 refine fm (N:=["_law_state", "_law_deed", "_law_order_here", "_law_number", "_law_node", "_law_right", "_law_level_here", "_law_elder"]) (k:=1) (body:=gR) rfl rfl rfl F fY λcdv A outer s H E hr=>?_
 unfold gR;exact (ai (aN (i:=2) fY.nd rfl (Or.inl rfl) (cZ (aA c_10 (hr.mono (by decide)) rfl b_10.g b_10.F.kp b_10.b aS (ae (aa 0) (ae cG ao)))))
   (ai (eh rfl PassesOwn.never (EO (w4 Ce DJ (aa 1) (kE aq) (kE (a_ c7 et aq (mm o5 (λ_=>uz) rfl T.z_int rS (ae (eQ (bc hr.units) cw (aG ax aE (aa 1) aq (λ_ _=>rfl)) cM (aJ _)) ao)))))) (aK (i:=3) fY.nd rfl (Or.inl rfl)) (ah (aW (n9 (kH (aR tL (λ_=>t_) (aa 3) aq (aJ _)) (iA (aR uE (λ_=>uD) (aa 3) (cP aP bX rfl T.z_len PySem.boot_len (ae (aa 2) ao)) (aJ _))))) (ah (aL aq)) aD)))
   (ai (aN (i:=4) fY.nd rfl (Or.inl rfl) (aG ax aE (aa 2) (aG ax aE (aa 1) aq (λ_ _=>rfl)) (λ_ _=>rfl)))
   (ai (aW (n9 (kH (aR (bc hr.units) cw (aG ax aE (aa 1) aq (λ_ _=>rfl)) cM (aJ _)) (iA (aR (bc hr.units) cw (aG ax aE (aa 1) aq (λ_ _=>rfl)) cM (aJ _))))) (ai (aN (i:=5) fY.nd rfl (Or.inl rfl) (gG (eQ (iW hr.units) lN (aG ax aE (aG ax aE (aa 0) aq (λ_ _=>rfl)) (aa 4) (λ_ _=>rfl)) (cW ao) (aJ _)) (gh (eQ (bc hr.units) cw (aG ax aE (aG ax aE (aa 0) aq (λ_ _=>rfl)) (aa 4) (λ_ _=>rfl)) (eQ (bc hr.units) cw (aG ax aE (aa 1) aq (λ_ _=>rfl)) cM (aJ _)) (aJ _)))))
   (ah (aL (aG ax aE (cW (ae aq (ae aq ao))) (mm o5 (λ_=>uz) rfl T.z_int rS (ae (aa 5) ao)) (λ_ _=>rfl))))) aD)
   lz))))
theorem o9 {f:Addr} {fd:FuncData} (F:Fun K "_law_done" "_law_done" dh f fd) (T:Txt K mg) (O:Obs K mg c_Easel f_Easel___init__ f_Easel_whole f_Easel_folded f_Easel_seen f_Easel_settle f_Easel_fold f_Easel_unfold) {f__law_order:Addr} {fd__law_order:FuncData} (D__law_order:Def K mg "_law_order" cb ["_law_state", "_law_all_of_them"] f__law_order fd__law_order) (G__law_order:FnOk P w K mg base CX0 1 f__law_order fd__law_order ["_law_state", "_law_all_of_them"] (sp3 K mg bP)):FnOk P w K mg base CX0 2 f fd ["_law_state", "_law_deed"] (spP K 2 8 b8):=by
 refine fnP (N:=["_law_state", "_law_deed", "_law_order_here", "_law_node", "_law_first", "_law_more", "_law_elder", "_law_touched"]) (k:=1) (b:=b8) rfl rfl F iH λcdv A outer s H E hr=>?_
 unfold b8;exact (cz (aN (i:=2) iH.nd rfl (Or.inl rfl) (cZ (sX (aA G__law_order (hr.mono (by decide)) rfl D__law_order.g D__law_order.F.kp D__law_order.b aS (ae (aa 0) (ae cG ao))))))
   (cz (aN (i:=3) iH.nd rfl (Or.inl rfl) (aG ax aE (aa 2) (aG ax aE (aa 1) aq (λ_ _=>rfl)) (λ_ _=>rfl)))
   (Ii (n9 (kH (aR (bc hr.units) cw (aG ax aE (aa 1) aq (λ_ _=>rfl)) cM (aJ _)) (iA (aR (bc hr.units) cw (aG ax aE (aa 1) aq (λ_ _=>rfl)) cM (aJ _))))) (cz (yB (i:=0) (c:=2) (a9 rfl (by first | exact Or.inl rfl | exact Or.inr (Or.inl rfl) | exact Or.inr (Or.inr rfl))) (aa 3) (eQ (bc hr.units) cw (aG ax aE (aa 1) aq (λ_ _=>rfl)) cM (aJ _)))
   (xo (cW (ae (aa 3) ao))))
   CF)))
theorem oA {f:Addr} {fd:FuncData} (F:Fun K "check_fold" "check_fold" b9 f fd) (T:Txt K mg) (O:Obs K mg c_Easel f_Easel___init__ f_Easel_whole f_Easel_folded f_Easel_seen f_Easel_settle f_Easel_fold f_Easel_unfold) {A1:Addr} {B1:FuncData} (b_1:Def K mg "check_node" bp ["tree", "node"] A1 B1) (c_1:FnOk P w K mg base CX0 1 A1 B1 ["tree", "node"] (sp3 K mg bB)) (Gx_check_node:FnOk P w K mg base (CXE P w) 1 A1 B1 ["tree", "node"] (sp3 K mg bO)) {A13:Addr} {B13:FuncData} (b_13:Def K mg "children_of" bN ["tree", "node"] A13 B13) (c_13:FnOk P w K mg base CX0 2 A13 B13 ["tree", "node"] (sp3 K mg cH)):FnOk P w K mg base CX0 3 f fd ["tree", "folds", "node"] (sp3 K mg dt):=by
 refine fm (N:=["tree", "folds", "node"]) (k:=2) (body:=fW) rfl rfl rfl F jH λcdv A outer s H E hr=>?_
 unfold fW;exact (ai (eZ (aA c_1 (hr.mono (by decide)) rfl b_1.g b_1.F.kp b_1.b aS (ae (aa 0) (ae (aa 2) ao))))
   (ah (aW (n9 (kH (aR ie ir (aa 2) (aa 1) rfl) (iA (aR (bc hr.units) cw (cP aP bX rfl T.z_len PySem.boot_len (ae (aA c_13 (hr.mono (by decide)) rfl b_13.g b_13.F.kp b_13.b aS (ae (aa 0) (ae (aa 2) ao))) ao)) aq (aJ _))))) (ah dW) aD)))
theorem nU {f:Addr} {fd:FuncData} (F:Fun K "check_fold" "check_fold" b9 f fd) (T:Txt K mg) (O:Obs K mg c_Easel f_Easel___init__ f_Easel_whole f_Easel_folded f_Easel_seen f_Easel_settle f_Easel_fold f_Easel_unfold) {A1:Addr} {B1:FuncData} (b_1:Def K mg "check_node" bp ["tree", "node"] A1 B1) (c_1:FnOk P w K mg base CX0 1 A1 B1 ["tree", "node"] (sp3 K mg bB)) (Gx_check_node:FnOk P w K mg base (CXE P w) 1 A1 B1 ["tree", "node"] (sp3 K mg bO)) {A13:Addr} {B13:FuncData} (b_13:Def K mg "children_of" bN ["tree", "node"] A13 B13) (c_13:FnOk P w K mg base CX0 2 A13 B13 ["tree", "node"] (sp3 K mg cH)):FnOk P w K mg base (CXE P w) 3 f fd ["tree", "folds", "node"] (sp3 K mg bZ):=by
 refine uN (N:=["tree", "folds", "node"]) (k:=2) (body:=eJ) rfl rfl rfl F jH λcdv A outer s H E hr=>?_
 obtain ⟨c_DrawError,c_NoDeed,c_NoNode,c_NoPlace,c_NoTree,m_DrawError,m_NoDeed,m_NoNode,m_NoPlace,m_NoTree,x_NoDeed,x_NoNode,h_DrawError,u_NoDeed_DrawError,u_NoNode_DrawError,k_NoDeed_NoDeed,k_NoDeed_NoNode,k_NoDeed_NoPlace,k_NoDeed_NoTree,k_NoNode_NoDeed,k_NoNode_NoNode,k_NoNode_NoPlace,k_NoNode_NoTree,v_NoDeed_ValueError,v_NoNode_ValueError⟩:=T.xs;unfold eJ;exact (ai (eZ (aA Gx_check_node (hr.mono (by decide)) rfl b_1.g b_1.F.kp b_1.b Lv.of.pass (ae (aa 0) (ae (aa 2) ao))))
   (ah (aW (n9 (kH (aR ie ir (aa 2) (aa 1) rfl) (iA (aR (bc hr.units) cw (cP aP bX rfl T.z_len PySem.boot_len (ae (aA c_13 (hr.mono (by decide)) rfl b_13.g b_13.F.kp b_13.b aS (ae (aa 0) (ae (aa 2) ao))) ao)) aq (aJ _))))) (ah (nL Lv.of rfl rfl m_NoDeed x_NoDeed.ex)) aD)))
theorem ox {f:Addr} {fd:FuncData} (F:Fun K "seen" "Easel.seen" cg f fd) (T:Txt K mg) (O:Obs K mg c_Easel f_Easel___init__ f_Easel_whole f_Easel_folded f_Easel_seen f_Easel_settle f_Easel_fold f_Easel_unfold) {A14:Addr} {B14:FuncData} (b_14:Def K mg "shown" gw ["tree", "folds"] A14 B14) (c_14:FnOk P w K mg base CX0 2 A14 B14 ["tree", "folds"] (sp3 K mg iZ)):FnOk P w K mg base CX0 3 f fd ["self"] (sp3 K mg aF):=by
 refine fm (N:=["self"]) (k:=2) (body:=fQ) rfl rfl rfl F nZ λcdv A outer s H E hr=>?_
 unfold fQ;exact (ah (aL (aA c_14 (hr.mono (by decide)) rfl b_14.g b_14.F.kp b_14.b aS (ae (iY (tb:=λnm=>decide (nm = "Easel")) (bT O.a_Easel ⟨O.i_Easel.c,O.na_Easel_tree⟩) (aa 0)) (ae (iY (tb:=λnm=>decide (nm = "Easel")) (bT O.a_Easel ⟨O.i_Easel.c,O.na_Easel_folds⟩) (aa 0)) ao)))))
theorem lT {f:Addr} {fd:FuncData} (F:Fun K "settle" "Easel.settle" aY f fd) (T:Txt K mg) (O:Obs K mg c_Easel f_Easel___init__ f_Easel_whole f_Easel_folded f_Easel_seen f_Easel_settle f_Easel_fold f_Easel_unfold) {fd_Easel_seen:FuncData} (D_Easel_seen:DefM K "seen" "Easel.seen" cg ["self"] f_Easel_seen fd_Easel_seen) (G_Easel_seen:FnOk P w K mg base CX0 3 f_Easel_seen fd_Easel_seen ["self"] (sp3 K mg aF)) {f_kept_folds:Addr} {fd_kept_folds:FuncData} (D_kept_folds:Def K mg "kept_folds" bY ["changed", "folds"] f_kept_folds fd_kept_folds) (G_kept_folds:FnOk P w K mg base CX0 1 f_kept_folds fd_kept_folds ["changed", "folds"] (sp3 K mg dF)) {f_with_elders:Addr} {fd_with_elders:FuncData} (D_with_elders:Def K mg "with_elders" cE ["tree", "nodes"] f_with_elders fd_with_elders) (G_with_elders:FnOk P w K mg base CX0 1 f_with_elders fd_with_elders ["tree", "nodes"] (sp3 K mg dP)):FnOk P w K mg base CX0 4 f fd ["self", "changed", "folds", "touched"] (spP K 4 8 aM):=by
 refine fnP (N:=["self", "changed", "folds", "touched", "before", "now", "numbers", "roused"]) (k:=3) (b:=aM) rfl rfl F dn λcdv A outer s H E hr=>?_
 unfold aM;exact (cz (aN (i:=4) dn.nd rfl (Or.inr rfl) (aG ax aE (sU 0 (cZ (e8 (tb:=(λnm=>List.lookup nm [("Easel",aF)])) (k:=3) (dS O.a_Easel ⟨_,⟨O.i_Easel.c,O.me_Easel_seen,⟨_,_,FnOk.mono (k:=3) G_Easel_seen (by decide),D_Easel_seen.b⟩⟩⟩ e9) (hr.mono (by decide)) aS (aa 0)))) aq (λ_ _=>rfl)))
   (cz (iw (tb:=λnm=>decide (nm = "Easel")) (i:=0) (bT O.a_Easel ⟨O.i_Easel.c,O.na_Easel_tree⟩) (a9 rfl (by first | exact Or.inl rfl | exact Or.inr (Or.inl rfl) | exact Or.inr (Or.inr rfl))) (aG ax aE (aa 1) aq (λ_ _=>rfl)))
   (cz (iw (tb:=λnm=>decide (nm = "Easel")) (i:=0) (bT O.a_Easel ⟨O.i_Easel.c,O.na_Easel_folds⟩) (a9 rfl (by first | exact Or.inl rfl | exact Or.inr (Or.inl rfl) | exact Or.inr (Or.inr rfl))) (aA G_kept_folds (hr.mono (by decide)) rfl D_kept_folds.g D_kept_folds.F.kp D_kept_folds.b aS (ae (aa 1) (ae (aa 2) ao))))
   (cz (aN (i:=5) dn.nd rfl (Or.inl rfl) (cZ (sU 0 (cZ (e8 (tb:=(λnm=>List.lookup nm [("Easel",aF)])) (k:=3) (dS O.a_Easel ⟨_,⟨O.i_Easel.c,O.me_Easel_seen,⟨_,_,FnOk.mono (k:=3) G_Easel_seen (by decide),D_Easel_seen.b⟩⟩⟩ e9) (hr.mono (by decide)) aS (aa 0))))))
   (cz (ji (i:=6) (sc:=(aj aY)) (outs:=[(1, "changed")]) (is:=[0]) ["number"] (λ_ _ _ q=>wQ q) dn.nd rfl (Or.inl rfl) ⟨rfl,rfl,by decide +kernel,by decide +kernel,by decide +kernel,⟨⟨rfl,rfl⟩,trivial⟩⟩ rfl (by decide) (d5 (aG ax aE (aa 5) aq (λ_ _=>rfl))) (λ_ _ _ _ _=>(aK (i:=0) (show List.Nodup (["number", "changed"]:List Str) by decide +kernel) rfl (Or.inl rfl))) (λ_ _ _ _ _=>jW) (λ_ _ _ _ _=>(aG ax aE (aG ax aE (aa 1) aq (λ_ _=>rfl)) (aa 0) (λ_ _=>rfl))))
   (cz (ji (i:=7) (sc:=(aj aY)) (outs:=[(3, "touched"),(4, "before")]) (is:=[0,1]) ["node", "number"] (λ_ _ _ q=>wQ q) dn.nd rfl (Or.inl rfl) ⟨rfl,rfl,by decide +kernel,by decide +kernel,by decide +kernel,⟨⟨rfl,rfl⟩,⟨rfl,rfl⟩,trivial⟩⟩ rfl (by decide) (j5 rfl T.z_enumerate (aa 6)) (λ_ _ _ _ _=>(gZ (n:=2) rfl (bw (aK (i:=0) (show List.Nodup (["node", "number", "touched", "before"]:List Str) by decide +kernel) rfl (Or.inl rfl)) (bw (aK (i:=1) (show List.Nodup (["node", "number", "touched", "before"]:List Str) by decide +kernel) rfl (Or.inl rfl)) fK)))) (λ_ _ _ _ _=>(ly (n9 (kH (aR ie ir (aa 1) (aa 2) rfl) (iA (aR gq ir (aa 1) (aa 3) rfl)))))) (λ_ _ _ _ _=>(aa 0)))
   (cz (iw (tb:=λnm=>decide (nm = "Easel")) (i:=0) (bT O.a_Easel ⟨O.i_Easel.c,O.na_Easel_anew⟩) (a9 rfl (by first | exact Or.inl rfl | exact Or.inr (Or.inl rfl) | exact Or.inr (Or.inr rfl))) (aA G_with_elders (hr.mono (by decide)) rfl D_with_elders.g D_with_elders.F.kp D_with_elders.b aS (ae (aG ax aE (aa 5) aq (λ_ _=>rfl)) (ae (aa 7) ao))))
   mJ)))))))
theorem nY {f:Addr} {fd:FuncData} (F:Fun K "fold" "Easel.fold" cj f fd) (T:Txt K mg) (O:Obs K mg c_Easel f_Easel___init__ f_Easel_whole f_Easel_folded f_Easel_seen f_Easel_settle f_Easel_fold f_Easel_unfold) {A20:Addr} {B20:FuncData} (b_20:Def K mg "check_fold" b9 ["tree", "folds", "node"] A20 B20) (c_20:FnOk P w K mg base CX0 3 A20 B20 ["tree", "folds", "node"] (sp3 K mg dt)) (Gx_check_fold:FnOk P w K mg base (CXE P w) 3 A20 B20 ["tree", "folds", "node"] (sp3 K mg bZ)) {fd_Easel_settle:FuncData} (D_Easel_settle:DefM K "settle" "Easel.settle" aY ["self", "changed", "folds", "touched"] f_Easel_settle fd_Easel_settle) (Go_Easel_settle:FnOk P w K mg base CX0 4 f_Easel_settle fd_Easel_settle ["self", "changed", "folds", "touched"] (spP K 4 8 aM)) {A3:Addr} {B3:FuncData} (b_3:Def K mg "unchanged" cx ["tree"] A3 B3) (c_3:FnOk P w K mg base CX0 1 A3 B3 ["tree"] (sp3 K mg bR)):FnOk P w K mg base (CXE P w) 5 f fd ["self", "node"] (sp3 K mg cX):=by
 refine uN (N:=["self", "node"]) (k:=4) (body:=fN) rfl rfl rfl F jJ λcdv A outer s H E hr=>?_
 obtain ⟨c_DrawError,c_NoDeed,c_NoNode,c_NoPlace,c_NoTree,m_DrawError,m_NoDeed,m_NoNode,m_NoPlace,m_NoTree,x_NoDeed,x_NoNode,h_DrawError,u_NoDeed_DrawError,u_NoNode_DrawError,k_NoDeed_NoDeed,k_NoDeed_NoNode,k_NoDeed_NoPlace,k_NoDeed_NoTree,k_NoNode_NoDeed,k_NoNode_NoNode,k_NoNode_NoPlace,k_NoNode_NoTree,v_NoDeed_ValueError,v_NoNode_ValueError⟩:=T.xs;unfold fN;exact (ai (eZ (aA Gx_check_fold (hr.mono (by decide)) rfl b_20.g b_20.F.kp b_20.b Lv.of.pass (ae (iY (tb:=λnm=>decide (nm = "Easel")) (bT O.a_Easel ⟨O.i_Easel.c,O.na_Easel_tree⟩) (aa 0)) (ae (iY (tb:=λnm=>decide (nm = "Easel")) (bT O.a_Easel ⟨O.i_Easel.c,O.na_Easel_folds⟩) (aa 0)) (ae (aa 1) ao)))))
   (ah dW))
theorem nX {f:Addr} {fd:FuncData} (F:Fun K "fold" "Easel.fold" cj f fd) (T:Txt K mg) (O:Obs K mg c_Easel f_Easel___init__ f_Easel_whole f_Easel_folded f_Easel_seen f_Easel_settle f_Easel_fold f_Easel_unfold) {f_check_fold:Addr} {fd_check_fold:FuncData} (D_check_fold:Def K mg "check_fold" b9 ["tree", "folds", "node"] f_check_fold fd_check_fold) (G_check_fold:FnOk P w K mg base CX0 3 f_check_fold fd_check_fold ["tree", "folds", "node"] (sp3 K mg dt)) (Gx_check_fold:FnOk P w K mg base (CXE P w) 3 f_check_fold fd_check_fold ["tree", "folds", "node"] (sp3 K mg bZ)) {fd_Easel_settle:FuncData} (D_Easel_settle:DefM K "settle" "Easel.settle" aY ["self", "changed", "folds", "touched"] f_Easel_settle fd_Easel_settle) (Go_Easel_settle:FnOk P w K mg base CX0 4 f_Easel_settle fd_Easel_settle ["self", "changed", "folds", "touched"] (spP K 4 8 aM)) {f_unchanged:Addr} {fd_unchanged:FuncData} (D_unchanged:Def K mg "unchanged" cx ["tree"] f_unchanged fd_unchanged) (G_unchanged:FnOk P w K mg base CX0 1 f_unchanged fd_unchanged ["tree"] (sp3 K mg bR)):FnOk P w K mg base CX0 5 f fd ["self", "node"] (spP K 2 2 bM):=by
 refine fnP (N:=["self", "node"]) (k:=4) (b:=bM) rfl rfl F jJ λcdv A outer s H E hr=>?_
 unfold bM;exact (cz (eZ (aA G_check_fold (hr.mono (by decide)) rfl D_check_fold.g D_check_fold.F.kp D_check_fold.b aS (ae (gP (tb:=λnm=>decide (nm = "Easel")) (i:=0) (bT O.a_Easel ⟨O.i_Easel.c,O.na_Easel_tree⟩) (a9 rfl (by first | exact Or.inl rfl | exact Or.inr (Or.inl rfl) | exact Or.inr (Or.inr rfl)))) (ae (gP (tb:=λnm=>decide (nm = "Easel")) (i:=0) (bT O.a_Easel ⟨O.i_Easel.c,O.na_Easel_folds⟩) (a9 rfl (by first | exact Or.inl rfl | exact Or.inr (Or.inl rfl) | exact Or.inr (Or.inr rfl)))) (ae (aa 1) ao)))))
   (cz (kA (nm := "Easel") (m:=3) (k:=4) (pB O.a_Easel ⟨_,⟨O.i_Easel.c,O.me_Easel_settle,⟨_,_,FnOk.mono (k:=4) Go_Easel_settle (by decide),D_Easel_settle.b⟩⟩⟩) (hr.mono (by decide)) aS (a9 rfl (by first | exact Or.inl rfl | exact Or.inr (Or.inl rfl) | exact Or.inr (Or.inr rfl))) (ae (aA G_unchanged (hr.mono (by decide)) rfl D_unchanged.g D_unchanged.F.kp D_unchanged.b aS (ae (gP (tb:=λnm=>decide (nm = "Easel")) (i:=0) (bT O.a_Easel ⟨O.i_Easel.c,O.na_Easel_tree⟩) (a9 rfl (by first | exact Or.inl rfl | exact Or.inr (Or.inl rfl) | exact Or.inr (Or.inr rfl)))) ao)) (ae (a_ c7 et (gP (tb:=λnm=>decide (nm = "Easel")) (i:=0) (bT O.a_Easel ⟨O.i_Easel.c,O.na_Easel_folds⟩) (a9 rfl (by first | exact Or.inl rfl | exact Or.inr (Or.inl rfl) | exact Or.inr (Or.inr rfl)))) (cW (ae (aa 1) ao))) (ae (cW (ae (aa 1) ao)) ao))) (eO (eO (eO iV))))
   mJ))
theorem lS {f:Addr} {fd:FuncData} (F:Fun K "unfold" "Easel.unfold" bh f fd) (T:Txt K mg) (O:Obs K mg c_Easel f_Easel___init__ f_Easel_whole f_Easel_folded f_Easel_seen f_Easel_settle f_Easel_fold f_Easel_unfold) {A15:Addr} {B15:FuncData} (b_15:Def K mg "check_unfold" bA ["tree", "folds", "node"] A15 B15) (c_15:FnOk P w K mg base CX0 2 A15 B15 ["tree", "folds", "node"] (sp3 K mg cO)) (Gx_check_unfold:FnOk P w K mg base (CXE P w) 2 A15 B15 ["tree", "folds", "node"] (sp3 K mg bE)) {fd_Easel_settle:FuncData} (D_Easel_settle:DefM K "settle" "Easel.settle" aY ["self", "changed", "folds", "touched"] f_Easel_settle fd_Easel_settle) (Go_Easel_settle:FnOk P w K mg base CX0 4 f_Easel_settle fd_Easel_settle ["self", "changed", "folds", "touched"] (spP K 4 8 aM)) {A3:Addr} {B3:FuncData} (b_3:Def K mg "unchanged" cx ["tree"] A3 B3) (c_3:FnOk P w K mg base CX0 1 A3 B3 ["tree"] (sp3 K mg bR)):FnOk P w K mg base (CXE P w) 5 f fd ["self", "node"] (sp3 K mg cA):=by
 refine uN (N:=["self", "node"]) (k:=4) (body:=eP) rfl rfl rfl F iM λcdv A outer s H E hr=>?_
 obtain ⟨c_DrawError,c_NoDeed,c_NoNode,c_NoPlace,c_NoTree,m_DrawError,m_NoDeed,m_NoNode,m_NoPlace,m_NoTree,x_NoDeed,x_NoNode,h_DrawError,u_NoDeed_DrawError,u_NoNode_DrawError,k_NoDeed_NoDeed,k_NoDeed_NoNode,k_NoDeed_NoPlace,k_NoDeed_NoTree,k_NoNode_NoDeed,k_NoNode_NoNode,k_NoNode_NoPlace,k_NoNode_NoTree,v_NoDeed_ValueError,v_NoNode_ValueError⟩:=T.xs;unfold eP;exact (ai (eZ (aA Gx_check_unfold (hr.mono (by decide)) rfl b_15.g b_15.F.kp b_15.b Lv.of.pass (ae (iY (tb:=λnm=>decide (nm = "Easel")) (bT O.a_Easel ⟨O.i_Easel.c,O.na_Easel_tree⟩) (aa 0)) (ae (iY (tb:=λnm=>decide (nm = "Easel")) (bT O.a_Easel ⟨O.i_Easel.c,O.na_Easel_folds⟩) (aa 0)) (ae (aa 1) ao)))))
   (ah dW))
theorem lZ {f:Addr} {fd:FuncData} (F:Fun K "unfold" "Easel.unfold" bh f fd) (T:Txt K mg) (O:Obs K mg c_Easel f_Easel___init__ f_Easel_whole f_Easel_folded f_Easel_seen f_Easel_settle f_Easel_fold f_Easel_unfold) {f_check_unfold:Addr} {fd_check_unfold:FuncData} (D_check_unfold:Def K mg "check_unfold" bA ["tree", "folds", "node"] f_check_unfold fd_check_unfold) (G_check_unfold:FnOk P w K mg base CX0 2 f_check_unfold fd_check_unfold ["tree", "folds", "node"] (sp3 K mg cO)) (Gx_check_unfold:FnOk P w K mg base (CXE P w) 2 f_check_unfold fd_check_unfold ["tree", "folds", "node"] (sp3 K mg bE)) {fd_Easel_settle:FuncData} (D_Easel_settle:DefM K "settle" "Easel.settle" aY ["self", "changed", "folds", "touched"] f_Easel_settle fd_Easel_settle) (Go_Easel_settle:FnOk P w K mg base CX0 4 f_Easel_settle fd_Easel_settle ["self", "changed", "folds", "touched"] (spP K 4 8 aM)) {f_unchanged:Addr} {fd_unchanged:FuncData} (D_unchanged:Def K mg "unchanged" cx ["tree"] f_unchanged fd_unchanged) (G_unchanged:FnOk P w K mg base CX0 1 f_unchanged fd_unchanged ["tree"] (sp3 K mg bR)):FnOk P w K mg base CX0 5 f fd ["self", "node"] (spP K 2 2 bj):=by
 refine fnP (N:=["self", "node"]) (k:=4) (b:=bj) rfl rfl F iM λcdv A outer s H E hr=>?_
 unfold bj;exact (cz (eZ (aA G_check_unfold (hr.mono (by decide)) rfl D_check_unfold.g D_check_unfold.F.kp D_check_unfold.b aS (ae (gP (tb:=λnm=>decide (nm = "Easel")) (i:=0) (bT O.a_Easel ⟨O.i_Easel.c,O.na_Easel_tree⟩) (a9 rfl (by first | exact Or.inl rfl | exact Or.inr (Or.inl rfl) | exact Or.inr (Or.inr rfl)))) (ae (gP (tb:=λnm=>decide (nm = "Easel")) (i:=0) (bT O.a_Easel ⟨O.i_Easel.c,O.na_Easel_folds⟩) (a9 rfl (by first | exact Or.inl rfl | exact Or.inr (Or.inl rfl) | exact Or.inr (Or.inr rfl)))) (ae (aa 1) ao)))))
   (cz (kA (nm := "Easel") (m:=3) (k:=4) (pB O.a_Easel ⟨_,⟨O.i_Easel.c,O.me_Easel_settle,⟨_,_,FnOk.mono (k:=4) Go_Easel_settle (by decide),D_Easel_settle.b⟩⟩⟩) (hr.mono (by decide)) aS (a9 rfl (by first | exact Or.inl rfl | exact Or.inr (Or.inl rfl) | exact Or.inr (Or.inr rfl))) (ae (aA G_unchanged (hr.mono (by decide)) rfl D_unchanged.g D_unchanged.F.kp D_unchanged.b aS (ae (gP (tb:=λnm=>decide (nm = "Easel")) (i:=0) (bT O.a_Easel ⟨O.i_Easel.c,O.na_Easel_tree⟩) (a9 rfl (by first | exact Or.inl rfl | exact Or.inr (Or.inl rfl) | exact Or.inr (Or.inr rfl)))) ao)) (ae (iG (sc:=(aj bh)) (outs:=[(1, "node")]) (is:=[0]) ["number"] ⟨rfl,rfl,by decide +kernel,by decide +kernel,by decide +kernel,⟨⟨rfl,rfl⟩,trivial⟩⟩ rfl (by decide) (d5 (gP (tb:=λnm=>decide (nm = "Easel")) (i:=0) (bT O.a_Easel ⟨O.i_Easel.c,O.na_Easel_folds⟩) (a9 rfl (by first | exact Or.inl rfl | exact Or.inr (Or.inl rfl) | exact Or.inr (Or.inr rfl))))) (λ_ _ _ _ _=>(aK (i:=0) (show List.Nodup (["number", "node"]:List Str) by decide +kernel) rfl (Or.inl rfl))) (λ_ _ _ _ _=>(ly (aR (iW hr.units) lN (aa 0) (aa 1) (aJ _)))) (λ_ _ _ _ _=>(aa 0))) (ae (cW (ae (aa 1) ao)) ao))) (eO (eO (eO iV))))
   mJ))
theorem rN {f:Addr} {fd:FuncData} (F:Fun K "_law_do" "_law_do" dE f fd) (T:Txt K mg) (O:Obs K mg c_Easel f_Easel___init__ f_Easel_whole f_Easel_folded f_Easel_seen f_Easel_settle f_Easel_fold f_Easel_unfold) {fd_Easel_fold:FuncData} (D_Easel_fold:DefM K "fold" "Easel.fold" cj ["self", "node"] f_Easel_fold fd_Easel_fold) (Gx_Easel_fold:FnOk P w K mg base (CXE P w) 5 f_Easel_fold fd_Easel_fold ["self", "node"] (sp3 K mg cX)) (Go_Easel_fold:FnOk P w K mg base CX0 5 f_Easel_fold fd_Easel_fold ["self", "node"] (spP K 2 2 bM)) {fd_Easel_unfold:FuncData} (D_Easel_unfold:DefM K "unfold" "Easel.unfold" bh ["self", "node"] f_Easel_unfold fd_Easel_unfold) (Gx_Easel_unfold:FnOk P w K mg base (CXE P w) 5 f_Easel_unfold fd_Easel_unfold ["self", "node"] (sp3 K mg cA)) (Go_Easel_unfold:FnOk P w K mg base CX0 5 f_Easel_unfold fd_Easel_unfold ["self", "node"] (spP K 2 2 bj)):FnOk P w K mg base (CXE P w) 6 f fd ["_law_easel", "_law_deed"] (sp3 K mg eR):=by
 refine uN (N:=["_law_easel", "_law_deed"]) (k:=5) (body:=iF) rfl rfl rfl F nP λcdv A outer s H E hr=>?_
 obtain ⟨c_DrawError,c_NoDeed,c_NoNode,c_NoPlace,c_NoTree,m_DrawError,m_NoDeed,m_NoNode,m_NoPlace,m_NoTree,x_NoDeed,x_NoNode,h_DrawError,u_NoDeed_DrawError,u_NoNode_DrawError,k_NoDeed_NoDeed,k_NoDeed_NoNode,k_NoDeed_NoPlace,k_NoDeed_NoTree,k_NoNode_NoDeed,k_NoNode_NoNode,k_NoNode_NoPlace,k_NoNode_NoTree,v_NoDeed_ValueError,v_NoNode_ValueError⟩:=T.xs;unfold iF;exact (ah (aW (aR (bc hr.units) cw (aG ax aE (aa 1) aq (λ_ _=>rfl)) cM (aJ _)) (ah (eZ (tx (tb:=(λnm=>List.lookup nm [("Easel",cX)])) (k:=5) (dS O.a_Easel ⟨_,⟨O.i_Easel.c,O.me_Easel_fold,⟨_,_,FnOk.mono (k:=5) Gx_Easel_fold (by decide),D_Easel_fold.b⟩⟩⟩ e9) (hr.mono (by decide)) Lv.of.pass (aa 0) (ae (aG ax aE (aa 1) aq (λ_ _=>rfl)) ao)))) (ah (aW (aR (bc hr.units) cw (aG ax aE (aa 1) aq (λ_ _=>rfl)) cM (aJ _)) (ah (eZ (tx (tb:=(λnm=>List.lookup nm [("Easel",cA)])) (k:=5) (dS O.a_Easel ⟨_,⟨O.i_Easel.c,O.me_Easel_unfold,⟨_,_,FnOk.mono (k:=5) Gx_Easel_unfold (by decide),D_Easel_unfold.b⟩⟩⟩ e9) (hr.mono (by decide)) Lv.of.pass (aa 0) (ae (aG ax aE (aa 1) aq (λ_ _=>rfl)) ao)))) (ah (aW (aR (bc hr.units) cw (aG ax aE (aa 1) aq (λ_ _=>rfl)) cM (aJ _)) (ah dW) (ah (aW (aR (bc hr.units) cw (aG ax aE (aa 1) aq (λ_ _=>rfl)) cM (aJ _)) (ah dW) (ah dW)))))))))
theorem sC {f:Addr} {fd:FuncData} (F:Fun K "_law_do" "_law_do" dE f fd) (T:Txt K mg) (O:Obs K mg c_Easel f_Easel___init__ f_Easel_whole f_Easel_folded f_Easel_seen f_Easel_settle f_Easel_fold f_Easel_unfold) {fd_Easel_fold:FuncData} (D_Easel_fold:DefM K "fold" "Easel.fold" cj ["self", "node"] f_Easel_fold fd_Easel_fold) (Gx_Easel_fold:FnOk P w K mg base (CXE P w) 5 f_Easel_fold fd_Easel_fold ["self", "node"] (sp3 K mg cX)) (Go_Easel_fold:FnOk P w K mg base CX0 5 f_Easel_fold fd_Easel_fold ["self", "node"] (spP K 2 2 bM)) {fd_Easel_unfold:FuncData} (D_Easel_unfold:DefM K "unfold" "Easel.unfold" bh ["self", "node"] f_Easel_unfold fd_Easel_unfold) (Gx_Easel_unfold:FnOk P w K mg base (CXE P w) 5 f_Easel_unfold fd_Easel_unfold ["self", "node"] (sp3 K mg cA)) (Go_Easel_unfold:FnOk P w K mg base CX0 5 f_Easel_unfold fd_Easel_unfold ["self", "node"] (spP K 2 2 bj)):FnOk P w K mg base CX0 6 f fd ["_law_easel", "_law_deed"] (spP K 2 2 cB):=by
 refine fnP (N:=["_law_easel", "_law_deed"]) (k:=5) (b:=cB) rfl rfl F nP λcdv A outer s H E hr=>?_
 unfold cB;exact (cz (aW (aR (bc hr.units) cw (aG ax aE (aa 1) aq (λ_ _=>rfl)) cM (aJ _)) (ah (kA (nm := "Easel") (m:=1) (k:=5) (pB O.a_Easel ⟨_,⟨O.i_Easel.c,O.me_Easel_fold,⟨_,_,FnOk.mono (k:=5) Go_Easel_fold (by decide),D_Easel_fold.b⟩⟩⟩) (hr.mono (by decide)) aS (a9 rfl (by first | exact Or.inl rfl | exact Or.inr (Or.inl rfl) | exact Or.inr (Or.inr rfl))) (ae (aG ax aE (aa 1) aq (λ_ _=>rfl)) ao) (eO iV))) (ah (aW (aR (bc hr.units) cw (aG ax aE (aa 1) aq (λ_ _=>rfl)) cM (aJ _)) (ah (kA (nm := "Easel") (m:=1) (k:=5) (pB O.a_Easel ⟨_,⟨O.i_Easel.c,O.me_Easel_unfold,⟨_,_,FnOk.mono (k:=5) Go_Easel_unfold (by decide),D_Easel_unfold.b⟩⟩⟩) (hr.mono (by decide)) aS (a9 rfl (by first | exact Or.inl rfl | exact Or.inr (Or.inl rfl) | exact Or.inr (Or.inr rfl))) (ae (aG ax aE (aa 1) aq (λ_ _=>rfl)) ao) (eO iV))) (ah (aW (aR (bc hr.units) cw (aG ax aE (aa 1) aq (λ_ _=>rfl)) cM (aJ _)) (ah dW) (ah (aW (aR (bc hr.units) cw (aG ax aE (aa 1) aq (λ_ _=>rfl)) cM (aJ _)) (ah dW) (ah dW))))))))
   mJ)
theorem lq {f:Addr} {fd:FuncData} (F:Fun K "_law_alike" "_law_alike" a7 f fd) (T:Txt K mg) (O:Obs K mg c_Easel f_Easel___init__ f_Easel_whole f_Easel_folded f_Easel_seen f_Easel_settle f_Easel_fold f_Easel_unfold) {A7:Addr} {B7:FuncData} (b_7:Def K mg "_law_whole" bV ["_law_found"] A7 B7) (c_7:FnOk P w K mg base CX0 1 A7 B7 ["_law_found"] (sp3 K mg aC)) {A22:Addr} {B22:FuncData} (b_22:Def K mg "_law_alike" a7 ["_law_found", "_law_due_here"] A22 B22) (c_22:FnOk P w K mg base CX0 2 A22 B22 ["_law_found", "_law_due_here"] (sp3 K mg ia)):FnOk P w K mg base CX0 3 f fd ["_law_found", "_law_due_here"] (sp3 K mg fE):=by
 refine fm (N:=["_law_found", "_law_due_here", "_law_one", "_law_other"]) (k:=2) (body:=fF) rfl rfl rfl F bo λcdv A outer s H E hr=>?_
 unfold fF;exact (ai (aW (bG (cN rfl T.z_isinstance rfl T.z_str jc (aa 1))) (ah (aL (gG (cN rfl T.z_isinstance rfl T.z_str jc (aa 0)) (gh (eQ (bc hr.units) cw (aa 0) (aa 1) (aJ _)))))) aD)
   (ai (aW (bG (aA c_7 (hr.mono (by decide)) rfl b_7.g b_7.F.kp b_7.b aS (ae (aa 1) ao))) (ah (aL (gG (aA c_7 (hr.mono (by decide)) rfl b_7.g b_7.F.kp b_7.b aS (ae (aa 0) ao)) (gh (eQ (bc hr.units) cw (aa 0) (aa 1) (aJ _)))))) aD)
   (ai (aW (bG (cN rfl T.z_isinstance rfl T.z_tuple f9 (aa 1))) (ah (aW (ez (bG (cN rfl T.z_isinstance rfl T.z_tuple f9 (aa 0)))) (ah (aL cG)) aD)) (ah (aW (ez (bG (cN rfl T.z_isinstance rfl T.z_list fg (aa 0)))) (ah (aL cG)) aD)))
   (ai (aW (aR (iW hr.units) lN (cP aP bX rfl T.z_len PySem.boot_len (ae (aa 0) ao)) (cP aP bX rfl T.z_len PySem.boot_len (ae (aa 1) ao)) (aJ _)) (ah (aL cG)) aD)
   (ai (eh rfl PassesOwn.never (t9 rfl T.z_zip (aa 0) (aa 1)) (gZ (n:=2) rfl (bw (aK (i:=2) bo.nd rfl (Or.inl rfl)) (bw (aK (i:=3) bo.nd rfl (Or.inl rfl)) fK))) (ah (aW (ez (bG (aA c_22 (hr.mono (by decide)) rfl b_22.g b_22.F.kp b_22.b aS (ae (aa 2) (ae (aa 3) ao))))) (ah (aL cG)) aD)))
   (ah (aL cG)))))))
theorem lh {f:Addr} {fd:FuncData} (F:Fun K "_law_alike" "_law_alike" a7 f fd) (T:Txt K mg) (O:Obs K mg c_Easel f_Easel___init__ f_Easel_whole f_Easel_folded f_Easel_seen f_Easel_settle f_Easel_fold f_Easel_unfold) {A7:Addr} {B7:FuncData} (b_7:Def K mg "_law_whole" bV ["_law_found"] A7 B7) (c_7:FnOk P w K mg base CX0 1 A7 B7 ["_law_found"] (sp3 K mg aC)) {A22:Addr} {B22:FuncData} (b_22:Def K mg "_law_alike" a7 ["_law_found", "_law_due_here"] A22 B22) (c_22:FnOk P w K mg base CX0 3 A22 B22 ["_law_found", "_law_due_here"] (sp3 K mg fE)):FnOk P w K mg base CX0 4 f fd ["_law_found", "_law_due_here"] (sp3 K mg fC):=by
 refine fm (N:=["_law_found", "_law_due_here", "_law_one", "_law_other"]) (k:=3) (body:=fH) rfl rfl rfl F bo λcdv A outer s H E hr=>?_
 unfold fH;exact (ai (aW (bG (cN rfl T.z_isinstance rfl T.z_str jc (aa 1))) (ah (aL (gG (cN rfl T.z_isinstance rfl T.z_str jc (aa 0)) (gh (eQ (bc hr.units) cw (aa 0) (aa 1) (aJ _)))))) aD)
   (ai (aW (bG (aA c_7 (hr.mono (by decide)) rfl b_7.g b_7.F.kp b_7.b aS (ae (aa 1) ao))) (ah (aL (gG (aA c_7 (hr.mono (by decide)) rfl b_7.g b_7.F.kp b_7.b aS (ae (aa 0) ao)) (gh (eQ (bc hr.units) cw (aa 0) (aa 1) (aJ _)))))) aD)
   (ai (aW (bG (cN rfl T.z_isinstance rfl T.z_tuple f9 (aa 1))) (ah (aW (ez (bG (cN rfl T.z_isinstance rfl T.z_tuple f9 (aa 0)))) (ah (aL cG)) aD)) (ah (aW (ez (bG (cN rfl T.z_isinstance rfl T.z_list fg (aa 0)))) (ah (aL cG)) aD)))
   (ai (aW (aR (iW hr.units) lN (cP aP bX rfl T.z_len PySem.boot_len (ae (aa 0) ao)) (cP aP bX rfl T.z_len PySem.boot_len (ae (aa 1) ao)) (aJ _)) (ah (aL cG)) aD)
   (ai (eh rfl PassesOwn.never (t9 rfl T.z_zip (aa 0) (aa 1)) (gZ (n:=2) rfl (bw (aK (i:=2) bo.nd rfl (Or.inl rfl)) (bw (aK (i:=3) bo.nd rfl (Or.inl rfl)) fK))) (ah (aW (ez (bG (aA c_22 (hr.mono (by decide)) rfl b_22.g b_22.F.kp b_22.b aS (ae (aa 2) (ae (aa 3) ao))))) (ah (aL cG)) aD)))
   (ah (aL cG)))))))
theorem lu {f:Addr} {fd:FuncData} (F:Fun K "_law_alike" "_law_alike" a7 f fd) (T:Txt K mg) (O:Obs K mg c_Easel f_Easel___init__ f_Easel_whole f_Easel_folded f_Easel_seen f_Easel_settle f_Easel_fold f_Easel_unfold) {A7:Addr} {B7:FuncData} (b_7:Def K mg "_law_whole" bV ["_law_found"] A7 B7) (c_7:FnOk P w K mg base CX0 1 A7 B7 ["_law_found"] (sp3 K mg aC)) {A22:Addr} {B22:FuncData} (b_22:Def K mg "_law_alike" a7 ["_law_found", "_law_due_here"] A22 B22) (c_22:FnOk P w K mg base CX0 4 A22 B22 ["_law_found", "_law_due_here"] (sp3 K mg fC)):FnOk P w K mg base CX0 5 f fd ["_law_found", "_law_due_here"] (sp3 K mg d_):=by
 refine fm (N:=["_law_found", "_law_due_here", "_law_one", "_law_other"]) (k:=4) (body:=fI) rfl rfl rfl F bo λcdv A outer s H E hr=>?_
 unfold fI;exact (ai (aW (bG (cN rfl T.z_isinstance rfl T.z_str jc (aa 1))) (ah (aL (gG (cN rfl T.z_isinstance rfl T.z_str jc (aa 0)) (gh (eQ (bc hr.units) cw (aa 0) (aa 1) (aJ _)))))) aD)
   (ai (aW (bG (aA c_7 (hr.mono (by decide)) rfl b_7.g b_7.F.kp b_7.b aS (ae (aa 1) ao))) (ah (aL (gG (aA c_7 (hr.mono (by decide)) rfl b_7.g b_7.F.kp b_7.b aS (ae (aa 0) ao)) (gh (eQ (bc hr.units) cw (aa 0) (aa 1) (aJ _)))))) aD)
   (ai (aW (bG (cN rfl T.z_isinstance rfl T.z_tuple f9 (aa 1))) (ah (aW (ez (bG (cN rfl T.z_isinstance rfl T.z_tuple f9 (aa 0)))) (ah (aL cG)) aD)) (ah (aW (ez (bG (cN rfl T.z_isinstance rfl T.z_list fg (aa 0)))) (ah (aL cG)) aD)))
   (ai (aW (aR (iW hr.units) lN (cP aP bX rfl T.z_len PySem.boot_len (ae (aa 0) ao)) (cP aP bX rfl T.z_len PySem.boot_len (ae (aa 1) ao)) (aJ _)) (ah (aL cG)) aD)
   (ai (eh rfl PassesOwn.never (t9 rfl T.z_zip (aa 0) (aa 1)) (gZ (n:=2) rfl (bw (aK (i:=2) bo.nd rfl (Or.inl rfl)) (bw (aK (i:=3) bo.nd rfl (Or.inl rfl)) fK))) (ah (aW (ez (bG (aA c_22 (hr.mono (by decide)) rfl b_22.g b_22.F.kp b_22.b aS (ae (aa 2) (ae (aa 3) ao))))) (ah (aL cG)) aD)))
   (ah (aL cG)))))))
theorem lj {f:Addr} {fd:FuncData} (F:Fun K "_law_alike" "_law_alike" a7 f fd) (T:Txt K mg) (O:Obs K mg c_Easel f_Easel___init__ f_Easel_whole f_Easel_folded f_Easel_seen f_Easel_settle f_Easel_fold f_Easel_unfold) {A7:Addr} {B7:FuncData} (b_7:Def K mg "_law_whole" bV ["_law_found"] A7 B7) (c_7:FnOk P w K mg base CX0 1 A7 B7 ["_law_found"] (sp3 K mg aC)) {A22:Addr} {B22:FuncData} (b_22:Def K mg "_law_alike" a7 ["_law_found", "_law_due_here"] A22 B22) (c_22:FnOk P w K mg base CX0 5 A22 B22 ["_law_found", "_law_due_here"] (sp3 K mg d_)):FnOk P w K mg base CX0 6 f fd ["_law_found", "_law_due_here"] (sp3 K mg h9):=by
 refine fm (N:=["_law_found", "_law_due_here", "_law_one", "_law_other"]) (k:=5) (body:=fG) rfl rfl rfl F bo λcdv A outer s H E hr=>?_
 unfold fG;exact (ai (aW (bG (cN rfl T.z_isinstance rfl T.z_str jc (aa 1))) (ah (aL (gG (cN rfl T.z_isinstance rfl T.z_str jc (aa 0)) (gh (eQ (bc hr.units) cw (aa 0) (aa 1) (aJ _)))))) aD)
   (ai (aW (bG (aA c_7 (hr.mono (by decide)) rfl b_7.g b_7.F.kp b_7.b aS (ae (aa 1) ao))) (ah (aL (gG (aA c_7 (hr.mono (by decide)) rfl b_7.g b_7.F.kp b_7.b aS (ae (aa 0) ao)) (gh (eQ (bc hr.units) cw (aa 0) (aa 1) (aJ _)))))) aD)
   (ai (aW (bG (cN rfl T.z_isinstance rfl T.z_tuple f9 (aa 1))) (ah (aW (ez (bG (cN rfl T.z_isinstance rfl T.z_tuple f9 (aa 0)))) (ah (aL cG)) aD)) (ah (aW (ez (bG (cN rfl T.z_isinstance rfl T.z_list fg (aa 0)))) (ah (aL cG)) aD)))
   (ai (aW (aR (iW hr.units) lN (cP aP bX rfl T.z_len PySem.boot_len (ae (aa 0) ao)) (cP aP bX rfl T.z_len PySem.boot_len (ae (aa 1) ao)) (aJ _)) (ah (aL cG)) aD)
   (ai (eh rfl PassesOwn.never (t9 rfl T.z_zip (aa 0) (aa 1)) (gZ (n:=2) rfl (bw (aK (i:=2) bo.nd rfl (Or.inl rfl)) (bw (aK (i:=3) bo.nd rfl (Or.inl rfl)) fK))) (ah (aW (ez (bG (aA c_22 (hr.mono (by decide)) rfl b_22.g b_22.F.kp b_22.b aS (ae (aa 2) (ae (aa 3) ao))))) (ah (aL cG)) aD)))
   (ah (aL cG)))))))
theorem qe {f:Addr} {fd:FuncData} (F:Fun K "_law_said" "_law_said" cR f fd) (T:Txt K mg) (O:Obs K mg c_Easel f_Easel___init__ f_Easel_whole f_Easel_folded f_Easel_seen f_Easel_settle f_Easel_fold f_Easel_unfold) {A21:Addr} {B21:FuncData} (b_21:Def K mg "_law_do" dE ["_law_easel", "_law_deed"] A21 B21) (Gx__law_do:FnOk P w K mg base (CXE P w) 6 A21 B21 ["_law_easel", "_law_deed"] (sp3 K mg eR)) (Go__law_do:FnOk P w K mg base CX0 6 A21 B21 ["_law_easel", "_law_deed"] (spP K 2 2 cB)):FnOk P w K mg base CX0 7 f fd ["_law_easel", "_law_deed"] (sp3 K mg bq):=by
 refine fm (N:=["_law_easel", "_law_deed", "e", "_law_kinds"]) (k:=6) (body:=gn) rfl rfl rfl F d4 λcdv A outer s H E hr=>?_
 obtain ⟨c_DrawError,c_NoDeed,c_NoNode,c_NoPlace,c_NoTree,m_DrawError,m_NoDeed,m_NoNode,m_NoPlace,m_NoTree,x_NoDeed,x_NoNode,h_DrawError,u_NoDeed_DrawError,u_NoNode_DrawError,k_NoDeed_NoDeed,k_NoDeed_NoNode,k_NoDeed_NoPlace,k_NoDeed_NoTree,k_NoNode_NoDeed,k_NoNode_NoNode,k_NoNode_NoPlace,k_NoNode_NoTree,v_NoDeed_ValueError,v_NoNode_ValueError⟩:=T.xs;unfold gn;exact (ai (vL (tbl:=[("NoDeed",2),("NoNode",1)]) Gx__law_do (hr.mono (by decide)) rfl b_21.g b_21.F.kp b_21.b (λ_=>(ae (aa 0) (ae (aa 1) ao))) rfl rfl h_DrawError rfl m_DrawError (ue ⟨c_NoDeed,m_NoDeed,u_NoDeed_DrawError,λpins σ H' ea Q E hca hfr hlen hq=>qy (i:=2) (j:=3) (k:=2) hca hfr d4.nd rfl rfl (by decide) (lH (i:=3) rfl) hlen (λoe hoc=>by refine oX (b1:=false) (b2:=true) (b3:=false) (b4:=false) d4.nd rfl (Or.inl rfl) (Or.inl rfl) ?_ ?_ ?_ ?_ ?_ rfl (k:=2) rfl;exact (gQ ⟨x_NoDeed,Zf,hoc⟩ (λ_ h=>h.1) rfl (Or.inl rfl) rfl T.z_isinstance rfl m_NoNode k_NoDeed_NoNode);exact (gQ ⟨x_NoDeed,Zf,hoc⟩ (λ_ h=>h.1) rfl (Or.inl rfl) rfl T.z_isinstance rfl m_NoDeed k_NoDeed_NoDeed);exact (gQ ⟨x_NoDeed,Zf,hoc⟩ (λ_ h=>h.1) rfl (Or.inl rfl) rfl T.z_isinstance rfl m_NoPlace k_NoDeed_NoPlace);exact (gQ ⟨x_NoDeed,Zf,hoc⟩ (λ_ h=>h.1) rfl (Or.inl rfl) rfl T.z_isinstance rfl m_NoTree k_NoDeed_NoTree);exact (uC ⟨x_NoDeed,Zf,hoc⟩ (λ_ h=>h.1) rfl (Or.inl rfl) rfl T.z_isinstance rfl T.z_ValueError jE v_NoDeed_ValueError)) (λu σ2 H2 s2 sm J ru=>hq u σ2 H2 s2 sm J ru)⟩ (ue ⟨c_NoNode,m_NoNode,u_NoNode_DrawError,λpins σ H' ea Q E hca hfr hlen hq=>qy (i:=2) (j:=3) (k:=1) hca hfr d4.nd rfl rfl (by decide) (lH (i:=3) rfl) hlen (λoe hoc=>by refine oX (b1:=true) (b2:=false) (b3:=false) (b4:=false) d4.nd rfl (Or.inl rfl) (Or.inl rfl) ?_ ?_ ?_ ?_ ?_ rfl (k:=1) rfl;exact (gQ ⟨x_NoNode,Zf,hoc⟩ (λ_ h=>h.1) rfl (Or.inl rfl) rfl T.z_isinstance rfl m_NoNode k_NoNode_NoNode);exact (gQ ⟨x_NoNode,Zf,hoc⟩ (λ_ h=>h.1) rfl (Or.inl rfl) rfl T.z_isinstance rfl m_NoDeed k_NoNode_NoDeed);exact (gQ ⟨x_NoNode,Zf,hoc⟩ (λ_ h=>h.1) rfl (Or.inl rfl) rfl T.z_isinstance rfl m_NoPlace k_NoNode_NoPlace);exact (gQ ⟨x_NoNode,Zf,hoc⟩ (λ_ h=>h.1) rfl (Or.inl rfl) rfl T.z_isinstance rfl m_NoTree k_NoNode_NoTree);exact (uC ⟨x_NoNode,Zf,hoc⟩ (λ_ h=>h.1) rfl (Or.inl rfl) rfl T.z_isinstance rfl T.z_ValueError jE v_NoNode_ValueError)) (λu σ2 H2 s2 sm J ru=>hq u σ2 H2 s2 sm J ru)⟩ CA)))
   (ah (aL aq)))
theorem qg {f:Addr} {fd:FuncData} (F:Fun K "_law_said" "_law_said" cR f fd) (T:Txt K mg) (O:Obs K mg c_Easel f_Easel___init__ f_Easel_whole f_Easel_folded f_Easel_seen f_Easel_settle f_Easel_fold f_Easel_unfold) {f__law_do:Addr} {fd__law_do:FuncData} (D__law_do:Def K mg "_law_do" dE ["_law_easel", "_law_deed"] f__law_do fd__law_do) (Gx__law_do:FnOk P w K mg base (CXE P w) 6 f__law_do fd__law_do ["_law_easel", "_law_deed"] (sp3 K mg eR)) (Go__law_do:FnOk P w K mg base CX0 6 f__law_do fd__law_do ["_law_easel", "_law_deed"] (spP K 2 2 cB)):FnOk P w K mg base CX0 7 f fd ["_law_easel", "_law_deed"] (spP K 2 4 aX):=by
 refine fnP (N:=["_law_easel", "_law_deed", "e", "_law_kinds"]) (k:=6) (b:=aX) rfl rfl F d4 λcdv A outer s H E hr=>?_
 unfold aX;exact (cz (AE (λ_=>(ah (rj (m:=1) Go__law_do (hr.mono (by decide)) rfl D__law_do.g D__law_do.F.kp D__law_do.b aS (a9 rfl (by first | exact Or.inl rfl | exact Or.inr (Or.inl rfl) | exact Or.inr (Or.inr rfl))) (ae (aa 1) ao) (eO iV)))))
   (xo aq))
theorem n_ {f:Addr} {fd:FuncData} (F:Fun K "_law_looks" "_law_looks" cn f fd) (T:Txt K mg) (O:Obs K mg c_Easel f_Easel___init__ f_Easel_whole f_Easel_folded f_Easel_seen f_Easel_settle f_Easel_fold f_Easel_unfold) {fd_Easel_whole:FuncData} (D_Easel_whole:DefM K "whole" "Easel.whole" b7 ["self"] f_Easel_whole fd_Easel_whole) (G_Easel_whole:FnOk P w K mg base CX0 1 f_Easel_whole fd_Easel_whole ["self"] (sp3 K mg bg)) {fd_Easel_folded:FuncData} (D_Easel_folded:DefM K "folded" "Easel.folded" bQ ["self"] f_Easel_folded fd_Easel_folded) (G_Easel_folded:FnOk P w K mg base CX0 1 f_Easel_folded fd_Easel_folded ["self"] (sp3 K mg a8)) {fd_Easel_seen:FuncData} (D_Easel_seen:DefM K "seen" "Easel.seen" cg ["self"] f_Easel_seen fd_Easel_seen) (G_Easel_seen:FnOk P w K mg base CX0 3 f_Easel_seen fd_Easel_seen ["self"] (sp3 K mg aF)) {A10:Addr} {B10:FuncData} (b_10:Def K mg "_law_order" cb ["_law_state", "_law_all_of_them"] A10 B10) (c_10:FnOk P w K mg base CX0 1 A10 B10 ["_law_state", "_law_all_of_them"] (sp3 K mg bP)) {A17:Addr} {B17:FuncData} (b_17:Def K mg "_law_rows" dg ["_law_state", "_law_order_here"] A17 B17) (c_17:FnOk P w K mg base CX0 2 A17 B17 ["_law_state", "_law_order_here"] (sp3 K mg d6)) {A22:Addr} {B22:FuncData} (b_22:Def K mg "_law_alike" a7 ["_law_found", "_law_due_here"] A22 B22) (c_22:FnOk P w K mg base CX0 6 A22 B22 ["_law_found", "_law_due_here"] (sp3 K mg dA)):FnOk P w K mg base CX0 7 f fd ["_law_easel", "_law_state", "_law_turn"] (sp3 K mg dC):=by
 refine fm (N:=["_law_easel", "_law_state", "_law_turn", "_law_order_here", "_law_sight", "_law_shut", "_law_due_here", "_law_k", "_law_at", "_law_found"]) (k:=6) (body:=fT) rfl rfl rfl F bC λcdv A outer s H E hr=>?_
 unfold fT;exact (ai (aN (i:=3) bC.nd rfl (Or.inr rfl) (cZ (aA c_10 (hr.mono (by decide)) rfl b_10.g b_10.F.kp b_10.b aS (ae (aa 1) (ae cG ao)))))
   (ai (aN (i:=4) bC.nd rfl (Or.inl rfl) (cZ (aA c_10 (hr.mono (by decide)) rfl b_10.g b_10.F.kp b_10.b aS (ae (aa 1) (ae cG ao)))))
   (ai (ji (i:=5) (sc:=(aj cn)) (outs:=[(1, "_law_state"),(3, "_law_order_here")]) (is:=[0]) ["_law_k"] (λ_ _ _ q=>wQ q) bC.nd rfl (Or.inl rfl) ⟨rfl,rfl,by decide +kernel,by decide +kernel,by decide +kernel,⟨⟨rfl,rfl⟩,⟨rfl,rfl⟩,trivial⟩⟩ rfl (by decide) (qZ rfl T.z_range (cP aP bX rfl T.z_len PySem.boot_len (ae (aa 3) ao))) (λ_ _ _ _ _=>(aK (i:=0) (show List.Nodup (["_law_k", "_law_state", "_law_order_here"]:List Str) by decide +kernel) rfl (Or.inl rfl))) (λ_ _ _ _ _=>(ly (bG (aG ax aE (aG ax aE (aa 1) aq (λ_ _=>rfl)) (aG ax aE (aa 2) (aa 0) (λ_ _=>rfl)) (λ_ _=>rfl))))) (λ_ _ _ _ _=>(aa 0)))
   (ai (aN (i:=6) bC.nd rfl (Or.inl rfl) (cZ (cW (ae (cZ (aA c_17 (hr.mono (by decide)) rfl b_17.g b_17.F.kp b_17.b aS (ae (aa 1) (ae (aa 3) ao)))) (ae (aa 5) (ae (cZ (i5 (ae (cZ (aA c_17 (hr.mono (by decide)) rfl b_17.g b_17.F.kp b_17.b aS (ae (aa 1) (ae (aa 4) ao)))) (ae (cZ (iG (sc:=(aj cn)) (outs:=[(3, "_law_order_here")]) (is:=[0]) ["_law_node"] ⟨rfl,rfl,by decide +kernel,by decide +kernel,by decide +kernel,⟨⟨rfl,rfl⟩,trivial⟩⟩ rfl (by decide) (d5 (aa 4)) (λ_ _ _ _ _=>(aK (i:=0) (show List.Nodup (["_law_node", "_law_order_here"]:List Str) by decide +kernel) rfl (Or.inl rfl))) (λ_ _ _ _ _=>jW) (λ_ _ _ _ _=>(qF (aa 1) (aa 0))))) ao)))) ao))))))
   (ai (eh rfl PassesOwn.never (qZ rfl T.z_range aq) (aK (i:=7) bC.nd rfl (Or.inl rfl)) (ai (aN (i:=8) bC.nd rfl (Or.inl rfl) (a_ eD (λ_=>eA) (a_ c7 et (aa 7) (aa 2)) aq))
   (ai (aN (i:=9) bC.nd rfl (Or.inl rfl) (aG ax aE (aa 6) (aa 8) (λ_ _=>rfl)))
   (ai (aW (aR (bc hr.units) cw (aa 8) aq (aJ _)) (ah (aN (i:=9) bC.nd rfl (Or.inl rfl) (cZ (e8 (tb:=(λnm=>List.lookup nm [("Easel",bg)])) (k:=1) (dS O.a_Easel ⟨_,⟨O.i_Easel.c,O.me_Easel_whole,⟨_,_,FnOk.mono (k:=1) G_Easel_whole (by decide),D_Easel_whole.b⟩⟩⟩ e9) (hr.mono (by decide)) aS (aa 0))))) aD)
   (ai (aW (aR (bc hr.units) cw (aa 8) aq (aJ _)) (ah (aN (i:=9) bC.nd rfl (Or.inl rfl) (cZ (e8 (tb:=(λnm=>List.lookup nm [("Easel",a8)])) (k:=1) (dS O.a_Easel ⟨_,⟨O.i_Easel.c,O.me_Easel_folded,⟨_,_,FnOk.mono (k:=1) G_Easel_folded (by decide),D_Easel_folded.b⟩⟩⟩ e9) (hr.mono (by decide)) aS (aa 0))))) aD)
   (ai (aW (aR (bc hr.units) cw (aa 8) aq (aJ _)) (ah (aN (i:=9) bC.nd rfl (Or.inl rfl) (cZ (e8 (tb:=(λnm=>List.lookup nm [("Easel",aF)])) (k:=3) (dS O.a_Easel ⟨_,⟨O.i_Easel.c,O.me_Easel_seen,⟨_,_,FnOk.mono (k:=3) G_Easel_seen (by decide),D_Easel_seen.b⟩⟩⟩ e9) (hr.mono (by decide)) aS (aa 0))))) aD)
   (ah (aW (ez (bG (aA c_22 (hr.mono (by decide)) rfl b_22.g b_22.F.kp b_22.b aS (ae (aa 9) (ae (aG ax aE (aa 6) (aa 8) (λ_ _=>rfl)) ao))))) (ah (aL cG)) aD))))))))
   (ah (aL cG)))))))
theorem Cv {f:Addr} {fd:FuncData} (F:Fun K "law" "law" ke f fd) (T:Txt K mg) (O:Obs K mg c_Easel f_Easel___init__ f_Easel_whole f_Easel_folded f_Easel_seen f_Easel_settle f_Easel_fold f_Easel_unfold) {fd_Easel___init__:FuncData} (D_Easel___init__:DefM K "__init__" "Easel.__init__" bH ["self", "tree", "gap"] f_Easel___init__ fd_Easel___init__) (Go_Easel___init__:FnOk P w K mg base CX0 1 f_Easel___init__ fd_Easel___init__ ["self", "tree", "gap"] (spP K 3 3 br)) {fd_Easel_whole:FuncData} (D_Easel_whole:DefM K "whole" "Easel.whole" b7 ["self"] f_Easel_whole fd_Easel_whole) (G_Easel_whole:FnOk P w K mg base CX0 1 f_Easel_whole fd_Easel_whole ["self"] (sp3 K mg bg)) {fd_Easel_folded:FuncData} (D_Easel_folded:DefM K "folded" "Easel.folded" bQ ["self"] f_Easel_folded fd_Easel_folded) (G_Easel_folded:FnOk P w K mg base CX0 1 f_Easel_folded fd_Easel_folded ["self"] (sp3 K mg a8)) {fd_Easel_seen:FuncData} (D_Easel_seen:DefM K "seen" "Easel.seen" cg ["self"] f_Easel_seen fd_Easel_seen) (G_Easel_seen:FnOk P w K mg base CX0 3 f_Easel_seen fd_Easel_seen ["self"] (sp3 K mg aF)) {A6:Addr} {B6:FuncData} (b_6:Def K mg "_law_cell" cS ["_law_script", "_law_k"] A6 B6) (c_6:FnOk P w K mg base CX0 1 A6 B6 ["_law_script", "_law_k"] (sp3 K mg bS)) {A16:Addr} {B16:FuncData} (b_16:Def K mg "_law_tree" da ["_law_script", "_law_start_here", "_law_many", "_law_most", "_law_deep"] A16 B16) (c_16:FnOk P w K mg base CX0 2 A16 B16 ["_law_script", "_law_start_here", "_law_many", "_law_most", "_law_deep"] (sp3 K mg fi)) {A9:Addr} {B9:FuncData} (b_9:Def K mg "_law_start" b_ ["_law_tree_here"] A9 B9) (c_9:FnOk P w K mg base CX0 1 A9 B9 ["_law_tree_here"] (sp3 K mg eL)) {A18:Addr} {B18:FuncData} (b_18:Def K mg "_law_due" dU ["_law_state", "_law_deed"] A18 B18) (c_18:FnOk P w K mg base CX0 2 A18 B18 ["_law_state", "_law_deed"] (sp3 K mg fX)) {A19:Addr} {B19:FuncData} (b_19:Def K mg "_law_done" dh ["_law_state", "_law_deed"] A19 B19) (Go__law_done:FnOk P w K mg base CX0 2 A19 B19 ["_law_state", "_law_deed"] (spP K 2 8 b8)) {A23:Addr} {B23:FuncData} (b_23:Def K mg "_law_said" cR ["_law_easel", "_law_deed"] A23 B23) (c_23:FnOk P w K mg base CX0 7 A23 B23 ["_law_easel", "_law_deed"] (sp3 K mg bq)) (Go__law_said:FnOk P w K mg base CX0 7 A23 B23 ["_law_easel", "_law_deed"] (spP K 2 4 aX)) {A12:Addr} {B12:FuncData} (b_12:Def K mg "_law_drawn_deed" bt ["_law_number", "_law_size", "_law_kinds"] A12 B12) (c_12:FnOk P w K mg base CX0 1 A12 B12 ["_law_number", "_law_size", "_law_kinds"] (sp3 K mg cI)) {A24:Addr} {B24:FuncData} (b_24:Def K mg "_law_looks" cn ["_law_easel", "_law_state", "_law_turn"] A24 B24) (c_24:FnOk P w K mg base CX0 7 A24 B24 ["_law_easel", "_law_state", "_law_turn"] (sp3 K mg dC)):FnOk P w K mg base CX0 8 f fd ["_law_script"] (sp3 K mg mh):=by
 refine fm (N:=["_law_script", "_law_tree_here", "_law_handed", "_law_easel", "_law_state", "_law_cell_here", "_law_number", "_law_deed", "_law_word"]) (k:=7) (body:=qt) rfl rfl rfl F iu λcdv A outer s H E hr=>?_
 unfold qt;exact (ai (aN (i:=1) iu.nd rfl (Or.inl rfl) (cZ (aA c_16 (hr.mono (by decide)) rfl b_16.g b_16.F.kp b_16.b aS (ae (aa 0) (ae aq (ae (a_ c7 et aq (a_ eD (λ_=>eA) (aA c_6 (hr.mono (by decide)) rfl b_6.g b_6.F.kp b_6.b aS (ae (aa 0) (ae aq ao))) aq)) (ae aq (ae aq ao))))))))
   (ai (aN (i:=2) iu.nd rfl (Or.inl rfl) (mm (jh _ rfl) pM rfl T.z_list fg (ae (aa 1) ao)))
   (ai (zc (i:=3) (j:=2) (m:=1) O.a_Easel O.mk_Easel Go_Easel___init__ (hr.mono (by decide)) rfl O.m_Easel D_Easel___init__.b aS (a9 rfl (by first | exact Or.inl rfl | exact Or.inr (Or.inl rfl) | exact Or.inr (Or.inr rfl))) (ae (a_ c7 et aq (a_ eD (λ_=>eA) (aA c_6 (hr.mono (by decide)) rfl b_6.g b_6.F.kp b_6.b aS (ae (aa 0) (ae aq ao))) aq)) ao) (eO iV) iu.nd rfl (Or.inl rfl))
   (ai (CC 2)
   (ai (aN (i:=4) iu.nd rfl (Or.inl rfl) (aA c_9 (hr.mono (by decide)) rfl b_9.g b_9.F.kp b_9.b aS (ae (aa 1) ao)))
   (ai (aW (sJ (ez (bG (aA c_24 (hr.mono (by decide)) rfl b_24.g b_24.F.kp b_24.b aS (ae (aa 3) (ae (aa 4) (ae aq ao))))))) (ah (aL cG)) aD)
   (ai (eh rfl PassesOwn.never (d5 (w4 tU yM (aa 0) (kE aq) (kE aq))) (aK (i:=5) iu.nd rfl (Or.inl rfl)) (ai (aN (i:=6) iu.nd rfl (Or.inl rfl) (a_ eD (λ_=>eA) (a_ fO g6 (aa 5) aq) aq))
   (ai (aN (i:=7) iu.nd rfl (Or.inl rfl) (cZ (aA c_12 (hr.mono (by decide)) rfl b_12.g b_12.F.kp b_12.b aS (ae (aa 6) (ae (cP aP bX rfl T.z_len PySem.boot_len (ae (aa 1) ao)) (ae (cW (ae cM (ae cM (ae cM ao)))) ao))))))
   (ai (aN (i:=8) iu.nd rfl (Or.inl rfl) (cZ (wc (aA c_18 (hr.mono (by decide)) rfl b_18.g b_18.F.kp b_18.b aS (ae (aa 4) (ae (aa 7) ao))))))
   (ai (y_ (m:=1) c_23 Go__law_said (hr.mono (by decide)) rfl b_23.g b_23.F.kp b_23.b aS (a9 rfl (by first | exact Or.inl rfl | exact Or.inr (Or.inl rfl) | exact Or.inr (Or.inr rfl))) (ae (aa 7) ao) (eO iV) (a9 rfl (by first | exact Or.inl rfl | exact Or.inr (Or.inl rfl) | exact Or.inr (Or.inr rfl))) (ah (aL cG)) aD)
   (ai (aW (aR (bc hr.units) cw (aa 8) aq (aJ _)) (ah (rj (m:=1) Go__law_done (hr.mono (by decide)) rfl b_19.g b_19.F.kp b_19.b aS (a9 rfl (by first | exact Or.inl rfl | exact Or.inr (Or.inl rfl) | exact Or.inr (Or.inr rfl))) (ae (aa 7) ao) (eO iV))) aD)
   (ai (xF (e8 (tb:=(λnm=>List.lookup nm [("Easel",a8)])) (k:=1) (dS O.a_Easel ⟨_,⟨O.i_Easel.c,O.me_Easel_folded,⟨_,_,FnOk.mono (k:=1) G_Easel_folded (by decide),D_Easel_folded.b⟩⟩⟩ e9) (hr.mono (by decide)) aS (aa 3)) (jG g9 (λ_=>g8) aq))
   (ai (nA (e8 (tb:=(λnm=>List.lookup nm [("Easel",bg)])) (k:=1) (dS O.a_Easel ⟨_,⟨O.i_Easel.c,O.me_Easel_whole,⟨_,_,FnOk.mono (k:=1) G_Easel_whole (by decide),D_Easel_whole.b⟩⟩⟩ e9) (hr.mono (by decide)) aS (aa 3)))
   (ai (nA (xM 1 (e8 (tb:=(λnm=>List.lookup nm [("Easel",aF)])) (k:=3) (dS O.a_Easel ⟨_,⟨O.i_Easel.c,O.me_Easel_seen,⟨_,_,FnOk.mono (k:=3) G_Easel_seen (by decide),D_Easel_seen.b⟩⟩⟩ e9) (hr.mono (by decide)) aS (aa 3))))
   (ai (nA (xM 0 (e8 (tb:=(λnm=>List.lookup nm [("Easel",aF)])) (k:=3) (dS O.a_Easel ⟨_,⟨O.i_Easel.c,O.me_Easel_seen,⟨_,_,FnOk.mono (k:=3) G_Easel_seen (by decide),D_Easel_seen.b⟩⟩⟩ e9) (hr.mono (by decide)) aS (aa 3))))
   (ah (aW (sJ (ez (bG (aA c_24 (hr.mono (by decide)) rfl b_24.g b_24.F.kp b_24.b aS (ae (aa 3) (ae (aa 4) (ae (a_ gM (λ_=>jf) (aa 6) aq) ao))))))) (ah (aL cG)) aD))))))))))))
   (ah (aL cG)))))))))
end
namespace F
noncomputable def pr (fl:Nat->Bool):F->F
 |nil=>nil
 |cons k c r=>cons k (if fl k=true then nil else pr fl c) (pr fl r)
theorem m7 (fl:Nat->Bool):∀f:F,roots (pr fl f)=roots f
 |nil=>rfl
 |cons k c r=>by rw [pr,roots,roots,m7 fl r]
theorem lg:∀f:F,roots (mir f)=(roots f).reverse
 |nil=>rfl
 |cons k c r=>by rw [mir,jk,lg r,roots,roots,roots,List.reverse_cons]
theorem pN {ch:Nat->List Nat}:∀f:F,Con ch f->Con (λq=>(ch q).reverse) (mir f)
 |nil,_=>trivial
 |cons k c r,h=>by
  obtain ⟨h1,h2,h3⟩:=h;rw [mir,l4];refine ⟨pN r h3,?_,pN c h2,trivial⟩;show (ch k).reverse=roots (mir c)
  rw [h1,lg]
theorem qu {ch:Nat->List Nat} {fl:Nat->Bool}:∀f:F,Con ch f->Con (λq=>if fl q=true then [] else ch q) (pr fl f)
 |nil,_=>trivial
 |cons k c r,h=>by
  obtain ⟨h1,h2,h3⟩:=h;rw [pr];by_cases hk:fl k=true
  ·rw [if_pos hk]
   exact ⟨if_pos hk,trivial,qu r h3⟩
  ·rw [if_neg hk]
   refine ⟨?_,qu c h2,qu r h3⟩;show (if fl k=true then [] else ch k)=_
   rw [if_neg hk,h1,m7]
theorem jP (fl:Nat->Bool):∀f:F,∀k∈pre (pr fl f),k∈pre f
 |nil,k,h=>h
 |cons a c r,k,h=>by
  rw [pr,pre]at h;rw [pre];rcases Zo.mp h with h | h
  ·rw [h];exact Zf
  ·rcases Zs.mp h with h | h
   ·split at h
    ·cases h
    ·exact Ze _ (Zw _ (jP fl c k h))
   ·exact Ze _ (Zq _ (jP fl r k h))
theorem iC (fl:Nat->Bool):∀f:F,(pre (pr fl f)).length<=(pre f).length
 |nil=>Zn _
 |cons a c r=>by
  rw [pr,pre,pre,Zr,Zr,Zd,Zd];have h2:=iC fl r;have h1:(pre (if fl a=true then nil else pr fl c)).length<=(pre c).length:=by
   split
   ·exact Nat.zero_le _
   ·exact iC fl c
  lia
theorem su {e:Nat->Int} {fl sn:Nat->Bool}:∀(p:Int) (b:Bool) (f:F),Eld e p f->(∀k∈pre f,e k=p->sn k=b)->(∀k∈pre f,∀j:Nat,e k=(j:Int)->(j:Int)≠p->sn k=(sn j && !fl j))->(pre f).Nodup->(∀k∈pre f,(k:Int)≠p)->b=true->pre (pr fl f)=(pre f).filter sn
 |_,_,nil,_,_,_,_,_,_=>rfl
 |p,b,cons a c r,he,h1,h2,nd,hp,hb=>by
  obtain ⟨q1,q2,q3⟩:=he;rw [pre]at h1 h2 nd hp;have sa:sn a=true:=by rw [h1 a Zf q1,hb]
  rw [pr,pre,pre,List.filter_cons,if_pos sa,List.filter_append];simp only [List.nodup_cons,ZK,Zs]at nd;obtain ⟨n0,n1,n2,n3⟩:=nd;have ih:=su p b r q3 (λk hk=>h1 k (by simp [hk])) (λk hk=>h2 k (by simp [hk])) n2 (λk hk=>hp k (by simp [hk])) hb
  have no:∀g:F,Eld e (a:Int) g->(∀k∈pre g,k∈pre c)->fl a=true->(∀k∈pre g,sn k=false):=by
   intro g;exact λhg hs hf=>by
    have key:∀(g:F) (q:Int),Eld e q g->(∀k∈pre g,k∈pre c)->(∃j:Nat,q=(j:Int)/\q≠p/\(sn j && !fl j)=false)->∀k∈pre g,sn k=false:=by
     intro g
     induction g with
     |nil=>intro q _ _ _ k hk;cases hk
     |cons x d s ih1 ih2 =>
      intro q hg hs hq k hk;obtain ⟨j,hj,hjp,hjf⟩:=hq;obtain ⟨g1,g2,g3⟩:=hg;rw [pre]at hs hk;have sx:sn x=false:=by
       rw [h2 x (by simp [hs x Zf]) j (by rw [g1,hj]) (by rw [<-hj];exact hjp)]
       exact hjf
      rcases Zo.mp hk with hk | hk
      ·rw [hk];exact sx
      ·rcases Zs.mp hk with hk | hk
       ·exact ih1 _ g2 (λk hk=>hs k (by simp [hk])) ⟨x,rfl,hp x (by simp [hs x Zf]),by rw [sx];rfl⟩ k hk
       ·exact ih2 q g3 (λk hk=>hs k (by simp [hk])) ⟨j,hj,hjp,hjf⟩ k hk
    exact key g _ hg hs ⟨a,rfl,hp a Zf,by rw [hf];simp⟩
  by_cases hf:fl a=true
  ·rw [if_pos hf,pre,List.nil_append,ih]
   have z:(pre c).filter sn=[]:=List.filter_eq_nil_iff.mpr λk hk=>by rw [no c q2 (λ_ m=>m) hf k hk];exact Zm
   rw [z,List.nil_append]
  ·rw [if_neg hf,ih]
   have ihc:=su (a:Int) (sn a && !fl a) c q2 (λk hk hk2=>by
     exact h2 k (by simp [hk]) a hk2 (hp a Zf)) (λk hk j hj hja=>by
     by_cases hjp:(j:Int)=p
     ·exfalso
      have:k∈pre c:=hk;rcases p7 _ c q2 k hk with z | ⟨j',hj',z⟩
      ·rw [hj]at z;exact hja z
      ·rw [hj]at z
       have e1:j=j':=by lia
       subst e1;exact hp j (by simp [hj']) hjp
     ·exact h2 k (by simp [hk]) j hj hjp) n1 (λk hk z=>n0 (.inl (by
      have:k=a:=by lia
      rw [<-this];exact hk))) (by rw [sa];simp [hf])
   rw [ihc]
end F
theorem Gz {ch:Nat->List Nat} {n:Nat} {f:F} (hc:F.Con ch f) (hf:f≠F.nil) (hm:∀k∈F.pre f,k<n):∃g a b,F.roots f=F.roots g++[a]/\a<n/\F.roots g++ch a=F.roots (F.app g b)/\F.Con ch (F.app g b)/\(F.pre f).length=(F.pre (F.app g b)).length+1/\(∀k∈F.pre (F.app g b),k<n)/\∀o:List Nat,(o++[a])++F.f_ (F.app g b)=o++F.f_ f:=by
 obtain ⟨g,a,b,rfl⟩:=F.snoc f hf;rw [F.l4]at hc;obtain ⟨h1,h2,h3,_⟩:=hc;rw [F.pre_app,F.pre,F.pre,Zx]at hm;refine ⟨g,a,b,by rw [F.jk];rfl,hm a (by simp),by rw [F.jk,h2],(F.l4 _ _).mpr ⟨h1,h3⟩,?_,λk hk=>hm k ?_,λo=>?_⟩
 ·rw [F.pre_app,F.pre_app,F.pre,F.pre,Zx,Zd,Zd,Zr]
  lia
 ·rw [F.pre_app]at hk
  rcases Zs.mp hk with hk | hk <;> simp [hk]
 ·rw [F.m9,F.m9,F.f_,F.f_,List.nil_append]
  simp
theorem rY {f:F} (h:F.roots f=[]):f=F.nil:=by
 cases f with
 |nil=>rfl
 |cons k c r=>cases h
noncomputable def dQ (ts:List Nd):List PyData:=ts.map λn=>.tuple [.str n.l,.int n.t]
noncomputable def d7 (ts:List Nd):List PyData:=(List.range ts.length).map λk=>.list (nD (chN ts k))
noncomputable def fgD (fl:Nat->Bool) (n:Nat):List PyData:=(List.range n).map λk=>.bool (fl k)
noncomputable def stD (ts:List Nd) (fl:Nat->Bool):PyData:=.list [.list (dQ ts),.list (d7 ts),.list (fgD fl ts.length)]
noncomputable def stO (ts:List Nd) (fl:Nat->Bool):OD:=.ol [.ol ((dQ ts).map OD.sh),.sh (.list (d7 ts)),.ol ((fgD fl ts.length).map OD.sh)]
theorem pe (ts:List Nd) (fl:Nat->Bool):(stO ts fl).er=stD ts fl:=by
 unfold stO stD;rw [gk,Zk,Zk,Zk,List.map_nil,gk,gk,cq,cV,cV]
theorem ym (ts:List Nd):(dQ ts).length=ts.length:=by unfold dQ;rw [Zc]
theorem pG {ts:List Nd} {k:Nat} (h:k<ts.length):atI (d7 ts) (k:Int)=some (.list (nD (chN ts k))):=dj (by unfold d7;rw [Za,Zy h];rfl)
theorem rZ {fl:Nat->Bool} {n k:Nat} (h:k<n):atI (fgD fl n) (k:Int)=some (.bool (fl k)):=dj (by unfold fgD;rw [Za,Zy h];rfl)
theorem AA {ts:List Nd} {k:Nat} (h:k<ts.length):atI (dQ ts) (k:Int)=some (.tuple [.str (hX ts k).l,.int (hX ts k).t]):=dj (by
 unfold dQ hX;rw [Za,Zg h];rfl)
theorem x_ (ts:List Nd) (he:EL ts) (h0:0<ts.length) (hl:ts.length<=100):eL [.list (av ts)]=.ok (stO ts λ_=>false):=by
 unfold eL fP;push_cast only [and_self];generalize hC:cK _ _ _ _ _ _=rc
 have e:=jS hC ndD (λ_:Nd=>.ol []) ts rfl (of_eq_true (cJ (by lia))) (by intro n hn;push_cast only [and_self])
 subst e;clear hC;have s1:ba 1=true:=sI (by decide) (by decide)
 have s2:ba (ts.length:Int)=true:=sI (by lia) (by lia)
 have z0:eOf ts 0=-1:=by
  obtain ⟨n,hn⟩:∃n,ts[0]?=some n:=⟨ts[0],by simp [h0]⟩
  rw [hV hn];exact (he 0 n hn).1 rfl
 have e0:(ts.map λ_:Nd=>OD.ol [])=(List.range ts.length).map λq=>OD.ol (nO (chI ts 1 q)):=by
  have:∀q:Nat,chI ts 1 q=[]:=λq=>by
   rw [mD,z0,if_neg (by lia)]
   rfl
  apply List.ext_getElem?
  intro i;rw [Za,Za];by_cases hi:i<ts.length
  ·rw [Zy hi,Zg hi]
   show some (OD.ol [])=some (OD.ol (nO (chI ts 1 i)))
   rw [this];rfl
  ·rw [Zu (by lia),Zu (by rw [Zh];lia)]
   rfl
 push_cast only [e0,bu,s1,s2,Bool.and_self];generalize hL:cy _ _ _ _=r'
 refine gc hL (λi ρ=>∃v2:Option OD,ρ=[some (.sh (.list (av ts))),some (.ol ((List.range ts.length).map λq=>OD.ol (nO (chI ts (i+1) q)))),v2]) ⟨_,rfl⟩ ?_ ?_
 ·rintro i d ρ hd ⟨v2,rfl⟩
  obtain ⟨hi,rfl⟩:=jd hd;have hi2:i+1<ts.length:=by lia
  have ei:(1:Int)+(i:Int)=((i+1:Nat):Int):=by lia
  rw [ei];obtain ⟨n,hn⟩:∃n,ts[i+1]?=some n:=⟨ts[i+1],by simp [hi2]⟩
  have el:=he (i+1) n hn;obtain ⟨k,hk⟩:∃k:Nat,n.e=(k:Int):=⟨n.e.toNat,by have:=el.2.1 (by lia);lia⟩
  have hki:k<i+1:=by have:=el.2.2;lia
  have g3:=qD hn;rw [hk]at g3;have hl2:=zr ts (i+1) k;have ap:=Aq (i:=1) (ρ:=[some (.sh (.list (av ts))),some (.ol ((List.range ts.length).map λq=>OD.ol (nO (chI ts (i+1) q)))),some (.sh (.int ((i+1:Nat):Int)))]) (k:=eOp gIx (eOp gIx (af 0) (af 2)) (eC (.int 0))) (a:=af 2) (xs:=(List.range ts.length).map λq=>OD.ol (nO (chI ts (i+1) q))) (ys:=nO (chI ts (i+1) k)) (z:=k) (j:=k) (y:=.sh (.int ((i+1:Nat):Int))) rfl (by push_cast only [g3]) (qr (by rw [Zc,Zh];lia)) (by rw [Za,Zy (by lia)];rfl) rfl (by rw [rQ];exact of_eq_true (ja (by lia)))
  push_cast only [and_self];rw [ap];have st:((List.range ts.length).map λq=>OD.ol (nO (chI ts (i+1) q))).set k (OD.ol (nO (chI ts (i+1) k)++[OD.sh (.int ((i+1:Nat):Int))]))=(List.range ts.length).map λq=>OD.ol (nO (chI ts (i+1+1) q)):=by
   rw [j3];have e1:chI ts (i+1) k++[i+1]=chI ts (i+1+1) k:=by rw [mD ts (i+1),hV hn,hk,if_pos rfl]
   rw [e1];refine hZ (λq=>OD.ol (nO (chI ts (i+1) q))) (λq=>OD.ol (nO (chI ts (i+1+1) q))) ts.length k λq hq=>?_
   show OD.ol (nO (chI ts (i+1+1) q))=_
   rw [mD ts (i+1),hV hn,hk,if_neg (by lia),Zx]
  rw [st];push_cast only [and_self];exact ⟨_,rfl⟩
 ·rintro ρ' rfl ⟨v2,rfl⟩
  rw [kf,show ((ts.length:Int)-1).toNat+1=ts.length by lia]
  have ek:((List.range ts.length).map λq=>OD.ol (nO (chI ts ts.length q))).map OD.er=d7 ts:=by
   unfold d7;rw [Zi];refine Zt λq _=>?_
   show (OD.ol (nO (chI ts ts.length q))).er=_
   rw [gk,dM];rfl
  have rp:=tQ (.bool false) ts.length (by lia)
  have ef:(List.replicate ts.length (PyData.bool false))=fgD (λ_=>false) ts.length:=by
   unfold fgD;apply List.ext_getElem?
   intro i;rw [Za];by_cases hi:i<ts.length
   ·rw [Zy hi,List.getElem?_replicate,if_pos hi]
    rfl
   ·rw [Zu (by rw [List.length_replicate];lia),Zu (by rw [Zh];lia)]
    rfl
  rw [ef]at rp;push_cast only [ek,bu,rp];generalize hC:cK _ _ _ _ _ _=rc
  have e:=jS hC ndD (λn:Nd=>.sh (.tuple [.str n.l,.int n.t])) ts rfl (of_eq_true (cJ (by lia))) (by intro n hn;push_cast only [ndD])
  subst e;have e2:(ts.map λn:Nd=>OD.sh (.tuple [.str n.l,.int n.t]))=(dQ ts).map OD.sh:=by
   unfold dQ;rw [Zi];rfl
  push_cast only [e2];rfl
noncomputable def chO (ts:List Nd) (fl:Nat->Bool) (b:Bool) (q:Nat):List Nat:=(if (!b && fl q)=true then [] else chN ts q).reverse
noncomputable def frO (fl:Nat->Bool) (b:Bool) (c:F):F:=F.mir (F.pr (λk=>!b && fl k) (F.full c))
noncomputable def jC (fl:Nat->Bool) (b:Bool) (c:F):List Nat:=F.pre (F.pr (λk=>!b && fl k) (F.full c))
theorem j9 (ts:List Nd) (c:F) (p:PT ts c) (fl:Nat->Bool) (b:Bool) (hl:ts.length<=100):bP [stD ts fl,.bool b]=.ok (.ol (nO (jC fl b c))):=by
 unfold bP fS;have con0:F.Con (chO ts fl b) (frO fl b c):=F.pN _ (F.qu _ p.con);have z0:F.roots (frO fl b c)=[0]:=by
  unfold frO;rw [F.lg,F.m7];rfl
 have mp:F.f_ (frO fl b c)=jC fl b c:=F.za _;have pl:(F.pre (frO fl b c)).length<=ts.length:=by
  have h1:=F.iC (λk=>!b && fl k) (F.full c)
  rw [p.preF,Zh]at h1;unfold frO;rw [F.j4,(F.jt _).length_eq];exact h1
 have kl:∀k∈F.pre (frO fl b c),k<ts.length:=λk hk=>by
  unfold frO at hk;rw [F.j4]at hk;have:=F.jP _ _ k ((F.jt _).mem_iff.mp hk);rw [p.preF,ZH]at this;exact this
 have rl:∀f:F,(F.roots f).length<=(F.pre f).length:=by
  intro f
  induction f with
  |nil=>exact Zn _
  |cons k c r ih1 ih2 =>
   rw [F.roots,F.pre,Zr,Zr,Zd]
   lia
 push_cast only [and_self];generalize hL:gH _ _ _=r
 refine uh hL (λm ρ=>∃(f:F) (o:List Nat) (v4:Option OD),F.Con (chO ts fl b) f/\(F.pre f).length=m/\m<=ts.length/\(∀k∈F.pre f,k<ts.length)/\o++F.f_ f=jC fl b c/\ρ=[some (.sh (stD ts fl)),some (.sh (.bool b)),some (.ol (nO o)),some (.ol (nO (F.roots f))),v4])
  (F.pre (frO fl b c)).length ⟨frO fl b c,[],_,con0,rfl,pl,kl,mp,by rw [z0];rfl⟩
  (fun ρ=>∃v3 v4:Option OD,ρ=[some (.sh (stD ts fl)),some (.sh (.bool b)),some (.ol (nO (jC fl b c))),v3,v4]) ?_ ?_
 ·rintro m ρ ⟨f,o,v4,hc,hm,hmt,hk,ho,rfl⟩
  by_cases hf:F.roots f=[]
  ·left
   have:=rY hf;subst this;rw [F.f_,Zx]at ho;subst ho;have ge:gNe (.list (nD [])) (.list [])=.ok (.sh (.bool false)):=qO (lay_ints []);constructor
   ·push_cast only [dM,F.roots,ge]
   ·exact ⟨_,_,rfl⟩
  ·right
   obtain ⟨g,a,d,r1,r2,r3,r4,r5,r6,r7⟩:=Gz hc (λz=>hf (by rw [z];rfl)) hk
   have ge:gNe (.list (nD (F.roots g++[a]))) (.list [])=.ok (.sh (.bool true)):=by
    have h0:iL (F.roots g++[a])≠[]:=by unfold iL;simp
    unfold nD;generalize iL (F.roots g++[a])=ns at h0
    cases ns with
    |nil=>exact absurd rfl h0
    |cons x xs =>
     unfold gNe;rw [mZ];unfold jV;rw [fw (lay_ints (x :: xs)) (by decide),show SeqAt.shaped (.list [])=true from fw (lay_ints []) (by decide),Bool.and_self,if_pos rfl]
     rfl
   have ol:o.length<=100:=by
    have h1:=congrArg List.length ho;rw [Zd]at h1;have h2:=F.iC (λk=>!b && fl k) (F.full c)
    rw [p.preF,Zh]at h2;have h3:(jC fl b c).length<=ts.length:=h2
    lia
   have lb1:((nO o).length<BIG)=True:=by rw [rQ];exact ja (by lia)
   have kd:=pG r2;have fd:=rZ (fl:=fl) r2;have k2:atI [PyData.list (dQ ts),.list (d7 ts),.list (fgD fl ts.length)] 2=some (.list (fgD fl ts.length)):=rfl;have k1:atI [PyData.list (dQ ts),.list (d7 ts),.list (fgD fl ts.length)] 1=some (.list (d7 ts)):=rfl;rw [r1];constructor
   ·push_cast only [dM,ge]
   ·rw [<-j3]
    have rv:(nD (chN ts a)).reverse=nD (chN ts a).reverse:=by unfold nD iL;rw [<-List.map_reverse,<-List.map_reverse]
    have lb2:((nD (F.roots g)).length+(nD (chN ts a).reverse).length<=BIG)=True:=by
     rw [cL,cL,List.length_reverse];have q1:=rl (F.app g d);rw [<-r3,Zd]at q1;have q2:(chN ts a).length<=ts.length:=by
      unfold chN;have:=List.length_filter_le (λj=>decide (eOf ts j=(a:Int))) (List.range ts.length)
      rw [Zh]at this;exact this
     exact cJ (by lia)
    have ap:nD (F.roots g)++nD (chN ts a).reverse=nD (F.roots g++(chN ts a).reverse):=by unfold nD iL;rw [Zl,Zl]
    unfold stD;by_cases hb:(!b && fl a)=true
    ·rw [Zv]at hb
     have b0:b=false:=by simpa using hb.1
     subst b0;have c0:chO ts fl false a=[]:=by
      unfold chO;rw [if_pos (by rw [hb.2];rfl)]
      rfl
     rw [c0,Zx]at r3;have f1:=hb.2;push_cast only [tu,lb1,k2,fd,f1];rw [j3];exact ⟨_,by lia,F.app g d,o++[a],_,r4,rfl,by lia,r6,by rw [r7];exact ho,by rw [r3]⟩
    ·have c0:chO ts fl b a=(chN ts a).reverse:=by
      unfold chO;rw [if_neg hb]
     rw [c0]at r3;have fin:∀v4:Option OD,∃n,n<m/\∃(f:F) (o':List Nat) (v:Option OD),F.Con (chO ts fl b) f/\(F.pre f).length=n/\n<=ts.length/\(∀k∈F.pre f,k<ts.length)/\o'++F.f_ f=jC fl b c/\[some (OD.sh (.list [.list (dQ ts),.list (d7 ts),.list (fgD fl ts.length)])),some (.sh (.bool b)),some (.ol (nO (o++[a]))),some (.ol ((nD (F.roots g++(chN ts a).reverse)).map OD.sh)),v4]=[some (OD.sh (.list [.list (dQ ts),.list (d7 ts),.list (fgD fl ts.length)])),some (.sh (.bool b)),some (.ol (nO o')),some (.ol (nO (F.roots f))),v]:=λv4 =>
      ⟨_,by lia,F.app g d,o++[a],v4,r4,rfl,by lia,r6,by rw [r7];exact ho,by rw [<-r3];rfl⟩
     cases b with
     |true =>
      push_cast only [tu,lb1,k1,kd,dM,vT,rv,cV,lb2,ap];rw [j3];exact fin _
     |false =>
      have f1:fl a=false:=by simpa using hb
      push_cast only [tu,lb1,k2,k1,fd,f1,kd,dM,vT,rv,cV,lb2,ap];rw [j3];exact fin _
 ·rintro ρ' rfl ⟨v3,v4,rfl⟩
  push_cast only [and_self]
noncomputable def vX (ts:List Nd):List PyData:=(List.range ts.length).map λk=>.int (eOf ts k)
theorem Ah {ts:List Nd} {k:Nat} (h:k<ts.length):atI (vX ts) (k:Int)=some (.int (eOf ts k)):=dj (by unfold vX;rw [Za,Zy h];rfl)
noncomputable def elI (ts:List Nd) (m:Nat) (k:Nat):Int:=if eOf ts k<(m:Int) then eOf ts k else -1
theorem ml {ts:List Nd} {q k:Nat}:k∈chN ts q ↔ k<ts.length/\eOf ts k=(q:Int):=by
 unfold chN;rw [List.mem_filter,ZH,decide_eq_true_eq]
theorem uX (ts:List Nd) (fl:Nat->Bool) (he:EL ts) (hl:ts.length<=100):dY [stD ts fl]=.ok (.ol ((vX ts).map OD.sh)):=by
 unfold dY fq;have k0:atI [PyData.list (dQ ts),.list (d7 ts),.list (fgD fl ts.length)] 0=some (.list (dQ ts)):=rfl;have k1:atI [PyData.list (dQ ts),.list (d7 ts),.list (fgD fl ts.length)] 1=some (.list (d7 ts)):=rfl;have rp:=tQ (.int (-1)) ts.length (by lia)
 have eb:∀k,k<ts.length->-1<=eOf ts k/\eOf ts k<(ts.length:Int):=λk hk=>by
  obtain ⟨n,hn⟩:∃n,ts[k]?=some n:=⟨ts[k],by simp [hk]⟩
  have h:=he k n hn;rw [hV hn];by_cases z:k=0
  ·have:=h.1 z;lia
  ·have:=h.2.1 (by lia);lia
 have ef:List.replicate ts.length (PyData.int (-1))=(List.range ts.length).map λk=>PyData.int (elI ts 0 k):=by
  apply List.ext_getElem?
  intro i;rw [Za];by_cases hi:i<ts.length
  ·rw [Zy hi,List.getElem?_replicate,if_pos hi]
   have:=eb i hi;show some _=some (PyData.int (elI ts 0 i))
   unfold elI;by_cases z:eOf ts i<((0:Nat):Int)
   ·rw [if_pos z,show eOf ts i=-1 by lia]
   ·rw [if_neg z]
  ·rw [Zu (by rw [List.length_replicate];lia),Zu (by rw [Zh];lia)]
   rfl
 rw [ef]at rp;have s2:ba (ts.length:Int)=true:=sI (by lia) (by lia)
 unfold stD;push_cast only [k0,ym,rp,s2];generalize hL:cy _ _ _ _=r'
 refine gc hL (λi ρ=>∃v2 v3:Option OD,ρ=[some (.sh (.list [.list (dQ ts),.list (d7 ts),.list (fgD fl ts.length)])),some (.ol (((List.range ts.length).map λk=>PyData.int (elI ts i k)).map OD.sh)),v2,v3]) ⟨_,_,rfl⟩ ?_ ?_
 ·rintro i d ρ hd ⟨v2,v3,rfl⟩
  obtain ⟨hi,rfl⟩:=jd hd;rw [Int.toNat_natCast]at hi;rw [Int.zero_add];have kd:=pG hi;push_cast only [k1,kd];generalize hT:cy _ _ _ _=rt
  have kin:∀j k,(chN ts i)[j]?=some k->k<ts.length/\eOf ts k=(i:Int):=λj k h=>ml.mp (ZB h)
  refine gc hT (λj ρ=>∃v3:Option OD,ρ=[some (.sh (.list [.list (dQ ts),.list (d7 ts),.list (fgD fl ts.length)])),some (.ol (((List.range ts.length).map λk=>PyData.int (if ((chN ts i).take j).contains k=true then (i:Int) else elI ts i k)).map OD.sh)),some (.sh (.int (i:Int))),v3]) ⟨v3,by simp only [List.take_zero,List.contains_nil,Bool.false_eq_true,if_false]⟩ ?_ ?_
  ·rintro j d ρ hd ⟨v3,rfl⟩
   have hj:j<(chN ts i).length:=by
    have:=(Zb.mp hd).1;rw [cL]at this;exact this
   obtain ⟨k,hk⟩:∃k,(chN ts i)[j]?=some k:=⟨(chN ts i)[j],by simp⟩
   rw [nc hk]at hd;cases hd;have hkl:=(kin j k hk).1;have ix:ixN (((List.range ts.length).map λk=>PyData.int (if ((chN ts i).take j).contains k=true then (i:Int) else elI ts i k)).map OD.sh).length (k:Int)=some k:=qr (by rw [Zc,Zc,Zh];exact hkl)
   have st:((((List.range ts.length).map λk=>PyData.int (if ((chN ts i).take j).contains k=true then (i:Int) else elI ts i k)).map OD.sh)).set k (OD.sh (.int (i:Int)))=((List.range ts.length).map λk=>PyData.int (if ((chN ts i).take (j+1)).contains k=true then (i:Int) else elI ts i k)).map OD.sh:=by
    rw [Zi,Zi];have tk:=take_snoc hk;have e2:(OD.sh ∘ λk=>PyData.int (if ((chN ts i).take (j+1)).contains k=true then (i:Int) else elI ts i k)) k=OD.sh (.int (i:Int)):=by
     show OD.sh (.int (if ((chN ts i).take (j+1)).contains k=true then (i:Int) else elI ts i k))=_
     rw [if_pos (List.contains_iff_mem.mpr (by rw [tk];simp))]
    rw [<-e2];refine hZ _ _ ts.length k λq hq=>?_
    show OD.sh (.int (if ((chN ts i).take (j+1)).contains q=true then (i:Int) else elI ts i q))=OD.sh (.int (if ((chN ts i).take j).contains q=true then (i:Int) else elI ts i q))
    have:((chN ts i).take (j+1)).contains q=((chN ts i).take j).contains q:=by
     rw [tk,Bool.eq_iff_iff,List.contains_iff_mem,List.contains_iff_mem];simp [hq]
    rw [this]
   push_cast only [Hd ix,st];exact ⟨_,rfl⟩
  ·rintro ρ' rfl ⟨v3',rfl⟩
   rw [cL,List.take_length];have e3:((List.range ts.length).map λk=>PyData.int (if (chN ts i).contains k=true then (i:Int) else elI ts i k))=(List.range ts.length).map λk=>PyData.int (elI ts (i+1) k):=Zt λk hk=>by
    rw [ZH]at hk;refine congrArg PyData.int ?_;unfold elI;by_cases z:eOf ts k=(i:Int)
    ·rw [if_pos (List.contains_iff_mem.mpr (ml.mpr ⟨hk,z⟩)),if_pos (by lia),z]
    ·rw [if_neg (λw=>z (ml.mp (List.contains_iff_mem.mp w)).2)]
     by_cases y:eOf ts k<(i:Int)
     ·rw [if_pos y,if_pos (by lia)]
     ·rw [if_neg y,if_neg (by lia)]
   rw [e3];exact ⟨_,_,rfl⟩
 ·rintro ρ' rfl ⟨v2,v3,rfl⟩
  rw [kf,Int.toNat_natCast];have e4:((List.range ts.length).map λk=>PyData.int (elI ts ts.length k))=vX ts:=Zt λk hk=>by
   rw [ZH]at hk;have:=eb k hk;unfold elI;rw [if_pos (by lia)]
  rw [e4];push_cast only [and_self]
noncomputable def jy (ts:List Nd) (L:List Nat) (k:Nat):PyData:=.tuple [.int (if eOf ts k<0 then -1 else (L.idxOf (eOf ts k).toNat:Nat)),.str (hX ts k).l,.int (hX ts k).t]
noncomputable def c_ (ts:List Nd) (L:List Nat):List PyData:=L.map (jy ts L)
theorem yt (L:List Nat) (q:Nat) (h:q∈L) (hl:L.length<=100):p9 (nD L) (.int (q:Int))=.ok (.sh (.int ((L.idxOf q:Nat):Int))):=by
 have e:(iL L).idxOf (q:Int)=L.idxOf q:=by
  unfold iL;clear hl
  induction L with
  |nil=>cases h
  |cons a r ih =>
   rw [Zk,List.idxOf_cons,List.idxOf_cons];by_cases z:a=q
   ·subst z
    simp
   ·have z2:((a:Int) == (q:Int))=false:=beq_eq_false_iff_ne.mpr (by lia)
    have z3:(a == q)=false:=beq_eq_false_iff_ne.mpr z;rw [z2,z3];have hm:q∈r:=by
     rcases Zo.mp h with w | w
     ·exact absurd w.symm z
     ·exact w
    show _+1=_+1
    rw [ih hm]
 have m:(q:Int)∈iL L:=ZC.mpr ⟨q,h,rfl⟩;rw [<-e];exact Ff _ _ m
theorem qH (ts:List Nd) (fl:Nat->Bool) (L:List Nat) (he:EL ts) (hl:ts.length<=100) (hLn:L.length<=100) (hm:∀k∈L,k<ts.length/\(0<=eOf ts k->(eOf ts k).toNat∈L)):d6 [stD ts fl,.list (nD L)]=.ok (.ol ((c_ ts L).map OD.sh)):=by
 unfold d6 gy;have el:=uX ts fl he hl;have k0:atI [PyData.list (dQ ts),.list (d7 ts),.list (fgD fl ts.length)] 0=some (.list (dQ ts)):=rfl;push_cast only [el,cV];generalize hL:cy _ _ _ _=r'
 refine gc hL (λi ρ=>∃v4 v5:Option OD,ρ=[some (.sh (stD ts fl)),some (.sh (.list (nD L))),some (.sh (.list (vX ts))),some (.ol (((L.take i).map (jy ts L)).map OD.sh)),v4,v5]) ⟨_,_,rfl⟩ ?_ ?_
 ·rintro i d ρ hd ⟨v4,v5,rfl⟩
  have hi:i<L.length:=by
   have:=(Zb.mp hd).1;rw [cL]at this;exact this
  obtain ⟨k,hk⟩:∃k,L[i]?=some k:=⟨L[i],by simp⟩
  rw [nc hk]at hd;cases hd;obtain ⟨h1,h2⟩:=hm k (ZB hk);have ed:=Ah h1;have ld:=AA h1;have lb:((L.take i).length<BIG)=True:=by rw [ZE];exact ja (by lia)
  have sn:((L.take i).map (jy ts L)).map OD.sh++[OD.sh (jy ts L k)]=((L.take (i+1)).map (jy ts L)).map OD.sh:=by rw [take_snoc hk,Zl,Zl];rfl
  by_cases z:eOf ts k<0
  ·have d1:decide ((0:Int)<=eOf ts k)=false:=decide_eq_false (by lia)
   have rd:jy ts L k=.tuple [.int (-1),.str (hX ts k).l,.int (hX ts k).t]:=by unfold jy;rw [if_pos z]
   rw [rd]at sn;unfold stD;push_cast only [ed,d1,k0,ld,lb,sn];exact ⟨_,_,rfl⟩
  ·have d1:decide ((0:Int)<=eOf ts k)=true:=decide_eq_true (by lia)
   obtain ⟨q,hq⟩:∃q:Nat,eOf ts k=(q:Int):=⟨(eOf ts k).toNat,by lia⟩
   have ix:=yt L q (by have:=h2 (by lia);rw [hq,Int.toNat_natCast]at this;exact this) hLn
   have rd:jy ts L k=.tuple [.int ((L.idxOf q:Nat):Int),.str (hX ts k).l,.int (hX ts k).t]:=by unfold jy;rw [if_neg z,hq,Int.toNat_natCast]
   rw [rd]at sn;rw [hq]at ed d1;unfold stD;push_cast only [ed,d1,k0,ld,lb,ix,sn];exact ⟨_,_,rfl⟩
 ·rintro ρ' rfl ⟨v4,v5,rfl⟩
  rw [cL,List.take_length];push_cast only [and_self];rfl
noncomputable def snL (ts:List Nd) (fl:Nat->Bool):Nat->List Bool
 |0=>[]
 |i+1=>snL ts fl i++[decide (eOf ts i=-1) || (((snL ts fl i)[(eOf ts i).toNat]?).getD false && !fl (eOf ts i).toNat)]
theorem fu (ts:List Nd) (fl:Nat->Bool):∀i,(snL ts fl i).length=i
 |0=>rfl
 |i+1=>by rw [snL,Zd,fu ts fl i];rfl
noncomputable def sn (ts:List Nd) (fl:Nat->Bool) (k:Nat):Bool:=((snL ts fl (k+1))[k]?).getD false
theorem nu (ts:List Nd) (fl:Nat->Bool):∀(m k:Nat),k<m->(snL ts fl m)[k]?=some (sn ts fl k)
 |0,k,h=>by lia
 |m+1,k,h=>by
  by_cases e:k=m
  ·subst e
   unfold sn;rw [Zg (by rw [fu];lia)]
   rfl
  ·rw [snL,List.getElem?_append_left (by rw [fu];lia)]
   exact nu ts fl m k (by lia)
theorem tF {ts:List Nd} {fl:Nat->Bool} {k:Nat} (h:eOf ts k=-1):sn ts fl k=true:=by
 unfold sn;rw [snL,List.getElem?_append_right (by rw [fu];lia),fu,Nat.sub_self,h]
 rfl
theorem qd {ts:List Nd} {fl:Nat->Bool} {k j:Nat} (h:eOf ts k=(j:Int)) (hj:j<k):sn ts fl k=(sn ts fl j && !fl j):=by
 have e:sn ts fl k=(decide (eOf ts k=-1) || (((snL ts fl k)[(eOf ts k).toNat]?).getD false && !fl (eOf ts k).toNat)):=by
  unfold sn;rw [snL,List.getElem?_append_right (by rw [fu];lia),fu,Nat.sub_self]
  rfl
 rw [e,h,Int.toNat_natCast,nu ts fl k j hj,decide_eq_false (by lia)]
 rfl
noncomputable def seen (ts:List Nd) (fl:Nat->Bool):List Nat:=(List.range ts.length).filter (sn ts fl)
theorem elt {ts:List Nd} (he:EL ts) {k:Nat} (hk:k<ts.length):eOf ts k=-1/\k=0\/∃j:Nat,eOf ts k=(j:Int)/\j<k:=by
 obtain ⟨n,hn⟩:∃n,ts[k]?=some n:=⟨ts[k],by simp [hk]⟩
 have h:=he k n hn;rw [hV hn];by_cases z:k=0
 ·exact .inl ⟨h.1 z,z⟩
 ·have:=h.2.1 (by lia)
  exact .inr ⟨n.e.toNat,by lia,by lia⟩
theorem wI (ts:List Nd) (c:F) (p:PT ts c) (he:EL ts) (fl:Nat->Bool):jC fl false c=seen ts fl:=by
 unfold jC seen;have e:(λk=>!false && fl k)=fl:=funext λk=>by cases fl k <;> rfl
 rw [e,<-p.preF];refine F.su (-1) true (F.full c) p.eldF (λk hk h=>tF h) (λk hk j hj _=>?_) (by rw [p.preF];exact List.nodup_range) (λk _=>by lia) rfl
 rw [p.preF,ZH]at hk;rcases elt he hk with ⟨z,_⟩ | ⟨j',h1,h2⟩
 ·lia
 ·have:j=j':=by lia
  subst this;exact qd h1 h2
theorem pR:∀f:F,F.pr (λ_=>false) f=f
 |.nil=>rfl
 |.cons k c r=>by rw [F.pr,if_neg Zm,pR c,pR r]
theorem k9 (ts:List Nd) (c:F) (p:PT ts c) (fl:Nat->Bool):jC fl true c=List.range ts.length:=by
 unfold jC;have e:(λk=>!true && fl k)=λ_=>false:=funext λk=>rfl
 rw [e,pR,p.preF]
theorem ka {ts:List Nd} {fl:Nat->Bool} {k:Nat} (h:k∈seen ts fl):k<ts.length:=by
 unfold seen at h;rw [List.mem_filter,ZH]at h;exact h.1
theorem pK {ts:List Nd} (he:EL ts) {fl:Nat->Bool} {k:Nat} (h:k∈seen ts fl):0<=eOf ts k->(eOf ts k).toNat∈seen ts fl:=λh0=>by
 unfold seen at h ⊢;rw [List.mem_filter,ZH]at h ⊢;rcases elt he h.1 with ⟨z,_⟩ | ⟨j,h1,h2⟩
 ·lia
 ·rw [h1,Int.toNat_natCast]
  have:=qd (fl:=fl) h1 h2;rw [h.2]at this;have h3:(sn ts fl j && !fl j)=true:=this.symm;rw [Zv]at h3;exact ⟨by lia,h3.1⟩
theorem zF (ts:List Nd) (fl:Nat->Bool):(seen ts fl).Nodup:=List.Pairwise.filter _ List.nodup_range
theorem nF (ts:List Nd) (fl:Nat->Bool):(seen ts fl).length<=ts.length:=by
 have:=List.length_filter_le (sn ts fl) (List.range ts.length);rw [Zh]at this;exact this
noncomputable def k8 (R:List Nat) (i:Nat):List (Key×PyData):=(.inl (-1),.int (-1)) :: (List.range i).map λj:Nat=>(.inl ((R[j]?.getD 0:Nat):Int),.int (j:Int))
theorem vS {ks:List (Key×PyData)} {k:Key} {d:PyData} (h:∀p∈ks,p.1≠k):putD ks k d=ks++[(k,d)]:=by
 unfold putD;rw [if_neg];rw [Bool.not_eq_true,List.any_eq_false];intro p hp;rw [decide_eq_true_eq];exact h p hp
theorem uo {R:List Nat} (nd:R.Nodup) {i j:Nat} (hi:i<R.length) (hj:j<R.length) (h:R[i]=R[j]):i=j:=by
 have a:=nd.idxOf_getElem i hi;have b:=nd.idxOf_getElem j hj;rw [h]at a
 lia
theorem vg {R:List Nat} (nd:R.Nodup) {i k:Nat} (hk:R[i]?=some k):putD (k8 R i) (.inl (k:Int)) (.int (i:Int))=k8 R (i+1):=by
 rw [vS]
 ·unfold k8
  rw [List.range_succ,Zl,List.cons_append,Zk,hk];rfl
 ·intro p hp
  unfold k8 at hp;rcases Zo.mp hp with rfl | hp
  ·intro z
   have:=Sum.inl.inj z
   lia
  ·obtain ⟨j,hj,rfl⟩:=ZC.mp hp
   rw [ZH]at hj;intro z;have hz:=Sum.inl.inj z;obtain ⟨h1,h2⟩:=Zb.mp hk;rw [Zg (show j<R.length by lia)]at hz
   have hz:((R[j]:Nat):Int)=(k:Int):=hz;have:=uo nd (show j<R.length by lia) h1 (by rw [h2];lia)
   lia
theorem u9 (R:List Nat) (i:Nat):mL (k8 R i) (.inl (-1))=some (.int (-1)):=by
 unfold mL k8;rw [List.find?_cons];simp
theorem zC {R:List Nat} (nd:R.Nodup) {i k:Nat} (hk:R[i]?=some k):mL (k8 R R.length) (.inl (k:Int))=some (.int (i:Int)):=by
 unfold mL k8;have h0:decide ((Sum.inl (-1):Key)=.inl (k:Int))=false:=decide_eq_false λz=>by
  have:=Sum.inl.inj z
  lia
 obtain ⟨h1,h2⟩:=Zb.mp hk;rw [List.find?_cons,h0,List.find?_map];have:(List.range R.length).find? ((λkv:Key×PyData=>decide (kv.1=.inl (k:Int))) ∘ λj:Nat=>(.inl ((R[j]?.getD 0:Nat):Int),PyData.int (j:Int)))=some i:=by
  rw [List.find?_range_eq_some];refine ⟨?_,ZH.mpr h1,λj hj=>?_⟩
  ·show decide ((Sum.inl ((R[i]?.getD 0:Nat):Int):Key)=.inl (k:Int))=true
   rw [hk];exact decide_eq_true rfl
  ·show (!decide ((Sum.inl ((R[j]?.getD 0:Nat):Int):Key)=.inl (k:Int)))=true
   rw [Bool.not_eq_true',decide_eq_false_iff_not];intro z;have hz:=Sum.inl.inj z;rw [Zg (show j<R.length by lia)]at hz
   have hz:((R[j]:Nat):Int)=(k:Int):=hz;have:=uo nd (show j<R.length by lia) h1 (by rw [h2];lia)
   lia
 rw [this];rfl
theorem Av {R:List Nat} {k:Nat} (h:k∈R):R[R.idxOf k]?=some k:=by
 have hl:=List.idxOf_lt_length_iff.mpr h;rw [Zg hl];exact congrArg some (List.getElem_idxOf hl)
theorem wd {ts:List Nd} {k:Nat} (h:k<ts.length):ts[k]?=some (hX ts k):=by
 unfold hX;rw [Zg h];rfl
theorem Ei (ts:List Nd) (he:EL ts) (R:List Nat) (nd:R.Nodup) (hR:R.length<=100) (hm:∀k∈R,k<ts.length/\(0<=eOf ts k->(eOf ts k).toNat∈R)):dw [.list (av ts),.list (nD R)]=.ok (.ol ((c_ ts R).map OD.sh)):=by
 unfold dw fR;have hd1:∀ρ:L3.Env,eD1 (eUn jw (eC (.int 1))) (eUn jw (eC (.int 1))) ρ=.ok (.od (k8 R 0)):=fun ρ=>rfl
 push_cast only [hd1];generalize hL:cy _ _ _ _=r'
 refine gc hL (λi ρ=>∃v3 v4:Option OD,ρ=[some (.sh (.list (av ts))),some (.sh (.list (nD R))),some (.od (k8 R i)),v3,v4,none]) ⟨_,_,rfl⟩ ?_ ?_
 ·rintro i d ρ hd ⟨v3,v4,rfl⟩
  obtain ⟨e,hee,rfl⟩:=oH hd;have hi:i<R.length:=by
   have:=(Zb.mp hee).1;rw [cL]at this;exact this
  obtain ⟨k,hk⟩:∃k,R[i]?=some k:=⟨R[i],by simp⟩
  rw [nc hk]at hee;cases hee;have lb:((k8 R i).length<BIG)=True:=by unfold k8;rw [Zr,Zc,Zh];exact ja (by lia)
  push_cast only [xD,xu,lb,vg nd hk];exact ⟨_,_,rfl⟩
 ·rintro ρ' rfl ⟨v3,v4,rfl⟩
  have el:(dN (nD R)).length=R.length:=by unfold dN;rw [Zc,List.length_zipIdx,cL]
  rw [el];push_cast only [and_self];generalize hC:cK _ _ _ _ _ _=rc
  have e:=jS hC (λk:Nat=>PyData.int (k:Int)) (λk=>.sh (ndD (hX ts k))) R (by unfold nD iL;rw [Zi];rfl) (of_eq_true (cJ (by lia))) (by
   intro k hk;have g1:=qD (wd (hm k hk).1);push_cast only [g1,ndD])
  subst e;clear hC;have e2:(R.map λk=>OD.sh (ndD (hX ts k))).map OD.er=R.map λk=>ndD (hX ts k):=by
   rw [Zi];exact Zt λk _=>cq _
  push_cast only [e2,yL];generalize hC:cK _ _ _ _ _ _=rc
  have e:=jS hC (λk:Nat=>ndD (hX ts k)) (λk=>.sh (jy ts R k)) R rfl (of_eq_true (cJ (by lia))) (by
   intro k hk;obtain ⟨h1,h2⟩:=hm k hk;have ee:=sP h1;have g1:mL (k8 R R.length) (.inl (hX ts k).e)=some (.int (if eOf ts k<0 then -1 else (R.idxOf (eOf ts k).toNat:Nat))):=by
    rw [ee];rcases elt he h1 with ⟨z,_⟩ | ⟨j,z,_⟩
    ·rw [z,u9,if_pos (by lia)]
    ·have hj:=h2 (by lia)
     rw [z,Int.toNat_natCast]at hj;rw [z,if_neg (by lia),Int.toNat_natCast]
     exact zC nd (Av hj)
   unfold jy;push_cast only [ndD,IU,g1])
  subst e;clear hC;have e3:(R.map λk=>OD.sh (jy ts R k))=(c_ ts R).map OD.sh:=by
   unfold c_;rw [Zi];rfl
  push_cast only [e3]
noncomputable def fdL (ts:List Nd) (fl:Nat->Bool):List Nat:=(List.range ts.length).filter fl
theorem xE {ts:List Nd} {fl:Nat->Bool} {j:Nat} (h:j<ts.length):decide ((j:Int)∈iL (fdL ts fl))=fl j:=by
 unfold iL fdL;rw [Bool.eq_iff_iff,decide_eq_true_eq,ZC];constructor
 ·rintro ⟨q,h1,h2⟩
  have:q=j:=by lia
  subst this;exact (List.mem_filter.mp h1).2
 ·exact λz=>⟨j,List.mem_filter.mpr ⟨ZH.mpr h,z⟩,rfl⟩
noncomputable def dm (ts:List Nd) (fl:Nat->Bool):PyData:=.tuple [.list (c_ ts (seen ts fl)),.list (nD (seen ts fl))]
noncomputable def i4 (ts:List Nd) (fl:Nat->Bool):OD:=.ot [.ol ((c_ ts (seen ts fl)).map OD.sh),.ol (nO (seen ts fl))]
theorem nK (ts:List Nd) (fl:Nat->Bool):(i4 ts fl).er=dm ts fl:=by
 unfold i4 dm;rw [xb,Zk,Zk,List.map_nil,gk,cV,gk,dM]
theorem xi (ts:List Nd) (L:List Nat):okN (.ol ((c_ ts L).map OD.sh))=true:=by
 show ((c_ ts L).map OD.sh).all Ao=true
 rw [List.all_map,List.all_eq_true];intro x hx;unfold c_ at hx;obtain ⟨k,_,rfl⟩:=ZC.mp hx;show nol (jy ts L k)=true
 unfold jy;simp [nol,vd]
noncomputable def bD (bs:List Bool):List PyData:=bs.map PyData.bool
theorem yk (ts:List Nd) (he:EL ts) (fl:Nat->Bool) (hl:ts.length<=100):iZ [.list (av ts),.list (nD (fdL ts fl))]=.ok (i4 ts fl):=by
 unfold iZ ku;push_cast only [and_self];generalize hL:cy _ _ _ _=r'
 refine gc hL (λi ρ=>∃v3:Option OD,ρ=[some (.sh (.list (av ts))),some (.sh (.list (nD (fdL ts fl)))),some (.ol ((bD (snL ts fl i)).map OD.sh)),v3,none]) ⟨_,rfl⟩ ?_ ?_
 ·rintro i d ρ hd ⟨v3,rfl⟩
  unfold av at hd;rw [Za]at hd;obtain ⟨n,hn,rfl⟩:=Zp.mp hd;have hi:=(Zb.mp hn).1;have en:n.e=eOf ts i:=(hV hn).symm;have lb:((bD (snL ts fl i)).length<BIG)=True:=by unfold bD;rw [Zc,fu];exact ja (by lia)
  have sn1:(bD (snL ts fl i)).map OD.sh++[OD.sh (.bool (sn ts fl i))]=(bD (snL ts fl (i+1))).map OD.sh:=by
   have:=nu ts fl (i+1) i (by lia)
   have e1:snL ts fl (i+1)=snL ts fl i++[sn ts fl i]:=by
    unfold sn;rw [snL,List.getElem?_append_right (by rw [fu];lia),fu,Nat.sub_self]
    rfl
   rw [e1];unfold bD;rw [Zl,Zl];rfl
  rcases elt he hi with ⟨z,_⟩ | ⟨j,z,hj⟩
  ·rw [tF z]at sn1
   have d1:decide (n.e=-1)=true:=decide_eq_true (by rw [en];exact z)
   push_cast only [ndD,d1,cV,lb,sn1];exact ⟨_,rfl⟩
  ·have d1:decide (n.e=-1)=false:=decide_eq_false (by rw [en,z];lia)
   have ej:n.e=(j:Int):=by rw [en,z]
   rw [qd z hj]at sn1;have at1:atI (bD (snL ts fl i)) (j:Int)=some (.bool (sn ts fl j)):=dj (by unfold bD;rw [Za,nu ts fl i j hj];rfl)
   have m1:g5 true (.int (j:Int)) (.list (nD (fdL ts fl)))=.ok (.sh (.bool (!fl j))):=by
    unfold nD;rw [o7,if_pos rfl,xE (by lia)]
   rw [ej]at d1;cases hs:sn ts fl j with
   |true =>
    rw [hs]at sn1 at1;push_cast only [ndD,ej,d1,cV,at1,m1,lb];rw [Bool.true_and]at sn1;push_cast only [sn1];exact ⟨_,rfl⟩
   |false =>
    rw [hs]at sn1 at1;rw [Bool.false_and]at sn1;push_cast only [ndD,ej,d1,cV,at1,m1,lb,sn1];exact ⟨_,rfl⟩
 ·rintro ρ' rfl ⟨v3,rfl⟩
  rw [bu];push_cast only [cV];generalize hC:cK _ _ _ _ _ _=rc
  have ee:dN (bD (snL ts fl ts.length))=(List.range ts.length).map λk:Nat=>PyData.tuple [.int (k:Int),.bool (sn ts fl k)]:=by
   apply List.ext_getElem?
   intro i;rw [Za];by_cases hi:i<ts.length
   ·rw [Zy hi]
    unfold dN bD;rw [Za,List.getElem?_zipIdx,Za,nu ts fl ts.length i hi];simp
   ·rw [Zu (by unfold dN bD;simp [fu];lia),Zu (by rw [Zh];lia)]
    rfl
  have e:=jo hC (λk:Nat=>PyData.tuple [.int (k:Int),.bool (sn ts fl k)]) (sn ts fl) (λk:Nat=>.sh (.int (k:Int))) (List.range ts.length) ee (by rw [Zh];exact of_eq_true (cJ (by lia))) (by
   intro k hk;refine ⟨?_,λ_=>?_⟩
   ·push_cast only [and_self]
   ·push_cast only [and_self])
  subst e;clear hC;have e4:(((List.range ts.length).filter (sn ts fl)).map λk:Nat=>OD.sh (.int (k:Int)))=nO (seen ts fl):=gJ _
  have rn:=Ei ts he (seen ts fl) (zF ts fl) (by have:=nF ts fl;lia) λk hk=>⟨ka hk,pK he hk⟩
  have rt:=Ag (i:=4) (ρ:=[some (.sh (.list (av ts))),some (.sh (.list (nD (fdL ts fl)))),some (.sh (.list (bD (snL ts fl ts.length)))),v3,some (.ol (nO (seen ts fl)))]) (fa:=jX 4 (aT dw (ag (af 0) (ag (af 4) au)))) rfl (xK 4 _ _ (x:=.ol (nO (seen ts fl))) rfl (by
   show (nO (seen ts fl)).all yZ=true
   unfold nO;rw [List.all_map,List.all_eq_true];intro x _;rfl) (by push_cast only [dM,rn]) (xi ts (seen ts fl)))
  push_cast only [e4,↓rt];rfl
noncomputable def aO (ts:List Nd) (g:Int) (fl:Nat->Bool) (an:PyData):List (Str×PyData):=[("tree",.list (av ts)),("gap",.int g),("folds",.list (nD (fdL ts fl))),("anew",an)]
noncomputable def esD (ts:List Nd) (g:Int) (fl:Nat->Bool) (an:PyData):PyData:=jN "Easel" (aO ts g fl an)
section
variable {ts:List Nd} {g:Int} {fl:Nat->Bool} {an:PyData}
theorem mP:ow "tree" (esD ts g fl an)=some (.list (av ts)):=rfl
theorem ky:ow "folds" (esD ts g fl an)=some (.list (nD (fdL ts fl))):=by
 show df "folds" ((aO ts g fl an).map λp=>(.tuple [.str p.1],p.2))=_
 unfold aO;rw [Zk,Zk,Zk,Zk,List.map_nil,dk,if_neg (show ¬("folds" : Str)=("tree" : Str) by decide +kernel),dk,if_neg (show ¬("folds" : Str)=("gap" : Str) by decide +kernel),dk,if_pos rfl]
theorem pS {m:Str} (h1:m ≠ "tree") (h2:m ≠ "gap") (h3:m ≠ "folds") (h4:m ≠ "anew"):df m ((aO ts g fl an).map λp=>(.tuple [.str p.1],p.2))=none:=by
 unfold aO;rw [Zk,Zk,Zk,Zk,List.map_nil,dk,if_neg h1,dk,if_neg h2,dk,if_neg h3,dk,if_neg h4,uG]
theorem qa (he:EL ts) (hl:ts.length<=100):aF [esD ts g fl an]=.ok (i4 ts fl):=by
 unfold aF fQ;have h1:=mP (ts:=ts) (g:=g) (fl:=fl) (an:=an);have h2:=ky (ts:=ts) (g:=g) (fl:=fl) (an:=an);have h3:gS (esD ts g fl an)=some ("Easel" : Str):=rfl;have sh:=yk ts he fl hl;push_cast only [me,qC,h1,h2,h3,sh]
theorem ud (hl:ts.length<=100):bg [esD ts g fl an]=.ok (.ol ((av ts).map OD.sh)):=by
 unfold bg e_;have h1:=mP (ts:=ts) (g:=g) (fl:=fl) (an:=an);have h3:gS (esD ts g fl an)=some ("Easel" : Str):=rfl;have lb:(ts.length<=BIG)=True:=cJ (by lia)
 push_cast only [me,qC,h1,h3,bu,lb]
theorem rL (hl:ts.length<=100):a8 [esD ts g fl an]=.ok (.ol (nO (fdL ts fl))):=by
 unfold a8 eM;have h2:=ky (ts:=ts) (g:=g) (fl:=fl) (an:=an);have h3:gS (esD ts g fl an)=some ("Easel" : Str):=rfl;push_cast only [me,qC,h2,h3];rfl
theorem iP {m:Str} {f:Fn} {r:R OD} {ρ:L3.Env} {i:Nat} (hm:df m ((aO ts g fl an).map λp=>(.tuple [.str p.1],p.2))=none) (hr:f [esD ts g fl an]=r) (h:ρ[i]?=some (some (.sh (esD ts g fl an)))):de (λnm=>List.lookup nm [("Easel",f)]) m (af i) au ρ=r:=by
 have hv:af i ρ=.ok (.sh (esD ts g fl an)):=by
  unfold af;rw [h]
 have h4:ow m (esD ts g fl an)=none:=hm;have h3:gS (esD ts g fl an)=some ("Easel" : Str):=rfl;unfold de;rw [hv,aV,cq];simp only [h3,h4];show (match List.lookup ("Easel" : Str) [(("Easel" : Str),f)] with
  |some fn=>(au ρ).bind λxs=>fn (esD ts g fl an :: xs.map OD.er)
  |none=>.bad)=r
 have:List.lookup ("Easel" : Str) [(("Easel" : Str),f)]=some f:=by rw [List.lookup_cons];rfl
 rw [this];exact hr
end
theorem m6 {α:Type} (f:α->PyData):∀L:List α,(∀x∈L,noD (f x)=true)->oy (L.map f)=true
 |[],_=>rfl
 |x :: L,h=>by
  rw [Zk,oy,h x Zf,m6 f L λy hy=>h y (Ze _ hy)]
  rfl
theorem Ck (L:List Nat):noD (.list (nD L))=true:=by
 rw [noD];unfold nD iL;rw [Zi];exact m6 _ L λx _=>rfl
theorem xA (ts:List Nd) (L:List Nat):noD (.list (c_ ts L))=true:=by
 rw [noD];exact m6 _ L λx _=>by unfold jy;rfl
theorem qP (ts:List Nd) (fl:Nat->Bool):noD (dm ts fl)=true:=by
 unfold dm;rw [noD,oy,oy,oy,xA,Ck];rfl
theorem HM (n:Nat) (hn:n<=100):qc [.int (n:Int)]=.ok (.ol (nO (List.range n))):=by
 show (if 0<=(n:Int)/\(n:Int)<=65536 then R.ok (OD.ol ((((List.range (n:Int).toNat).map λk:Nat=>(k:Int)).map PyData.int).map OD.sh)) else .bad)=_
 rw [if_pos (by lia),Int.toNat_natCast]
 rfl
theorem qo (xs:List PyData) (j:Nat) (h:j<xs.length):bO [.list xs,.int j]=.ok (.sh .none):=by
 unfold bO fU;have d1:decide ((j:Int)<0)=false:=decide_eq_false (by lia)
 have d2:decide (((xs.length:Nat):Int)<=(j:Int))=false:=decide_eq_false (by lia)
 push_cast only [d1,d2]
section
variable {ts:List Nd} {fl:Nat->Bool} {k:Nat}
theorem ll (hk:k<ts.length) (neg:Bool):g5 neg (.int (k:Int)) (.list (nD (fdL ts fl)))=.ok (.sh (.bool (if neg then !fl k else fl k))):=by
 unfold nD;rw [o7,xE hk]
theorem wO (hl:ts.length<=100) (hk:k<ts.length) (h1:fl k=false) (h2:chN ts k≠[]):dt [.list (av ts),.list (nD (fdL ts fl)),.int (k:Int)]=.ok (.sh .none):=by
 unfold dt fW;have ck:=nH (av ts) k (by rw [bu];exact hk)
 have ch:=i6 ts k hk hl;have m:=ll (fl:=fl) hk false;rw [h1]at m;have d:decide (((chN ts k).length:Int)=0)=false:=decide_eq_false (by
  have:(chN ts k).length≠0:=λz=>h2 (List.length_eq_zero_iff.mp z)
  lia)
 push_cast only [ck,m,ch,dM,cL,d]
theorem wg (hl:ts.length<=100) (hk:k<ts.length) (h:fl k=true\/chN ts k=[]):bZ [.list (av ts),.list (nD (fdL ts fl)),.int (k:Int)]=.ex "NoDeed" := by
 unfold bZ eJ;have ck:=qo (av ts) k (by rw [bu];exact hk)
 have ch:=i6 ts k hk hl;have m:=ll (fl:=fl) hk false;cases h1:fl k with
 |true =>
  rw [h1]at m;push_cast only [ck,m,ql,ma,jU]
 |false =>
  rw [h1]at m;have h2:chN ts k=[]:=h.resolve_left (by rw [h1];exact Zm)
  have d:decide (((chN ts k).length:Int)=0)=true:=by rw [h2];rfl
  push_cast only [ck,m,ch,dM,cL,d,ql,ma,jU]
theorem zR (hk:k<ts.length) (h1:fl k=true):cO [.list (av ts),.list (nD (fdL ts fl)),.int (k:Int)]=.ok (.sh .none):=by
 unfold cO eN;have ck:=nH (av ts) k (by rw [bu];exact hk)
 have m:=ll (fl:=fl) hk true;rw [h1]at m;push_cast only [ck,m]
theorem ze (hk:k<ts.length) (h1:fl k=false):bE [.list (av ts),.list (nD (fdL ts fl)),.int (k:Int)]=.ex "NoDeed" := by
 unfold bE dq;have ck:=qo (av ts) k (by rw [bu];exact hk)
 have m:=ll (fl:=fl) hk true;rw [h1]at m;push_cast only [ck,m,ql,ma,jU]
theorem sZ (hl:ts.length<=100):bR [.list (av ts)]=.ok (.sh (.tuple [.list (av ts),.list (nD (List.range ts.length))])):=by
 unfold bR gD;have lr:qc [.int (ts.length:Int)]=.ok (.ol (nO (List.range ts.length))):=HM _ hl;push_cast only [bu,lr,dM]
noncomputable def gp (ts:List Nd) (k:Nat):Bool:=!(chN ts k).isEmpty
theorem yF {j:Nat} (hj:j<ts.length):decide ((j:Int)∈ts.map (·.e))=gp ts j:=by
 rw [Bool.eq_iff_iff,decide_eq_true_eq];unfold gp;constructor
 ·intro h
  obtain ⟨n,hn,he⟩:=ZC.mp h;obtain ⟨i,hi⟩:=List.getElem?_of_mem hn;have hil:=(Zb.mp hi).1;have:i∈chN ts j:=ml.mpr ⟨hil,by rw [hV hi];exact he⟩
  cases hc:chN ts j with
  |nil=>rw [hc]at this;cases this
  |cons a r=>rfl
 ·intro h
  cases hc:chN ts j with
  |nil=>rw [hc]at h;cases h
  |cons a r =>
   have:a∈chN ts j:=by rw [hc];exact Zf
   obtain ⟨h1,h2⟩:=ml.mp this;obtain ⟨n,hn⟩:∃n,ts[a]?=some n:=⟨ts[a],by simp [h1]⟩
   rw [hV hn]at h2;exact ZC.mpr ⟨n,ZB hn,h2⟩
theorem zH (hl:ts.length<=100) (L:List Nat):dF [.tuple [.list (av ts),.list (nD (List.range ts.length))],.list (nD L)]=.ok (.ol (nO ((List.range ts.length).filter λk=>decide ((k:Int)∈iL L) && gp ts k))):=by
 unfold dF fV;push_cast only [and_self];generalize hC:cK _ _ _ _ _ _=rc
 have e:=jS hC ndD (λn:Nd=>.sh (.int n.e)) ts rfl (of_eq_true (cJ (by lia))) (by intro n hn;push_cast only [ndD])
 subst e;clear hC;have e2:(ts.map λn:Nd=>OD.sh (.int n.e)).map OD.er=(ts.map (·.e)).map PyData.int:=by
  rw [Zi,Zi];exact Zt λn _=>cq _
 push_cast only [e2];generalize hC:cK _ _ _ _ _ _=rc
 have ee:dN (nD (List.range ts.length))=(List.range ts.length).map λk:Nat=>PyData.tuple [.int (k:Int),.int (k:Int)]:=by
  apply List.ext_getElem?
  intro i;rw [Za];by_cases hi:i<ts.length
  ·have:=nc (Zy hi)
   rw [Zy hi];unfold dN;rw [Za,List.getElem?_zipIdx,this];simp
  ·rw [Zu (by unfold dN;rw [Zc,List.length_zipIdx,cL,Zh];lia),Zu (by rw [Zh];lia)]
   rfl
 have e:=jo hC (λk:Nat=>PyData.tuple [.int (k:Int),.int (k:Int)]) (λk=>decide ((k:Int)∈iL L) && gp ts k) (λk:Nat=>.sh (.int (k:Int))) (List.range ts.length) ee (by rw [Zh];exact of_eq_true (cJ (by lia))) (by
  intro k hk;rw [ZH]at hk;have m1:g5 false (.int (k:Int)) (.list (nD L))=.ok (.sh (.bool (decide ((k:Int)∈iL L)))):=by
   unfold nD;rw [o7];rfl
  have m2:g5 false (.int (k:Int)) (.list ((ts.map (·.e)).map PyData.int))=.ok (.sh (.bool (gp ts k))):=by
   rw [o7,yF hk];rfl
  refine ⟨?_,λ_=>?_⟩
  ·cases hd:decide ((k:Int)∈iL L) with
   |true =>
    rw [hd]at m1;push_cast only [m1,m2];rfl
   |false =>
    rw [hd]at m1;push_cast only [m1,m2];rfl
  ·push_cast only [and_self])
 subst e;clear hC;push_cast only [and_self];rw [gJ]
end
theorem qR:∀(m:Nat) (ks:List Nat),ks.Nodup->(∀k∈ks,k<m)->ks.length<=m:=by
 intro m
 induction m with
 |zero =>
  intro ks _ h;cases ks with
  |nil=>exact Zn _
  |cons a r=>have:=h a Zf;lia
 |succ m ih =>
  intro ks nd h;have h1:=ih (ks.erase m) (nd.erase m) λk hk=>by
   have h2:=(List.Nodup.mem_erase_iff nd).mp hk;have:=h k h2.2;have h3:k≠m:=h2.1
   lia
  by_cases hm:m∈ks
  ·rw [List.length_erase_of_mem hm]at h1
   lia
  ·rw [List.erase_of_not_mem hm]at h1
   lia
noncomputable def fk (ks:List Nat):List (Key×PyData):=ks.map λk:Nat=>(.inl (k:Int),.bool true)
theorem Df (ks:List Nat) (k:Nat):putD (fk ks) (.inl (k:Int)) (.bool true)=fk (if ks.contains k=true then ks else ks++[k]):=by
 unfold putD;by_cases h:k∈ks
 ·rw [if_pos (List.contains_iff_mem.mpr h),if_pos]
  ·unfold fk
   rw [Zi];refine Zt λq _=>?_
   show (if (Sum.inl (q:Int):Key)=.inl (k:Int) then ((Sum.inl (q:Int):Key),PyData.bool true) else (.inl (q:Int),.bool true))=_
   split <;> rfl
  ·rw [List.any_eq_true]
   exact ⟨_,ZC.mpr ⟨k,h,rfl⟩,decide_eq_true rfl⟩
 ·rw [if_neg (λz=>h (List.contains_iff_mem.mp z)),if_neg]
  ·unfold fk
   rw [Zl];rfl
  ·rw [Bool.not_eq_true,List.any_eq_false]
   intro p hp;obtain ⟨q,hq,rfl⟩:=ZC.mp hp;rw [decide_eq_true_eq];intro z;have:=Sum.inl.inj z;exact h (by rw [show k=q by lia];exact hq)
noncomputable def Ba (rw_:List PyData) (m:Nat):Prop:=∀k,k<m->∃z x y,atI rw_ (k:Int)=some (.tuple [.int z,x,y])/\-1<=z/\z<(k:Int)
theorem As (R:List PyData) (m:Nat) (hm:m<=60) (ha:Ba R m) (ns:List Nat) (hn:∀k∈ns,k<m):∃o,dP [.list R,.list (nD ns)]=.ok o:=by
 unfold dP eY;have d0:∀ρ:L3.Env,eD0 ρ=.ok (.od (fk [])):=λ_=>rfl
 push_cast only [d0];generalize hL:cy _ _ _ _=r'
 refine gc hL (λi ρ=>∃(ks:List Nat) (v3 v4:Option OD),ks.Nodup/\(∀k∈ks,k<m)/\ρ=[some (.sh (.list R)),some (.sh (.list (nD ns))),some (.od (fk ks)),v3,v4]) ⟨[],_,_,List.nodup_nil,(λk h=>by cases h),rfl⟩ ?_ ?_
 ·rintro i d ρ hd ⟨ks,v3,v4,nd,hk,rfl⟩
  have hi:i<ns.length:=by
   have:=(Zb.mp hd).1;rw [cL]at this;exact this
  obtain ⟨k,hki⟩:∃k,ns[i]?=some k:=⟨ns[i],by simp⟩
  rw [nc hki]at hd;cases hd;have hkm:=hn k (ZB hki);push_cast only [and_self];generalize hW:gH _ _ _=rw'
  refine uh hW (λq ρ=>∃(ks:List Nat) (z:Int),ks.Nodup/\(∀k∈ks,k<m)/\-1<=z/\z<(m:Int)/\q=(z+1).toNat/\ρ=[some (.sh (.list R)),some (.sh (.list (nD ns))),some (.od (fk ks)),some (.sh (.int (k:Int))),some (.sh (.int z))]) (k+1) ⟨ks,(k:Int),nd,hk,by lia,by lia,by lia,rfl⟩
   (fun ρ=>∃(ks:List Nat) (v4:Option OD),ks.Nodup/\(∀k∈ks,k<m)/\ρ=[some (.sh (.list R)),some (.sh (.list (nD ns))),some (.od (fk ks)),some (.sh (.int (k:Int))),v4]) ?_ ?_
  ·rintro q ρ ⟨ks,z,nd,hk,z0,z1,rfl,rfl⟩
   by_cases hz:z=-1
   ·left
    subst hz;constructor
    ·push_cast only [and_self]
    ·exact ⟨ks,_,nd,hk,rfl⟩
   ·right
    obtain ⟨j,hj⟩:∃j:Nat,z=(j:Int):=⟨z.toNat,by lia⟩
    subst hj;obtain ⟨y,x1,x2,at1,y0,y1⟩:=ha j (by lia)
    have dz:decide ((j:Int)=-1)=false:=decide_eq_false (by lia)
    have kl:=qR m ks nd hk;have lb:((fk ks).length<BIG)=True:=by unfold fk;rw [Zc];exact ja (by lia)
    have pf:=Df ks j;constructor
    ·push_cast only [dz]
    ·push_cast only [xD,xu,lb,pf,at1]
     refine ⟨_,?_,(if ks.contains j=true then ks else ks++[j]),y,?_,?_,y0,by lia,rfl,rfl⟩
     ·lia
     ·split
      ·exact nd
      ·rename_i hc
       refine ZK.mpr ⟨nd,List.nodup_cons.mpr ⟨by simp,List.nodup_nil⟩,λa h b hb e=>?_⟩
       rw [List.mem_singleton]at hb;subst e hb;exact hc (List.contains_iff_mem.mpr h)
     ·intro a h
      split at h
      ·exact hk a h
      ·rcases Zs.mp h with h | h
       ·exact hk a h
       ·rw [List.mem_singleton]at h
        lia
  ·rintro ρ' rfl ⟨ks',v4',nd',hk',rfl⟩
   push_cast only [and_self];exact ⟨ks',_,_,nd',hk',rfl⟩
 ·rintro ρ' rfl ⟨ks,v3,v4,nd,hk,rfl⟩
  have kl:=qR m ks nd hk;have lo:xr [dD (fk ks)]=.ok (.ol (nO ks)):=by
   rw [AG];unfold fk nO nD iL;rw [Zi,Zi,Zi,Zi];rfl
  have so:zK [.list (nD ks)]=.ok (.ol (((lD (iL ks)).map PyData.int).map OD.sh)):=by
   show (match dZ ((iL ks).map PyData.int) with
    |some ns=>if ns.length<64 then L3.R.ok (OD.ol (((lD ns).map PyData.int).map OD.sh)) else L3.R.bad
    |_=>L3.R.bad)=_
   rw [gL];show (if (iL ks).length<64 then _ else _)=_
   rw [if_pos (by unfold iL;rw [Zc];lia)]
  push_cast only [yL,lo,dM,so];exact ⟨_,rfl⟩
theorem sy {ts:List Nd} (he:EL ts) {fl:Nat->Bool}:Ba (c_ ts (seen ts fl)) (seen ts fl).length:=λi hi=>by
 obtain ⟨k,hk⟩:∃k,(seen ts fl)[i]?=some k:=⟨(seen ts fl)[i],by simp⟩
 have km:=ZB hk;have kt:=ka km;refine ⟨_,_,_,dj (by unfold c_;rw [Za,hk];rfl),?_,?_⟩
 ·split <;> lia
 ·rcases elt he kt with ⟨z,_⟩ | ⟨j,z,hj⟩
  ·rw [if_pos (by lia)]
   lia
  ·rw [if_neg (by lia),z,Int.toNat_natCast]
   have jm:=pK he km (by lia)
   rw [z,Int.toNat_natCast]at jm;have hjl:=List.idxOf_lt_length_iff.mpr jm;have pw:(seen ts fl).Pairwise (·<·):=List.Pairwise.filter _ List.pairwise_lt_range;by_cases hlt:(seen ts fl).idxOf j<i
   ·lia
   ·exfalso
    have e1:=List.getElem_idxOf hjl;obtain ⟨hi',e2⟩:=Zb.mp hk;by_cases he:(seen ts fl).idxOf j=i
    ·have:(seen ts fl)[(seen ts fl).idxOf j]=(seen ts fl)[i]:=by congr 1
     rw [e1,e2]at this
     lia
    ·have:=List.pairwise_iff_getElem.mp pw i _ hi' hjl (by lia)
     rw [e1,e2]at this
     lia
noncomputable def d8 (fl:Nat->Bool) (k:Nat) (b:Bool) (j:Nat):Bool:=if j=k then b else fl j
noncomputable def OkF (ts:List Nd) (fl:Nat->Bool):Prop:=∀k,k<ts.length->fl k=true->gp ts k=true
theorem ua {ts:List Nd} {fl:Nat->Bool} (h:OkF ts fl) {k:Nat} {b:Bool} (hk:b=true->gp ts k=true):OkF ts (d8 fl k b):=λj hj e=>by
 unfold d8 at e;split at e
 ·rename_i z
  rw [z];exact hk e
 ·exact h j hj e
noncomputable def chg (ts:List Nd):PyData:=.tuple [.list (av ts),.list (nD (List.range ts.length))]
theorem pF (n:Nat) {k:Nat} (h:k<n):atI (nD (List.range n)) (k:Int)=some (.int (k:Int)):=dj (nc (Zy h))
theorem oV {ts:List Nd} (he:EL ts) (hl:ts.length<=40) (g:Int) (fl fl2:Nat->Bool) (an:PyData) (L:List Nat) (hL:(List.range ts.length).filter (λk:Nat=>decide ((k:Int)∈iL L) && gp ts k)=fdL ts fl2) (k:Nat) :
  ∃an2,c8 8 aM (.oi none "Easel" (aO ts g fl an)) [chg ts,.list (nD L),.list [.int (k:Int)]] (.oi none "Easel" (aO ts g fl2 an2),.sh .none):=by
 have hsl:=nF ts fl2;obtain ⟨o,ho⟩:=As (c_ ts (seen ts fl2)) (seen ts fl2).length (by lia) (sy he) ((List.range (seen ts fl2).length).filter λi=>(decide (((((seen ts fl2)[i]?).getD 0:Nat):Int)∈[(k:Int)]) || !decide (((((seen ts fl2)[i]?).getD 0:Nat):Int)∈iL (seen ts fl)))) (λi hi=>ZH.mp (List.mem_filter.mp hi).1)
 refine ⟨o.er,rfl,λa=>?_⟩
 have hn:df "seen" ((aO ts g fl an).map λp=>(.tuple [.str p.1],p.2))=none:=pS (by decide +kernel) (by decide +kernel) (by decide +kernel) (by decide +kernel)
 have hn2:df "seen" ((aO ts g fl2 an).map λp=>(.tuple [.str p.1],p.2))=none:=pS (by decide +kernel) (by decide +kernel) (by decide +kernel) (by decide +kernel)
 have l1:∀(ρ:L3.Env),ρ[0]?=some (some (.oi (some a) "Easel" (aO ts g fl an)))->kG 0 (eSh (de (λnm=>List.lookup nm [("Easel",aF)]) "seen" (af 0) au)) ρ=.ok (.sh (dm ts fl)):=fun ρ h=>by
  have hlt:=(Zb.mp h).1;rw [wN,h];show unK _ (eSh _ (ρ.set 0 (some (.sh (esD ts g fl an)))))=_
  rw [Ea,iP (r:=.ok (i4 ts fl)) hn (qa he (by lia)) (List.getElem?_set_self hlt)]
  show (if noD (i4 ts fl).er=true then R.ok (OD.sh (i4 ts fl).er) else .bad)=_
  rw [nK,if_pos (qP ts fl)]
 have l2:∀(ρ:L3.Env),ρ[0]?=some (some (.oi (some a) "Easel" (aO ts g fl2 an)))->kG 0 (eSh (de (λnm=>List.lookup nm [("Easel",aF)]) "seen" (af 0) au)) ρ=.ok (.sh (dm ts fl2)):=fun ρ h=>by
  have hlt:=(Zb.mp h).1;rw [wN,h];show unK _ (eSh _ (ρ.set 0 (some (.sh (esD ts g fl2 an)))))=_
  rw [Ea,iP (r:=.ok (i4 ts fl2)) hn2 (qa he (by lia)) (List.getElem?_set_self hlt)]
  show (if noD (i4 ts fl2).er=true then R.ok (OD.sh (i4 ts fl2).er) else .bad)=_
  rw [nK,if_pos (qP ts fl2)]
 have kp:=zH (ts:=ts) (by lia) L
 rw [hL]at kp;have p1:cu "tree" (.list (av ts)) (aO ts g fl an)=aO ts g fl an:=by
  unfold aO cu;rw [if_pos rfl]
 have p2:cu "folds" (.list (nD (fdL ts fl2))) (aO ts g fl an)=aO ts g fl2 an:=by
  unfold aO;rw [cu,if_neg (by decide +kernel),cu,if_neg (by decide +kernel),cu,if_pos rfl]
 have p3:cu "anew" o.er (aO ts g fl2 an)=aO ts g fl2 o.er:=by
  unfold aO;rw [cu,if_neg (by decide +kernel),cu,if_neg (by decide +kernel),cu,if_neg (by decide +kernel),cu,if_pos rfl]
 have fl4:∀fl:Nat->Bool,(aO ts g fl an).length<1000:=λfl=>by unfold aO;exact (show (4:Nat)<1000 by decide)
 have tb:decide (("Easel" : Str) = "Easel")=true:=by decide +kernel
 have i1:atI [PyData.list (c_ ts (seen ts fl)),.list (nD (seen ts fl))] 1=some (.list (nD (seen ts fl))):=rfl;have i2:atI [PyData.list (c_ ts (seen ts fl2)),.list (nD (seen ts fl2))] 1=some (.list (nD (seen ts fl2))):=rfl;have i3:atI [PyData.list (c_ ts (seen ts fl2)),.list (nD (seen ts fl2))] 0=some (.list (c_ ts (seen ts fl2))):=rfl;have c0:atI [PyData.list (av ts),.list (nD (List.range ts.length))] 0=some (.list (av ts)):=rfl;have c1:atI [PyData.list (av ts),.list (nD (List.range ts.length))] 1=some (.list (nD (List.range ts.length))):=rfl;have e6:∀(x0 x4 x5 x6 x7:Option OD),dH (gY (eOp gIx (af 5) (eC (.int 1)))) (gNm 0) h_ (eOp gIx (eOp gIx (af 1) (eC (.int 1))) (af 0)) 1 [1] [x0,some (.sh (chg ts)),some (.sh (.list (nD L))),some (.sh (.list [.int (k:Int)])),x4,some (.sh (dm ts fl2)),x6,x7]=.ok (.ol (nO (seen ts fl2))):=λx0 x4 x5 x6 x7=>by
  unfold dm chg;push_cast only [i2];generalize hC:cK _ _ _ _ _ _=rc
  have e:=jS hC (λq:Nat=>PyData.int (q:Int)) (λq:Nat=>OD.sh (.int (q:Int))) (seen ts fl2) (by unfold nD iL;rw [Zi];rfl) (of_eq_true (cJ (by lia))) (by
   intro q hq;have rg:=pF ts.length (ka hq);push_cast only [c1,rg])
  subst e;push_cast only [and_self];rw [gJ]
 have e7:∀(x0 x5 x7:Option OD),dH (iEn (af 6)) (gTp 2 (bK (gNm 0) (bK (gNm 1) gm))) (kP (ay (eOp (g5 false) (af 1) (af 2))) (ay (eOp (g5 true) (af 1) (af 3)))) (af 0) 2 [3,4] [x0,some (.sh (chg ts)),some (.sh (.list (nD L))),some (.sh (.list [.int (k:Int)])),some (.sh (.list (nD (seen ts fl)))),x5,some (.sh (.list (nD (seen ts fl2)))),x7]=.ok (.ol (nO ((List.range (seen ts fl2).length).filter λi=>(decide (((((seen ts fl2)[i]?).getD 0:Nat):Int)∈[(k:Int)]) || !decide (((((seen ts fl2)[i]?).getD 0:Nat):Int)∈iL (seen ts fl)))))):=λx0 x5 x7=>by
  push_cast only [and_self];generalize hC:cK _ _ _ _ _ _=rc
  have ee:dN (nD (seen ts fl2))=(List.range (seen ts fl2).length).map λi:Nat=>PyData.tuple [.int (i:Int),.int ((((seen ts fl2)[i]?).getD 0:Nat):Int)]:=by
   apply List.ext_getElem?
   intro i;rw [Za];by_cases hi:i<(seen ts fl2).length
   ·obtain ⟨q,hq⟩:∃q,(seen ts fl2)[i]?=some q:=⟨(seen ts fl2)[i],by simp⟩
    rw [Zy hi];unfold dN;rw [Za,List.getElem?_zipIdx,nc hq];simp [hq]
   ·rw [Zu (by unfold dN;rw [Zc,List.length_zipIdx,cL];lia),Zu (by rw [Zh];lia)]
    rfl
  have e:=jo hC (λi:Nat=>PyData.tuple [.int (i:Int),.int ((((seen ts fl2)[i]?).getD 0:Nat):Int)]) (λi=>(decide (((((seen ts fl2)[i]?).getD 0:Nat):Int)∈[(k:Int)]) || !decide (((((seen ts fl2)[i]?).getD 0:Nat):Int)∈iL (seen ts fl)))) (λi:Nat=>.sh (.int (i:Int))) (List.range (seen ts fl2).length) ee (by rw [Zh];exact of_eq_true (cJ (by lia))) (by
   intro i hi;generalize ((seen ts fl2)[i]?).getD 0=q
   have m1:g5 false (.int (q:Int)) (.list [.int (k:Int)])=.ok (.sh (.bool (decide ((q:Int)∈[(k:Int)])))):=o7 false (q:Int) [(k:Int)];have m2:g5 true (.int (q:Int)) (.list (nD (seen ts fl)))=.ok (.sh (.bool (!decide ((q:Int)∈iL (seen ts fl))))):=o7 true (q:Int) (iL (seen ts fl));refine ⟨?_,λ_=>?_⟩
   ·cases hd:decide ((q:Int)∈[(k:Int)]) with
    |true =>
     rw [hd]at m1;push_cast only [m1,m2];rfl
    |false =>
     rw [hd]at m1;push_cast only [m1,m2];rfl
   ·push_cast only [and_self])
  subst e;push_cast only [and_self];rw [gJ]
 unfold aM;show ∃ρ',eS _ _ [some (.oi (some a) "Easel" (aO ts g fl an)),some (.sh (chg ts)),some (.sh (.list (nD L))),some (.sh (.list [.int (k:Int)])),none,none,none,none]=.ok (ρ',.sh .none)/\_
 have a1:∀(f:Str) (y:OD) (ds:List (Str×PyData)) (ρ:L3.Env),ds.length<1000->tE 0 (λnm=>decide (nm = "Easel")) f ρ y (some (some (.oi (some a) "Easel" ds)))=.ok (.nx (ρ.set 0 (some (.oi (some a) "Easel" (cu f y.er ds))))):=λf y ds ρ h=>wK tb h
 have f1:=fl4 fl;have f2:=fl4 fl2;have q1:=l1 [some (.oi (some a) "Easel" (aO ts g fl an)),some (.sh (chg ts)),some (.sh (.list (nD L))),some (.sh (.list [.int (k:Int)])),none,none,none,none] rfl;have q2:=l2 [some (.oi (some a) "Easel" (aO ts g fl2 an)),some (.sh (chg ts)),some (.sh (.list (nD L))),some (.sh (.list [.int (k:Int)])),some (.sh (.list (nD (seen ts fl)))),none,none,none] rfl;have kp':dF [chg ts,.list (nD L)]=.ok (.ol (nO (fdL ts fl2))):=kp;have g1:gIx (dm ts fl) (.int 1)=.ok (.sh (.list (nD (seen ts fl)))):=by unfold dm;push_cast only [i1]
 have g2:gIx (dm ts fl2) (.int 0)=.ok (.sh (.list (c_ ts (seen ts fl2)))):=by unfold dm;push_cast only [i3]
 have g3:gIx (chg ts) (.int 0)=.ok (.sh (.list (av ts))):=by unfold chg;push_cast only [c0]
 have e6':=λx0 x4 x6 x7=>e6 x0 x4 none x6 x7
 push_cast only [iE,ig,oM,xq,↓q1,g1,g3,a1,f1,p1,kp',dM,p2,↓q2,↓e6',↓e7,g2,ho,f2,p3];exact ⟨_,rfl,rfl⟩
section
variable {n i:Nat} {b:Fb} {al:Fa} {ρ:L3.Env} {p:Option Addr} {nm m:Str} {ds ds':List (Str×PyData)} {ys:List OD} {y:OD}
theorem oF (h:ρ[i]?=some (some (.oi p nm ds))) (ha:al ρ=.ok ys) (hr:c8 n b (.oi none nm ds) (ys.map OD.er) (.oi none nm ds',y)):nQ n i b al ρ=.ok (ρ.set i (some (.oi p nm ds')),y):=by
 unfold nQ;rw [h];show (al ρ).bind (λys=>(iR n b (.oi none nm ds) (ys.map OD.er)).bind λr=>.ok (ρ.set i (some (nB (.oi p nm ds) r.1)),r.2))=_
 rw [ha,aV,qV hr,aV];rfl
theorem oW (h:ρ[i]?=some (some (.oi p nm ds))) (ha:al ρ=.ok ys) (hr:c8 n b (.oi none nm ds) (ys.map OD.er) (.oi none nm ds',y)):gi n i b al ρ=.ok (.nx (ρ.set i (some (.oi p nm ds')))):=by
 unfold gi;rw [oF h ha hr];rfl
theorem jr (h:ρ[i]?=some (some (.oi p nm ds))) (hm:df m (ds.map λq=>(.tuple [.str q.1],q.2))=none) (ha:al ρ=.ok ys) (hr:c8 n b (.oi none nm ds) (ys.map OD.er) (.oi none nm ds',y)):ik nm m n i b al ρ=.ok (.nx (ρ.set i (some (.oi p nm ds')))):=by
 unfold ik;rw [h];show (if nm=nm/\df m (ds.map λq=>(.tuple [.str q.1],q.2))=none then gi n i b al ρ else .bad)=_
 rw [if_pos ⟨rfl,hm⟩,oW h ha hr]
end
section
variable {ts:List Nd} {g:Int} {fl:Nat->Bool} {an:PyData} {k:Nat}
theorem ye {ρ:L3.Env} {p:Option Addr} (h:ρ[0]?=some (some (.oi p "Easel" (aO ts g fl an)))):fj 0 (λnm=>decide (nm = "Easel")) "tree" ρ=.ok (.sh (.list (av ts))):=by
 rw [yh,h];have h1:df "tree" ((aO ts g fl an).map λp=>(.tuple [.str p.1],p.2))=some (.list (av ts)):=mP
 have tb:decide (("Easel" : Str) = "Easel")=true:=by decide +kernel
 show (match df "tree" ((aO ts g fl an).map λq=>(.tuple [.str q.1],q.2)) with
  |some d=>if decide (("Easel" : Str) = "Easel")=true then R.ok (OD.sh d) else .bad
  |none=>.bad)=_
 rw [h1];exact if_pos tb
theorem ug {ρ:L3.Env} {p:Option Addr} (h:ρ[0]?=some (some (.oi p "Easel" (aO ts g fl an)))):fj 0 (λnm=>decide (nm = "Easel")) "folds" ρ=.ok (.sh (.list (nD (fdL ts fl)))):=by
 rw [yh,h];have h1:df "folds" ((aO ts g fl an).map λp=>(.tuple [.str p.1],p.2))=some (.list (nD (fdL ts fl))):=ky
 have tb:decide (("Easel" : Str) = "Easel")=true:=by decide +kernel
 show (match df "folds" ((aO ts g fl an).map λq=>(.tuple [.str q.1],q.2)) with
  |some d=>if decide (("Easel" : Str) = "Easel")=true then R.ok (OD.sh d) else .bad
  |none=>.bad)=_
 rw [h1];exact if_pos tb
theorem wC (hF:OkF ts fl) (hk:k<ts.length) (b:Bool) (hb:b=true->gp ts k=true) (L:List Nat) (hL:∀j,j<ts.length->(decide ((j:Int)∈iL L))=d8 fl k b j):(List.range ts.length).filter (λk:Nat=>decide ((k:Int)∈iL L) && gp ts k)=fdL ts (d8 fl k b):=by
 unfold fdL;refine List.filter_congr λj hj=>?_
 rw [ZH]at hj;rw [hL j hj];have:=ua hF (k:=k) hb j hj;cases h1:d8 fl k b j with
 |false=>rfl
 |true=>rw [this h1];rfl
theorem lI:df "settle" ((aO ts g fl an).map λp=>(.tuple [.str p.1],p.2))=none:=pS (by decide +kernel) (by decide +kernel) (by decide +kernel) (by decide +kernel)
theorem v_ {L:List Nat} {j:Nat}:(j:Int)∈iL L ↔ j∈L:=by
 unfold iL;rw [ZC];constructor
 ·rintro ⟨q,h1,h2⟩
  rw [show j=q by lia]
  exact h1
 ·exact λh=>⟨j,h,rfl⟩
theorem yW (he:EL ts) (hl:ts.length<=40) (hF:OkF ts fl) (hk:k<ts.length) (h1:fl k=false) (h2:gp ts k=true) :
  ∃an2,c8 2 bM (.oi none "Easel" (aO ts g fl an)) [.int (k:Int)] (.oi none "Easel" (aO ts g (d8 fl k true) an2),.sh .none):=by
 have hL:=wC hF hk true (λ_=>h2) (fdL ts fl++[k]) (λj hj=>by
  rw [Bool.eq_iff_iff,decide_eq_true_eq,v_,Zs,List.mem_singleton];unfold fdL d8;rw [List.mem_filter,ZH];by_cases z:j=k
  ·rw [if_pos z];simp [z]
  ·rw [if_neg z];simp [z,hj])
 obtain ⟨an2,hs⟩:=oV he hl g fl (d8 fl k true) an (fdL ts fl++[k]) hL k;refine ⟨an2,rfl,λa=>?_⟩
 unfold bM;show ∃ρ',eS _ _ [some (.oi (some a) "Easel" (aO ts g fl an)),some (.sh (.int (k:Int)))]=.ok (ρ',.sh .none)/\_
 have ot:=ye (ts:=ts) (g:=g) (fl:=fl) (an:=an) (ρ:=[some (.oi (some a) "Easel" (aO ts g fl an)),some (.sh (.int (k:Int)))]) rfl;have of:=ug (ts:=ts) (g:=g) (fl:=fl) (an:=an) (ρ:=[some (.oi (some a) "Easel" (aO ts g fl an)),some (.sh (.int (k:Int)))]) rfl;have hne:chN ts k≠[]:=λz=>by unfold gp at h2;rw [z]at h2;cases h2
 have cf:=wO (ts:=ts) (fl:=fl) (by lia) hk h1 hne
 have un:=sZ (ts:=ts) (by lia)
 have fl0:(fdL ts fl).length<=ts.length:=by
  have:=List.length_filter_le fl (List.range ts.length);rw [Zh]at this;exact this
 have lb:((nD (fdL ts fl)).length+1<=BIG)=True:=cJ (by rw [cL];lia)
 have ad:nD (fdL ts fl)++[PyData.int (k:Int)]=nD (fdL ts fl++[k]):=by unfold nD iL;rw [Zl,Zl];rfl
 have ar:(ag (aT bR (ag (fj 0 (λnm=>decide (nm = "Easel")) "tree") au)) (ag (eOp gj (fj 0 (λnm=>decide (nm = "Easel")) "folds") (fJ (ag (af 1) au))) (ag (fJ (ag (af 1) au)) au))) [some (.oi (some a) "Easel" (aO ts g fl an)),some (.sh (.int (k:Int)))]=.ok [.sh (chg ts),.ol ((nD (fdL ts fl++[k])).map OD.sh),.ol [.sh (.int (k:Int))]]:=by
  push_cast only [↓ot,↓of,un,lb,ad];rfl
 have mr:=jr (n:=8) (i:=0) (b:=aM) (p:=some a) (nm := "Easel") (m := "settle") (ρ:=[some (.oi (some a) "Easel" (aO ts g fl an)),some (.sh (.int (k:Int)))]) rfl lI ar (y:=.sh .none) (ds':=aO ts g (d8 fl k true) an2) (by
  show c8 8 aM _ [(OD.sh (chg ts)).er,(OD.ol ((nD (fdL ts fl++[k])).map OD.sh)).er,(OD.ol [OD.sh (.int (k:Int))]).er] _
  rw [cq,gk,cV,gk,Zk,List.map_nil,cq];exact hs)
 push_cast only [iE,ig,oM,↓ot,↓of,cf,↓mr];exact ⟨_,rfl,rfl⟩
theorem sH (he:EL ts) (hl:ts.length<=40) (hF:OkF ts fl) (hk:k<ts.length) (h1:fl k=true) :
  ∃an2,c8 2 bj (.oi none "Easel" (aO ts g fl an)) [.int (k:Int)] (.oi none "Easel" (aO ts g (d8 fl k false) an2),.sh .none):=by
 have hL:=wC hF hk false (λz=>by cases z) ((fdL ts fl).filter λj=>!decide (j=k)) (λj hj=>by
  rw [Bool.eq_iff_iff,decide_eq_true_eq,v_,List.mem_filter];unfold fdL d8;rw [List.mem_filter,ZH];by_cases z:j=k
  ·rw [if_pos z];simp [z]
  ·rw [if_neg z];simp [z,hj])
 obtain ⟨an2,hs⟩:=oV he hl g fl (d8 fl k false) an ((fdL ts fl).filter λj=>!decide (j=k)) hL k
 refine ⟨an2,rfl,λa=>?_⟩
 unfold bj;show ∃ρ',eS _ _ [some (.oi (some a) "Easel" (aO ts g fl an)),some (.sh (.int (k:Int)))]=.ok (ρ',.sh .none)/\_
 have ot:=ye (ts:=ts) (g:=g) (fl:=fl) (an:=an) (ρ:=[some (.oi (some a) "Easel" (aO ts g fl an)),some (.sh (.int (k:Int)))]) rfl;have of:=ug (ts:=ts) (g:=g) (fl:=fl) (an:=an) (ρ:=[some (.oi (some a) "Easel" (aO ts g fl an)),some (.sh (.int (k:Int)))]) rfl;have cf:=zR (ts:=ts) (fl:=fl) hk h1;have un:=sZ (ts:=ts) (by lia)
 have fl0:(fdL ts fl).length<=ts.length:=by
  have:=List.length_filter_le fl (List.range ts.length);rw [Zh]at this;exact this
 have cm:dH (gY (fj 0 (λnm=>decide (nm = "Easel")) "folds")) (gNm 0) (ay (eOp gNe (af 0) (af 1))) (af 0) 1 [1] [some (.oi (some a) "Easel" (aO ts g fl an)),some (.sh (.int (k:Int)))]=.ok (.ol (nO ((fdL ts fl).filter λj=>!decide (j=k)))):=by
  push_cast only [↓of];generalize hC:cK _ _ _ _ _ _=rc
  have e:=jo hC (λq:Nat=>PyData.int (q:Int)) (λq=>!decide (q=k)) (λq:Nat=>OD.sh (.int (q:Int))) (fdL ts fl) (by unfold nD iL;rw [Zi];rfl) (of_eq_true (cJ (by lia))) (by
   intro q hq;have ed:decide ((q:Int)=(k:Int))=decide (q=k):=by
    by_cases z:q=k
    ·subst z;simp
    ·rw [decide_eq_false z,decide_eq_false (by lia)]
   refine ⟨?_,λ_=>?_⟩
   ·push_cast only [ed]
   ·push_cast only [and_self])
  subst e;push_cast only [and_self];rw [gJ]
 have ar:(ag (aT bR (ag (fj 0 (λnm=>decide (nm = "Easel")) "tree") au)) (ag (dH (gY (fj 0 (λnm=>decide (nm = "Easel")) "folds")) (gNm 0) (ay (eOp gNe (af 0) (af 1))) (af 0) 1 [1]) (ag (fJ (ag (af 1) au)) au))) [some (.oi (some a) "Easel" (aO ts g fl an)),some (.sh (.int (k:Int)))]=.ok [.sh (chg ts),.ol (nO ((fdL ts fl).filter λj=>!decide (j=k))),.ol [.sh (.int (k:Int))]]:=by
  push_cast only [↓ot,↓cm,un];rfl
 have mr:=jr (n:=8) (i:=0) (b:=aM) (p:=some a) (nm := "Easel") (m := "settle") (ρ:=[some (.oi (some a) "Easel" (aO ts g fl an)),some (.sh (.int (k:Int)))]) rfl lI ar (y:=.sh .none) (ds':=aO ts g (d8 fl k false) an2) (by
  show c8 8 aM _ [(OD.sh (chg ts)).er,(OD.ol (nO ((fdL ts fl).filter λj=>!decide (j=k)))).er,(OD.ol [OD.sh (.int (k:Int))]).er] _
  rw [cq,gk,dM,gk,Zk,List.map_nil,cq];exact hs)
 push_cast only [iE,ig,oM,↓ot,↓of,cf,↓mr];exact ⟨_,rfl,rfl⟩
end
noncomputable def bL (b:Bool) (k:Nat):PyData:=.tuple [.str (if b then "fold" else "unfold"),.int (k:Int)]
noncomputable def cY (ts:List Nd) (fl:Nat->Bool) (b:Bool) (k:Nat):Bool:=gp ts k && (fl k == !b)
theorem rR:decide (("fold" : Str) = "fold")=true:=by decide +kernel
theorem si:decide (("unfold" : Str) = "fold")=false:=by decide +kernel
theorem vD:decide (("unfold" : Str) = "unfold")=true:=by decide +kernel
theorem Ge:decide (("fold" : Str) = "unfold")=false:=by decide +kernel
section
variable {ts:List Nd} {g:Int} {fl:Nat->Bool} {an:PyData} {k:Nat}
theorem gf {m:Str} (h:m = "fold" \/ m = "unfold" \/ m = "seen" \/ m = "whole" \/ m = "folded"):df m ((aO ts g fl an).map λp=>(.tuple [.str p.1],p.2))=none:=by
 rcases h with rfl | rfl | rfl | rfl | rfl <;> exact pS (by decide +kernel) (by decide +kernel) (by decide +kernel) (by decide +kernel)
theorem EE (he:EL ts) (hl:ts.length<=40) (hF:OkF ts fl) (hk:k<ts.length) (b:Bool) (h:cY ts fl b k=true) :
  ∃an2,c8 2 cB (.oi none "Easel" (aO ts g fl an)) [bL b k] (.oi none "Easel" (aO ts g (d8 fl k b) an2),.sh .none):=by
 unfold cY at h;rw [Zv]at h;obtain ⟨h1,h2⟩:=h;cases b with
 |true =>
  have hf:fl k=false:=by simpa using h2
  obtain ⟨an2,hs⟩:=yW (g:=g) (an:=an) he hl hF hk hf h1;refine ⟨an2,rfl,λa=>?_⟩
  unfold cB;show ∃ρ',eS _ _ [some (.oi (some a) "Easel" (aO ts g fl an)),some (.sh (.tuple [.str "fold",.int (k:Int)]))]=.ok (ρ',.sh .none)/\_
  have mr:=jr (n:=2) (i:=0) (b:=bM) (al:=ag (eOp gIx (af 1) (eC (.int 1))) au) (p:=some a) (nm := "Easel") (m := "fold") (ρ:=[some (.oi (some a) "Easel" (aO ts g fl an)),some (.sh (.tuple [.str "fold",.int (k:Int)]))]) rfl (gf (.inl rfl)) (ys:=[.sh (.int (k:Int))]) (by push_cast only [and_self]) (y:=.sh .none) (ds':=aO ts g (d8 fl k true) an2) (by
   show c8 2 bM _ [(OD.sh (.int (k:Int))).er] _
   rw [cq];exact hs)
  push_cast only [iE,ig,oM,rR,↓mr];exact ⟨_,rfl,rfl⟩
 |false =>
  have hf:fl k=true:=by simpa using h2
  obtain ⟨an2,hs⟩:=sH (g:=g) (an:=an) he hl hF hk hf;refine ⟨an2,rfl,λa=>?_⟩
  unfold cB;show ∃ρ',eS _ _ [some (.oi (some a) "Easel" (aO ts g fl an)),some (.sh (.tuple [.str "unfold",.int (k:Int)]))]=.ok (ρ',.sh .none)/\_
  have mr:=jr (n:=2) (i:=0) (b:=bj) (al:=ag (eOp gIx (af 1) (eC (.int 1))) au) (p:=some a) (nm := "Easel") (m := "unfold") (ρ:=[some (.oi (some a) "Easel" (aO ts g fl an)),some (.sh (.tuple [.str "unfold",.int (k:Int)]))]) rfl (gf (.inr (.inl rfl))) (ys:=[.sh (.int (k:Int))]) (by push_cast only [and_self]) (y:=.sh .none) (ds':=aO ts g (d8 fl k false) an2) (by
   show c8 2 bj _ [(OD.sh (.int (k:Int))).er] _
   rw [cq];exact hs)
  push_cast only [iE,ig,oM,si,vD,↓mr];exact ⟨_,rfl,rfl⟩
theorem w6 (he:EL ts) (hl:ts.length<=40) (hF:OkF ts fl) (hk:k<ts.length) (b:Bool) (h:cY ts fl b k=true) :
  ∃an2,c8 4 aX (.oi none "Easel" (aO ts g fl an)) [bL b k] (.oi none "Easel" (aO ts g (d8 fl k b) an2),.sh (.int 0)):=by
 obtain ⟨an2,hs⟩:=EE (g:=g) (an:=an) he hl hF hk b h;refine ⟨an2,rfl,λa=>?_⟩
 unfold aX;show ∃ρ',eS _ _ [some (.oi (some a) "Easel" (aO ts g fl an)),some (.sh (bL b k)),none,none]=.ok (ρ',.sh (.int 0))/\_
 have mr:=oW (n:=2) (i:=0) (b:=cB) (al:=ag (af 1) au) (p:=some a) (nm := "Easel") (ρ:=[some (.oi (some a) "Easel" (aO ts g fl an)),some (.sh (bL b k)),none,none]) rfl (ys:=[.sh (bL b k)]) (by push_cast only [and_self]) (y:=.sh .none) (ds':=aO ts g (d8 fl k b) an2) (by
  show c8 2 cB _ [(OD.sh (bL b k)).er] _
  rw [cq];exact hs)
 have tr:qN (gi 2 0 cB (ag (af 1) au)) [some (.oi (some a) "Easel" (aO ts g fl an)),some (.sh (bL b k)),none,none]=.ok (.nx [some (.oi (some a) "Easel" (aO ts g (d8 fl k b) an2)),some (.sh (bL b k)),none,none]):=by
  unfold qN;rw [mr];rfl
 push_cast only [iE,ig,sG,↓tr];exact ⟨_,rfl,rfl⟩
theorem t5 {m:Str} {f:Fn} {r:R OD} {z:Int} {ρ:L3.Env} (hm:df m ((aO ts g fl an).map λp=>(.tuple [.str p.1],p.2))=none) (hr:f [esD ts g fl an,.int z]=r) (h:ρ[0]?=some (some (.sh (esD ts g fl an)))) (ha:ag (eOp gIx (af 1) (eC (.int 1))) au ρ=.ok [.sh (.int z)]) :
  de (λnm=>List.lookup nm [("Easel",f)]) m (af 0) (ag (eOp gIx (af 1) (eC (.int 1))) au) ρ=r:=by
 have hv:af 0 ρ=.ok (.sh (esD ts g fl an)):=by
  unfold af;rw [h]
 have h4:ow m (esD ts g fl an)=none:=hm;have h3:gS (esD ts g fl an)=some ("Easel" : Str):=rfl;unfold de;rw [hv,aV,cq];simp only [h3,h4];have:List.lookup ("Easel" : Str) [(("Easel" : Str),f)]=some f:=by rw [List.lookup_cons];rfl
 rw [this];show (ag (eOp gIx (af 1) (eC (.int 1))) au ρ).bind (λxs=>f (esD ts g fl an :: xs.map OD.er))=r
 rw [ha,aV,Zk,List.map_nil,cq];exact hr
theorem sV {r:R OD} (h:bZ [.list (av ts),.list (nD (fdL ts fl)),.int (k:Int)]=r) (hr:r=.ex "NoDeed" \/ r=.ok (.sh .none)):cX [esD ts g fl an,.int (k:Int)]=(match r with
  |.ex c=>.ex c
  |_=>.bad):=by
 unfold cX fN;have h1:=mP (ts:=ts) (g:=g) (fl:=fl) (an:=an);have h2:=ky (ts:=ts) (g:=g) (fl:=fl) (an:=an);have h3:gS (esD ts g fl an)=some ("Easel" : Str):=rfl;rcases hr with rfl | rfl
 ·push_cast only [me,qC,h1,h2,h3,h,ma,jU]
 ·push_cast only [me,qC,h1,h2,h3,h,il]
  rfl
theorem zb {r:R OD} (h:bE [.list (av ts),.list (nD (fdL ts fl)),.int (k:Int)]=r) (hr:r=.ex "NoDeed" \/ r=.ok (.sh .none)):cA [esD ts g fl an,.int (k:Int)]=(match r with
  |.ex c=>.ex c
  |_=>.bad):=by
 unfold cA eP;have h1:=mP (ts:=ts) (g:=g) (fl:=fl) (an:=an);have h2:=ky (ts:=ts) (g:=g) (fl:=fl) (an:=an);have h3:gS (esD ts g fl an)=some ("Easel" : Str):=rfl;rcases hr with rfl | rfl
 ·push_cast only [me,qC,h1,h2,h3,h,ma,jU]
 ·push_cast only [me,qC,h1,h2,h3,h,il]
  rfl
end
section
variable {ts:List Nd} {g:Int} {fl:Nat->Bool} {an:PyData} {k:Nat}
theorem uQ (hl:ts.length<=100) (hk:k<ts.length) (h1:fl k=false) (h2:chN ts k≠[]):bZ [.list (av ts),.list (nD (fdL ts fl)),.int (k:Int)]=.ok (.sh .none):=by
 unfold bZ eJ;have ck:=qo (av ts) k (by rw [bu];exact hk)
 have ch:=i6 ts k hk hl;have m:=ll (fl:=fl) hk false;rw [h1]at m;have d:decide (((chN ts k).length:Int)=0)=false:=decide_eq_false (by
  have:(chN ts k).length≠0:=λz=>h2 (List.length_eq_zero_iff.mp z)
  lia)
 push_cast only [ck,m,ch,dM,cL,d]
theorem xO (hk:k<ts.length) (h1:fl k=true):bE [.list (av ts),.list (nD (fdL ts fl)),.int (k:Int)]=.ok (.sh .none):=by
 unfold bE dq;have ck:=qo (av ts) k (by rw [bu];exact hk)
 have m:=ll (fl:=fl) hk true;rw [h1]at m;push_cast only [ck,m]
theorem zk (h:gp ts k=false):chN ts k=[]:=by
 unfold gp at h;cases hc:chN ts k with
 |nil=>rfl
 |cons a r=>rw [hc]at h;cases h
theorem wm (h:gp ts k=true):chN ts k≠[]:=λz=>by unfold gp at h;rw [z]at h;cases h
theorem xdo (hl:ts.length<=40) (hF:OkF ts fl) (hk:k<ts.length) (b:Bool):eR [esD ts g fl an,bL b k]=if cY ts fl b k=true then .bad else .ex "NoDeed" := by
 unfold eR iF;cases b with
 |true =>
  have ha:ag (eOp gIx (af 1) (eC (.int 1))) au [some (.sh (esD ts g fl an)),some (.sh (.tuple [.str "fold",.int (k:Int)]))]=.ok [.sh (.int (k:Int))]:=by push_cast only [and_self]
  by_cases h:cY ts fl true k=true
  ·rw [if_pos h]
   unfold cY at h;rw [Zv]at h;have x:=sV (g:=g) (an:=an) (uQ (by lia) hk (by simpa using h.2) (wm h.1)) (.inr rfl)
   have mx:=t5 (ts:=ts) (g:=g) (fl:=fl) (an:=an) (m := "fold") (gf (.inl rfl)) x (ρ:=[some (.sh (esD ts g fl an)),some (.sh (.tuple [.str "fold",.int (k:Int)]))]) rfl ha;unfold bL;push_cast only [rR,↓mx];rfl
  ·rw [if_neg h]
   have hn:fl k=true\/chN ts k=[]:=by
    unfold cY at h;cases h1:gp ts k with
    |false=>exact .inr (zk h1)
    |true =>
     rw [h1]at h
     left
     cases h2:fl k with
     |true=>rfl
     |false=>rw [h2]at h;exact absurd rfl h
   have x:=sV (g:=g) (an:=an) (wg (by lia) hk hn) (.inl rfl)
   have mx:=t5 (ts:=ts) (g:=g) (fl:=fl) (an:=an) (m := "fold") (gf (.inl rfl)) x (ρ:=[some (.sh (esD ts g fl an)),some (.sh (.tuple [.str "fold",.int (k:Int)]))]) rfl ha;unfold bL;push_cast only [rR,↓mx,jU]
 |false =>
  have ha:ag (eOp gIx (af 1) (eC (.int 1))) au [some (.sh (esD ts g fl an)),some (.sh (.tuple [.str "unfold",.int (k:Int)]))]=.ok [.sh (.int (k:Int))]:=by push_cast only [and_self]
  by_cases h:cY ts fl false k=true
  ·rw [if_pos h]
   unfold cY at h;rw [Zv]at h;have x:=zb (g:=g) (an:=an) (xO (ts:=ts) (fl:=fl) hk (by simpa using h.2)) (.inr rfl)
   have mx:=t5 (ts:=ts) (g:=g) (fl:=fl) (an:=an) (m := "unfold") (gf (.inr (.inl rfl))) x (ρ:=[some (.sh (esD ts g fl an)),some (.sh (.tuple [.str "unfold",.int (k:Int)]))]) rfl ha;unfold bL;push_cast only [si,vD,↓mx];rfl
  ·rw [if_neg h]
   have hn:fl k=false:=by
    cases h2:fl k with
    |false=>rfl
    |true =>
     unfold cY at h;rw [h2,hF k hk h2]at h;exact absurd rfl h
   have x:=zb (g:=g) (an:=an) (ze (ts:=ts) (fl:=fl) hk hn) (.inl rfl);have mx:=t5 (ts:=ts) (g:=g) (fl:=fl) (an:=an) (m := "unfold") (gf (.inr (.inl rfl))) x (ρ:=[some (.sh (esD ts g fl an)),some (.sh (.tuple [.str "unfold",.int (k:Int)]))]) rfl ha;unfold bL;push_cast only [si,vD,↓mx,jU]
noncomputable def oG (b:Bool):Int:=if b=true then 0 else 2
theorem Bm (hl:ts.length<=40) (hF:OkF ts fl) (hk:k<ts.length) (b:Bool):bq [esD ts g fl an,bL b k]=if cY ts fl b k=true then .bad else .ok (.sh (.int 2)):=by
 unfold bq gn;have x:=xdo (g:=g) (an:=an) hl hF hk b;have tr:l8 eR (ag (af 0) (ag (af 1) au)) [("NoDeed",2),("NoNode",1)] [some (.sh (esD ts g fl an)),some (.sh (bL b k)),none,none]=if cY ts fl b k=true then .bad else .ok (.rt (.sh (.int 2))):=by
  have ha:(ag (af 0) (ag (af 1) au)) [some (.sh (esD ts g fl an)),some (.sh (bL b k)),none,none]=.ok [.sh (esD ts g fl an),.sh (bL b k)]:=by push_cast only [and_self]
  unfold l8;rw [ha,aV,Zk,Zk,List.map_nil,cq,cq,x];by_cases h:cY ts fl b k=true
  ·rw [if_pos h,if_pos h]
  ·rw [if_neg h,if_neg h]
   have:List.lookup ("NoDeed" : Str) [(("NoDeed" : Str),(2:Int)),("NoNode",1)]=some 2:=by rw [List.lookup_cons];rfl
   show (match List.lookup ("NoDeed" : Str) [(("NoDeed" : Str),(2:Int)),("NoNode",1)] with
    |some b=>R.ok (Out.rt (OD.sh (.int b)))
    |none=>.bad)=_
   rw [this]
 by_cases h:cY ts fl b k=true
 ·rw [if_pos h]at tr ⊢
  push_cast only [↓tr];rfl
 ·rw [if_neg h]at tr ⊢
  push_cast only [↓tr]
theorem Cb {c:F} (p:PT ts c) (hl:ts.length<=40) (hk:k<ts.length) (b:Bool):fX [stD ts fl,bL b k]=.ok (.sh (.int (oG (cY ts fl b k)))):=by
 unfold fX gR;have od:=j9 ts c p fl true (by lia)
 rw [k9 ts c p fl]at od;have kd:=pG hk;have fd:=rZ (fl:=fl) hk;have k2:atI [PyData.list (dQ ts),.list (d7 ts),.list (fgD fl ts.length)] 2=some (.list (fgD fl ts.length)):=rfl;have k1:atI [PyData.list (dQ ts),.list (d7 ts),.list (fgD fl ts.length)] 1=some (.list (d7 ts)):=rfl;have rg:=pF ts.length hk;have sm1:decide (("fold" : Str) = "move")=false:=by decide +kernel
 have sm2:decide (("unfold" : Str) = "move")=false:=by decide +kernel
 have sl:∀s:Str,zD (.tuple [.str s,.int (k:Int)]) (some 1) (some 2)=.ok (.sh (.tuple [.int (k:Int)])):=λs=>rfl
 have d1:decide ((k:Int)<0)=false:=decide_eq_false (by lia)
 have d2:decide ((ts.length:Int)<=(k:Int))=false:=decide_eq_false (by lia)
 have ne:gNe (.list (nD (chN ts k))) (.list [])=.ok (.sh (.bool (gp ts k))):=by
  unfold gp nD;cases hc:chN ts k with
  |nil=>exact qO (lay_ints [])
  |cons x xs =>
   show gNe (.list ((iL (x :: xs)).map PyData.int)) (.list [])=_
   have e:iL (x :: xs)=(x:Int) :: iL xs:=rfl;rw [e];unfold gNe;rw [mZ];unfold jV;rw [fw (lay_ints ((x:Int) :: iL xs)) (by decide),show SeqAt.shaped (.list [])=true from fw (lay_ints []) (by decide),Bool.and_self,if_pos rfl]
   rfl
 have bb:∀x y:Bool,gEq (.bool x) (.bool y)=.ok (.sh (.bool (x == y))):=λx y=>by cases x <;> cases y <;> rfl
 have l2:∀z:Bool,atI [PyData.int 2,.int 0] (if z=true then 1 else 0)=some (.int (if z=true then 0 else 2)):=λz=>by cases z <;> rfl
 unfold bL;cases b with
 |true =>
  have e5:cY ts fl true k=(gp ts k && (fl k == false)):=rfl;rw [e5];unfold oG;cases hh:gp ts k with
  |true =>
   rw [hh]at ne;unfold stD;unfold stD at od;push_cast only [od,dM,sm1,sl,nt,pI,tR,zY,nxK,d1,d2,cL,Zh,rg,rR,k1,kd,ne,k2,fd,Ge,bb,l2,Bool.true_and]
  |false =>
   rw [hh]at ne;unfold stD;unfold stD at od;push_cast only [od,dM,sm1,sl,nt,pI,tR,zY,nxK,d1,d2,cL,Zh,rg,rR,k1,kd,ne,k2,fd,Ge,bb,l2,Bool.false_and]
 |false =>
  have e5:cY ts fl false k=(gp ts k && (fl k == true)):=rfl;rw [e5];unfold oG;cases hh:gp ts k with
  |true =>
   rw [hh]at ne;unfold stD;unfold stD at od;push_cast only [od,dM,sm2,sl,nt,pI,tR,zY,nxK,d1,d2,cL,Zh,rg,si,vD,k1,kd,ne,k2,fd,bb,l2,Bool.true_and]
  |false =>
   rw [hh]at ne;unfold stD;unfold stD at od;push_cast only [od,dM,sm2,sl,nt,pI,tR,zY,nxK,d1,d2,cL,Zh,rg,si,vD,k1,kd,ne,k2,fd,bb,l2,Bool.false_and]
end
section
variable {ts:List Nd} {g:Int} {fl:Nat->Bool} {an:PyData} {k:Nat}
theorem yn:∀ds:List PyData,shs (ds.map OD.sh)=some ds
 |[]=>rfl
 |d :: ds=>by
  rw [Zk,shs,yn ds]
theorem BO (hk:k<ts.length) (b:Bool):(fgD fl ts.length).set k (.bool b)=fgD (d8 fl k b) ts.length:=by
 unfold fgD;have e:PyData.bool b=(λj=>PyData.bool (d8 fl k b j)) k:=by
  show _=PyData.bool (d8 fl k b k)
  unfold d8;rw [if_pos rfl]
 rw [e];refine hZ (λq=>PyData.bool (fl q)) (λj=>PyData.bool (d8 fl k b j)) ts.length k λq hq=>?_
 show PyData.bool (d8 fl k b q)=.bool (fl q)
 unfold d8;rw [if_neg hq]
theorem yJ {c:F} (p:PT ts c) (hl:ts.length<=40) (hk:k<ts.length) (b:Bool):c8 8 b8 (stO ts fl) [bL b k] (stO ts (d8 fl k b),.ol [.sh (.int (k:Int))]):=by
  refine ⟨rfl,λa=>?_⟩
  unfold b8;have od:=j9 ts c p fl true (by lia)
  rw [k9 ts c p fl]at od;have rg:=pF ts.length hk;show ∃ρ',eS _ _ [some (.pl a [.ol ((dQ ts).map OD.sh),.sh (.list (d7 ts)),.ol ((fgD fl ts.length).map OD.sh)]),some (.sh (bL b k)),none,none,none,none,none,none]=.ok (ρ',_)/\_
  have er0:(OD.pl a [.ol ((dQ ts).map OD.sh),.sh (.list (d7 ts)),.ol ((fgD fl ts.length).map OD.sh)]).er=stD ts fl:=by
    rw [tm,<-pe];unfold stO;rw [gk]
  have bk:yT (.ol (nO (List.range ts.length)))=.ok (.ol (nO (List.range ts.length))):=by
    have fa:(nO (List.range ts.length)).all (λy=>flat y.er)=true:=by
      unfold nO nD iL;rw [List.all_map,List.all_map,List.all_map,List.all_eq_true];intro x _;show flat (OD.sh (PyData.int (x:Int))).er=true
      rw [cq];rfl
    show (if (nO (List.range ts.length)).all (λy=>flat y.er)=true then R.ok (OD.ol ((nO (List.range ts.length)).map λy=>.sh y.er)) else .bad)=_
    rw [if_pos fa];congr 2
    unfold nO;rw [Zi];exact Zt λx _=>by show OD.sh (OD.sh x).er=_;rw [cq]
  have sb:∀(s:Str) (x2 x3:Option OD) (bb:Bool),decide (s = "fold")=bb->nG 0 2 (af 3) (eOp gEq (eOp gIx (af 1) (eC (.int 0))) (eC (.str "fold"))) [some (.pl a [.ol ((dQ ts).map OD.sh),.sh (.list (d7 ts)),.ol ((fgD fl ts.length).map OD.sh)]),some (.sh (.tuple [.str s,.int (k:Int)])),x2,some (.sh (.int (k:Int))),none,none,none,none]=.ok (.nx [some (.pl a [.ol ((dQ ts).map OD.sh),.sh (.list (d7 ts)),.ol ((fgD (d8 fl k bb) ts.length).map OD.sh)]),some (.sh (.tuple [.str s,.int (k:Int)])),x2,some (.sh (.int (k:Int))),none,none,none,none]):=λs x2 x3 bb hb=>by
    have ev1:(eOp gEq (eOp gIx (af 1) (eC (.int 0))) (eC (.str "fold"))) [some (.pl a [.ol ((dQ ts).map OD.sh),.sh (.list (d7 ts)),.ol ((fgD fl ts.length).map OD.sh)]),some (.sh (.tuple [.str s,.int (k:Int)])),x2,some (.sh (.int (k:Int))),none,none,none,none]=.ok (.sh (.bool bb)):=by push_cast only [hb]
    unfold nG;rw [ev1,aV];show (match shs ((fgD fl ts.length).map OD.sh) with
      |some ds=>(af 3 [some (.pl a [.ol ((dQ ts).map OD.sh),.sh (.list (d7 ts)),.ol ((fgD fl ts.length).map OD.sh)]),some (.sh (.tuple [.str s,.int (k:Int)])),x2,some (.sh (.int (k:Int))),none,none,none,none]).bind λz=>match z.er with
        |.int q=>(match ixN ds.length q with
          |some j=>R.ok (Out.nx (List.set [some (OD.pl a [.ol ((dQ ts).map OD.sh),.sh (.list (d7 ts)),.ol ((fgD fl ts.length).map OD.sh)]),some (.sh (.tuple [.str s,.int (k:Int)])),x2,some (.sh (.int (k:Int))),none,none,none,none] 0 (some (.pl a (List.set [OD.ol ((dQ ts).map OD.sh),.sh (.list (d7 ts)),.ol ((fgD fl ts.length).map OD.sh)] 2 (.ol ((ds.set j (OD.sh (.bool bb)).er).map OD.sh)))))))
          |none=>.bad)
        |_=>.bad
      |none=>.bad)=_
    rw [yn];show (match (OD.sh (PyData.int (k:Int))).er with
        |.int q=>(match ixN (fgD fl ts.length).length q with
          |some j=>R.ok (Out.nx (List.set [some (OD.pl a [.ol ((dQ ts).map OD.sh),.sh (.list (d7 ts)),.ol ((fgD fl ts.length).map OD.sh)]),some (.sh (.tuple [.str s,.int (k:Int)])),x2,some (.sh (.int (k:Int))),none,none,none,none] 0 (some (.pl a (List.set [OD.ol ((dQ ts).map OD.sh),.sh (.list (d7 ts)),.ol ((fgD fl ts.length).map OD.sh)] 2 (.ol (((fgD fl ts.length).set j (OD.sh (.bool bb)).er).map OD.sh)))))))
          |none=>.bad)
        |_=>.bad)=_
    rw [cq];have ix:ixN (fgD fl ts.length).length (k:Int)=some k:=qr (by unfold fgD;rw [Zc,Zh];exact hk)
    show (match ixN (fgD fl ts.length).length (k:Int) with
          |some j=>R.ok (Out.nx (List.set [some (OD.pl a [.ol ((dQ ts).map OD.sh),.sh (.list (d7 ts)),.ol ((fgD fl ts.length).map OD.sh)]),some (.sh (.tuple [.str s,.int (k:Int)])),x2,some (.sh (.int (k:Int))),none,none,none,none] 0 (some (.pl a (List.set [OD.ol ((dQ ts).map OD.sh),.sh (.list (d7 ts)),.ol ((fgD fl ts.length).map OD.sh)] 2 (.ol (((fgD fl ts.length).set j (OD.sh (.bool bb)).er).map OD.sh)))))))
          |none=>.bad)=_
    rw [ix,cq];show R.ok (Out.nx [some (OD.pl a [.ol ((dQ ts).map OD.sh),.sh (.list (d7 ts)),.ol (((fgD fl ts.length).set k (.bool bb)).map OD.sh)]),_,_,_,_,_,_,_])=_
    rw [BO hk]
  cases b with
  |true =>
    have s1:=sb "fold" (some (.sh (.list (nD (List.range ts.length))))) none true rR;unfold bL;push_cast only [iE,ig,Bo,sG,er0,od,bk,dM,rg,rR,↓s1];refine ⟨_,rfl,?_⟩;unfold stO;rfl
  |false =>
    have s1:=sb "unfold" (some (.sh (.list (nD (List.range ts.length))))) none false si;unfold bL;push_cast only [iE,ig,Bo,sG,er0,od,bk,dM,rg,si,vD,↓s1];refine ⟨_,rfl,?_⟩;unfold stO;rfl
theorem zl (z:Int) (n:Nat) (h0:0<n) (h1:n<=100):∃(b:Bool) (k:Nat),k<n/\cI [.int z,.int (n:Int),.list [.str "fold",.str "unfold",.str "fold"]]=.ok (.sh (bL b k)):=by
 have m3:=fA z (show (0:Int)<3 by decide)
 have mn:=fA (z / 8) (show (0:Int)<(n:Int) by lia)
 obtain ⟨k,hk⟩:∃k:Nat,z / 8 % (n:Int)=(k:Int):=⟨(z / 8 % (n:Int)).toNat,by lia⟩
 have p0:((0:Int)<(n:Int))=True:=eq_true (by lia)
 have p1:((n:Int)<1073741824)=True:=eq_true (by lia)
 have sp:decide (("fold" : Str) = "put")=false:=by decide +kernel
 have sp2:decide (("unfold" : Str) = "put")=false:=by decide +kernel
 have sm:decide (("fold" : Str) = "move")=false:=by decide +kernel
 have sm2:decide (("unfold" : Str) = "move")=false:=by decide +kernel
 unfold cI di;have c3:z % 3=0\/z % 3=1\/z % 3=2:=by lia
 rcases c3 with c | c | c
 ·refine ⟨true,k,by lia,?_⟩
  push_cast only [c,p0,p1,hk,sp,sm];rfl
 ·refine ⟨false,k,by lia,?_⟩
  push_cast only [c,p0,p1,hk,sp2,sm2];rfl
 ·refine ⟨true,k,by lia,?_⟩
  push_cast only [c,p0,p1,hk,sp,sm];rfl
end
noncomputable def bdA (f:Fn):Fs:=(aH (sIf (ay (eW "str" (af 1))) (bI (i_ (eW "str" (af 0)) (eOp gEq (af 0) (af 1)))) sNx)
 (aH (sIf (ay (aT aC (ag (af 1) au))) (bI (i_ (aT aC (ag (af 0) au)) (eOp gEq (af 0) (af 1)))) sNx)
 (aH (sIf (ay (eW "tuple" (af 1))) (sIf (dX (ay (eW "tuple" (af 0)))) (bI (eC (.bool false))) sNx) (sIf (dX (ay (eW "list" (af 0)))) (bI (eC (.bool false))) sNx))
 (aH (sIf (ay (eOp gNe (eB dJ (ag (af 0) au)) (eB dJ (ag (af 1) au)))) (bI (eC (.bool false))) sNx)
 (aH (gX (o_ (af 0) (af 1)) (gTp 2 (bK (gNm 2) (bK (gNm 3) gm))) (sIf (dX (ay (aT f (ag (af 2) (ag (af 3) au))))) (bI (eC (.bool false))) sNx))
 (bI (eC (.bool true))))))))
noncomputable def Ali (f:Fn) (d:PyData):Prop:=f [d,d]=.ok (.sh (.bool true))
theorem qh (f:Fn) (i:Int):Ali (bW 2 4 (bdA f)) (.int i):=by
 unfold Ali bdA;have w:=vi i;have d:decide (i=i)=true:=decide_eq_true rfl;push_cast only [w,d]
theorem zP (f:Fn) (x:Str):Ali (bW 2 4 (bdA f)) (.str x):=by
 unfold Ali bdA;have d:decide (x=x)=true:=decide_eq_true rfl;push_cast only [d]
theorem uL (ds:List PyData):aC [.list ds]=.ok (.sh (.bool false)):=by
 unfold aC dB;push_cast only [and_self]
theorem uM (ds:List PyData):aC [.tuple ds]=.ok (.sh (.bool false)):=by
 unfold aC dB;push_cast only [and_self]
theorem DK (ds:List PyData):g_ "str" (.list ds)=oB false:=rfl
theorem Dz (ds:List PyData):g_ "str" (.tuple ds)=oB false:=rfl
theorem rD {f:Fn} {ds:List PyData} {x0 x1:OD} (h:∀d∈ds,Ali f d):∀(r:R Out),cy (gTp 2 (bK (gNm 2) (bK (gNm 3) gm))) (sIf (dX (ay (aT f (ag (af 2) (ag (af 3) au))))) (bI (eC (.bool false))) sNx) (lX ds ds) [some x0,some x1,none,none]=r->∃v2 v3,r=.ok (.nx [some x0,some x1,v2,v3]):=λr hL=>by
 refine gc hL (λi ρ=>∃v2 v3:Option OD,ρ=[some x0,some x1,v2,v3]) ⟨_,_,rfl⟩ ?_ ?_
 ·rintro i d ρ hd ⟨v2,v3,rfl⟩
  obtain ⟨x,y,hx,hy,rfl⟩:=mK hd;rw [hx]at hy;cases hy;have hr:f [x,x]=.ok (.sh (.bool true)):=h x (ZB hx);push_cast only [hr];exact ⟨_,_,rfl⟩
 ·rintro ρ' rfl ⟨v2,v3,rfl⟩
  exact ⟨_,_,rfl⟩
theorem qX {f:Fn} {ds:List PyData} (hl:ds.length<=1000) (h:∀d∈ds,Ali f d):Ali (bW 2 4 (bdA f)) (.list ds):=by
 unfold Ali bdA;have w:=uL ds;have bl:(ds.length<=BIG)=True:=cJ hl;have d:decide ((ds.length:Int)=(ds.length:Int))=true:=decide_eq_true rfl;push_cast only [DK,w,bl,d,Hi,Gy];generalize hL:cy _ _ _ _=r
 obtain ⟨v2,v3,rfl⟩:=rD h r hL;push_cast only [and_self]
theorem ur {f:Fn} {ds:List PyData} (hl:ds.length<=1000) (h:∀d∈ds,Ali f d):Ali (bW 2 4 (bdA f)) (.tuple ds):=by
 unfold Ali bdA;have w:=uM ds;have bl:(ds.length<=BIG)=True:=cJ hl;have d:decide ((ds.length:Int)=(ds.length:Int))=true:=decide_eq_true rfl;push_cast only [Dz,w,bl,d,Hi,FD];generalize hL:cy _ _ _ _=r
 obtain ⟨v2,v3,rfl⟩:=rD h r hL;push_cast only [and_self]
theorem xk (f:Fn) (a:Int) (l:Str) (t:Int):Ali (bW 2 4 (bdA (bW 2 4 (bdA f)))) (.tuple [.int a,.str l,.int t]):=ur (show (3:Nat)<=1000 by decide) λd hd=>by
 simp only [Zo,List.not_mem_nil,or_false]at hd;rcases hd with rfl | rfl | rfl
 ·exact qh _ _
 ·exact zP _ _
 ·exact qh _ _
theorem qI (f:Fn) (ts:List Nd) (L:List Nat) (hL:L.length<=1000):Ali (bW 2 4 (bdA (bW 2 4 (bdA (bW 2 4 (bdA f)))))) (.list (c_ ts L)):=qX (by unfold c_;rw [Zc];exact hL) λd hd=>by
 unfold c_ at hd;obtain ⟨k,_,rfl⟩:=ZC.mp hd;exact xk f _ _ _
theorem wH (f:Fn) (L:List Nat) (hL:L.length<=1000):Ali (bW 2 4 (bdA (bW 2 4 (bdA f)))) (.list (nD L)):=qX (by rw [cL];exact hL) λd hd=>by
 unfold nD iL at hd;rw [Zi]at hd;obtain ⟨k,_,rfl⟩:=ZC.mp hd;exact qh _ _
theorem sk {d:PyData} (h:Ali (bW 2 4 (bdA d_)) d):dA [d,d]=.ok (.sh (.bool true)):=h
section
variable {ts:List Nd} {g:Int} {fl:Nat->Bool} {an:PyData}
theorem mV (he:EL ts):av ts=c_ ts (List.range ts.length):=by
 unfold av c_;apply List.ext_getElem?
 intro i;rw [Za,Za];by_cases hi:i<ts.length
 ·rw [Zy hi,wd hi]
  show some _=some _
  refine congrArg some ?_;unfold ndD jy;rw [sP hi];rcases elt he hi with ⟨z,_⟩ | ⟨j,z,hj⟩
  ·rw [z,if_pos (by lia)]
  ·rw [z,if_neg (by lia),Int.toNat_natCast]
   have hj':j<(List.range ts.length).length:=by rw [Zh];lia
   have e1:=List.nodup_range (n:=ts.length) |>.idxOf_getElem j hj'
   rw [List.getElem_range]at e1;rw [e1]
 ·rw [Zu (by lia),Zu (by rw [Zh];lia)]
  rfl
theorem qW {c:F} (p:PT ts c) (he:EL ts) (hl:ts.length<=40) (t:Int):dC [esD ts g fl an,stD ts fl,.int t]=.ok (.sh (.bool true)):=by
 unfold dC fT;have o1:=j9 ts c p fl true (by lia)
 rw [k9 ts c p fl]at o1;have o2:=j9 ts c p fl false (by lia)
 rw [wI ts c p he fl]at o2;have sl:=nF ts fl;have r1:=qH ts fl (List.range ts.length) he (by lia) (by rw [Zh];lia) λk hk=>⟨ZH.mp hk,λh0=>by
  rcases elt he (ZH.mp hk) with ⟨z,_⟩ | ⟨j,z,hj⟩
  ·lia
  ·rw [z,Int.toNat_natCast,ZH]
   have:=ZH.mp hk
   lia⟩
 rw [<-mV he]at r1;have r2:=qH ts fl (seen ts fl) he (by lia) (by lia) λk hk=>⟨ka hk,pK he hk⟩
 have s2:ba (ts.length:Int)=true:=sI (by lia) (by lia)
 have s3:ba 3=true:=sI (by decide) (by decide)
 have k2:atI [PyData.list (dQ ts),.list (d7 ts),.list (fgD fl ts.length)] 2=some (.list (fgD fl ts.length)):=rfl;have c1:∀(x0 x2 x4 x5 x6 x7 x8 x9:Option OD),dH (iR1 (eB dJ (ag (af 3) au))) (gNm 0) (ay (eOp gIx (eOp gIx (af 1) (eC (.int 2))) (eOp gIx (af 2) (af 0)))) (af 0) 1 [1,3] [x0,some (.sh (stD ts fl)),x2,some (.sh (.list (nD (List.range ts.length)))),x4,x5,x6,x7,x8,x9]=.ok (.ol (nO (fdL ts fl))):=λx0 x2 x4 x5 x6 x7 x8 x9=>by
  push_cast only [cL,Zh,s2];generalize hC:cK _ _ _ _ _ _=rc
  have e:=jo hC (λk:Nat=>PyData.int (0+(k:Int))) fl (λk:Nat=>.sh (.int (k:Int))) (List.range ts.length) (by rw [Int.toNat_natCast];rfl) (by rw [Zh];exact of_eq_true (cJ (by lia))) (by
   intro k hk;rw [ZH]at hk;have rg:=pF ts.length hk;have fd:=rZ (fl:=fl) hk;unfold stD;refine ⟨?_,λ_=>?_⟩
   ·push_cast only [Int.zero_add,k2,rg,fd]
   ·push_cast only [Int.zero_add])
  subst e;push_cast only [and_self];rw [gJ];rfl
 have c2:∀(x0 x1 x2 x5 x6 x7 x8 x9:Option OD),dH (gY (af 4)) (gNm 0) h_ (uP (af 1) (af 0)) 1 [3] [x0,x1,x2,some (.sh (.list (nD (List.range ts.length)))),some (.sh (.list (nD (seen ts fl)))),x5,x6,x7,x8,x9]=.ok (.ol (nO (seen ts fl))):=λx0 x1 x2 x5 x6 x7 x8 x9=>by
  push_cast only [and_self];generalize hC:cK _ _ _ _ _ _=rc
  have e:=jS hC (λk:Nat=>PyData.int (k:Int)) (λk:Nat=>.sh (.int (k:Int))) (seen ts fl) (by unfold nD iL;rw [Zi];rfl) (of_eq_true (cJ (by lia))) (by
   intro k hk;have hk':=ka hk;have ix:=yt (List.range ts.length) k (ZH.mpr hk') (by rw [Zh];lia)
   have hj':k<(List.range ts.length).length:=by rw [Zh];exact hk'
   have e1:=List.nodup_range (n:=ts.length) |>.idxOf_getElem k hj'
   rw [List.getElem_range]at e1;rw [e1]at ix;push_cast only [ix])
  subst e;push_cast only [and_self];rw [gJ]
 have al0:dA [.list (av ts),.list (av ts)]=.ok (.sh (.bool true)):=by
  rw [mV he];exact sk (qI _ ts _ (by rw [Zh];lia))
 have fdl:(fdL ts fl).length<=ts.length:=by
  have:=List.length_filter_le fl (List.range ts.length);rw [Zh]at this;exact this
 have al1:dA [.list (nD (fdL ts fl)),.list (nD (fdL ts fl))]=.ok (.sh (.bool true)):=sk (wH _ _ (by lia))
 have al2:dA [dm ts fl,dm ts fl]=.ok (.sh (.bool true)):=sk (ur (show (2:Nat)<=1000 by decide) λd hd=>by
  simp only [Zo,List.not_mem_nil,or_false]at hd;rcases hd with rfl | rfl
  ·exact qI _ ts _ (by lia)
  ·exact wH _ _ (by lia))
 have u0:∀i:Int,atI [PyData.list (av ts),.list (nD (fdL ts fl)),dm ts fl] i=atI [PyData.list (av ts),.list (nD (fdL ts fl)),dm ts fl] i:=λ_=>rfl
 have i0:atI [PyData.list (av ts),.list (nD (fdL ts fl)),dm ts fl] 0=some (.list (av ts)):=rfl;have i1:atI [PyData.list (av ts),.list (nD (fdL ts fl)),dm ts fl] 1=some (.list (nD (fdL ts fl))):=rfl;have i2:atI [PyData.list (av ts),.list (nD (fdL ts fl)),dm ts fl] 2=some (dm ts fl):=rfl;have sd:PyData.tuple [.list (c_ ts (seen ts fl)),.list (nD (seen ts fl))]=dm ts fl:=rfl;have mw:=λ(ρ:L3.Env) (h:ρ[0]?=some (some (.sh (esD ts g fl an))))=>iP (m := "whole") (gf (by simp)) (ud (g:=g) (fl:=fl) (an:=an) (ts:=ts) (by lia)) h
 have mf:=λ(ρ:L3.Env) (h:ρ[0]?=some (some (.sh (esD ts g fl an))))=>iP (m := "folded") (gf (by simp)) (rL (g:=g) (fl:=fl) (an:=an) (ts:=ts) (by lia)) h
 have ms:=λ(ρ:L3.Env) (h:ρ[0]?=some (some (.sh (esD ts g fl an))))=>iP (m := "seen") (gf (by simp)) (qa (g:=g) (fl:=fl) (an:=an) he (by lia)) h
 have m3:∀z:Int,0<=z % 3/\z % 3<3:=λz=>fA z (by decide)
 push_cast only [o1,dM,o2,↓c1,r1,r2,↓c2,cV,sd,s3];generalize hL:cy _ _ _ _=r'
 refine gc hL (λi ρ=>∃v7 v8 v9:Option OD,ρ=[some (.sh (esD ts g fl an)),some (.sh (stD ts fl)),some (.sh (.int t)),some (.sh (.list (nD (List.range ts.length)))),some (.sh (.list (nD (seen ts fl)))),some (.sh (.list (nD (fdL ts fl)))),some (.sh (.list [.list (av ts),.list (nD (fdL ts fl)),dm ts fl])),v7,v8,v9]) ⟨_,_,_,rfl⟩ ?_ ?_
 ·rintro i d ρ hd ⟨v7,v8,v9,rfl⟩
  obtain ⟨hi,rfl⟩:=jd hd;have cc:(0+(i:Int)+t) % 3=0\/(0+(i:Int)+t) % 3=1\/(0+(i:Int)+t) % 3=2:=by have:=m3 (0+(i:Int)+t);lia
  generalize hz:(0+(i:Int)+t) % 3=z at cc
  have tw:∀(v8 v9:Option OD),de (λnm=>List.lookup nm [("Easel",bg)]) "whole" (af 0) au [some (.sh (esD ts g fl an)),some (.sh (stD ts fl)),some (.sh (.int t)),some (.sh (.list (nD (List.range ts.length)))),some (.sh (.list (nD (seen ts fl)))),some (.sh (.list (nD (fdL ts fl)))),some (.sh (.list [.list (av ts),.list (nD (fdL ts fl)),dm ts fl])),some (.sh (.int (0+(i:Int)))),v8,v9]=.ok (.ol ((av ts).map OD.sh)):=λv8 v9=>mw _ rfl
  have tf:∀(v8 v9:Option OD),de (λnm=>List.lookup nm [("Easel",a8)]) "folded" (af 0) au [some (.sh (esD ts g fl an)),some (.sh (stD ts fl)),some (.sh (.int t)),some (.sh (.list (nD (List.range ts.length)))),some (.sh (.list (nD (seen ts fl)))),some (.sh (.list (nD (fdL ts fl)))),some (.sh (.list [.list (av ts),.list (nD (fdL ts fl)),dm ts fl])),some (.sh (.int (0+(i:Int)))),v8,v9]=.ok (.ol (nO (fdL ts fl))):=λv8 v9=>mf _ rfl
  have te:∀(v8 v9:Option OD),de (λnm=>List.lookup nm [("Easel",aF)]) "seen" (af 0) au [some (.sh (esD ts g fl an)),some (.sh (stD ts fl)),some (.sh (.int t)),some (.sh (.list (nD (List.range ts.length)))),some (.sh (.list (nD (seen ts fl)))),some (.sh (.list (nD (fdL ts fl)))),some (.sh (.list [.list (av ts),.list (nD (fdL ts fl)),dm ts fl])),some (.sh (.int (0+(i:Int)))),v8,v9]=.ok (i4 ts fl):=λv8 v9=>ms _ rfl
  rcases cc with rfl | rfl | rfl
  ·push_cast only [hz,i0,↓tw,cV,al0]
   exact ⟨_,_,_,rfl⟩
  ·push_cast only [hz,i1,↓tf,dM,al1]
   exact ⟨_,_,_,rfl⟩
  ·push_cast only [hz,i2,↓te,nK,al2]
   exact ⟨_,_,_,rfl⟩
 ·rintro ρ' rfl ⟨v7,v8,v9,rfl⟩
  push_cast only [and_self]
end
theorem u4 (ts:List Nd):okN (.ol ((av ts).map OD.sh))=true:=by
 show ((av ts).map OD.sh).all Ao=true
 rw [List.all_map,List.all_eq_true];intro x hx;unfold av at hx;obtain ⟨n,_,rfl⟩:=ZC.mp hx;show nol (ndD n)=true
 unfold ndD;simp [nol,vd]
theorem wo (ts:List Nd) (hl:ts.length<=40) (g:Int):kj 3 br "Easel" ((av ts).map OD.sh) [.int g] (.oi none "Easel" (aO ts g (λ_=>false) (.list (nD (List.range ts.length)))),.sh .none):=by
 refine ⟨rfl,λa c=>?_⟩
 unfold br;show ∃ρ',eS _ _ [some (.oi (some a) "Easel" []),some (.pl c ((av ts).map OD.sh)),some (.sh (.int g))]=.ok (ρ',.sh .none)/\_
 have lb:(ts.length<=BIG)=True:=cJ (by lia)
 have b2:∀ds:List (Str×PyData),jX 1 (eB gN (ag (af 1) au)) [some (.oi (some a) "Easel" ds),some (.pl c ((av ts).map OD.sh)),some (.sh (.int g))]=.ok (.ol ((av ts).map OD.sh)):=λds =>
  xK 1 _ _ (x:=.pl c ((av ts).map OD.sh)) rfl (by
   show ((av ts).map OD.sh).all yZ=true
   rw [List.all_map,List.all_eq_true];intro x _;rfl) (by push_cast only [tm,cV,bu,lb]) (u4 ts)
 have tb:decide (("Easel" : Str) = "Easel")=true:=by decide +kernel
 have a1:∀(f:Str) (y:OD) (ds:List (Str×PyData)) (ρ:L3.Env),ds.length<1000->tE 0 (λnm=>decide (nm = "Easel")) f ρ y (some (some (.oi (some a) "Easel" ds)))=.ok (.nx (ρ.set 0 (some (.oi (some a) "Easel" (cu f y.er ds))))):=λf y ds ρ h=>wK tb h
 have lr:qc [.int (ts.length:Int)]=.ok (.ol (nO (List.range ts.length))):=HM _ (by lia)
 have bk:yT (.ol (nO (List.range ts.length)))=.ok (.ol (nO (List.range ts.length))):=by
  have fa:(nO (List.range ts.length)).all (λy=>flat y.er)=true:=by
   unfold nO nD iL;rw [List.all_map,List.all_map,List.all_map,List.all_eq_true];intro x _;show flat (OD.sh (PyData.int (x:Int))).er=true
   rw [cq];rfl
  show (if (nO (List.range ts.length)).all (λy=>flat y.er)=true then R.ok (OD.ol ((nO (List.range ts.length)).map λy=>.sh y.er)) else .bad)=_
  rw [if_pos fa];congr 2
  unfold nO;rw [Zi];exact Zt λx _=>by show OD.sh (OD.sh x).er=_;rw [cq]
 have bl:∀ds:List (Str×PyData),md (eB qc (ag (eB dJ (ag (af 1) au)) au)) [some (.oi (some a) "Easel" ds),some (.pl c ((av ts).map OD.sh)),some (.sh (.int g))]=.ok (.ol (nO (List.range ts.length))):=λds=>by
  push_cast only [tm,cV,bu,lb,lr,bk]
 have n1:("tree" : Str) ≠ "gap" := by decide +kernel
 have n2:("tree" : Str) ≠ "folds" := by decide +kernel
 have n3:("gap" : Str) ≠ "folds" := by decide +kernel
 have n4:("tree" : Str) ≠ "anew" := by decide +kernel
 have n5:("gap" : Str) ≠ "anew" := by decide +kernel
 have n6:("folds" : Str) ≠ "anew" := by decide +kernel
 have z0:([]:List (Str×PyData)).length<1000:=by decide
 have z1:∀x,([x]:List (Str×PyData)).length<1000:=λ_=>(show (1:Nat)<1000 by decide)
 have z2:∀x y,([x,y]:List (Str×PyData)).length<1000:=λ_ _=>(show (2:Nat)<1000 by decide)
 have z3:∀x y z,([x,y,z]:List (Str×PyData)).length<1000:=λ_ _ _=>(show (3:Nat)<1000 by decide)
 have q1:cu "tree" (.list (av ts)) []=[(("tree" : Str),PyData.list (av ts))]:=rfl;have q2:cu "gap" (.int g) [(("tree" : Str),PyData.list (av ts))]=([("tree",.list (av ts)),("gap",.int g)]:List (Str×PyData)):=by rw [cu,if_neg n1,cu]
 have q3:cu "folds" (.list []) [(("tree" : Str),PyData.list (av ts)),("gap",.int g)]=([("tree",.list (av ts)),("gap",.int g),("folds",.list [])]:List (Str×PyData)):=by rw [cu,if_neg n2,cu,if_neg n3,cu]
 have q4:cu "anew" (.list (nD (List.range ts.length))) [(("tree" : Str),PyData.list (av ts)),("gap",.int g),("folds",.list [])]=([("tree",.list (av ts)),("gap",.int g),("folds",.list []),("anew",.list (nD (List.range ts.length)))]:List (Str×PyData)):=by rw [cu,if_neg n4,cu,if_neg n5,cu,if_neg n6,cu]
 have fe:fdL ts (λ_=>false)=[]:=List.filter_eq_nil_iff.mpr λ_ _=>Zm
 have s1:=a1 "tree" (.ol ((av ts).map OD.sh)) [] [some (.oi (some a) "Easel" []),some (.pl c ((av ts).map OD.sh)),some (.sh (.int g))] z0;rw [gk,cV,q1]at s1;have s2:=a1 "gap" (.sh (.int g)) _ [some (.oi (some a) "Easel" [(("tree" : Str),PyData.list (av ts))]),some (.pl c ((av ts).map OD.sh)),some (.sh (.int g))] (z1 (("tree" : Str),PyData.list (av ts)));rw [cq,q2]at s2;have s3:=a1 "folds" (.ol []) _ [some (.oi (some a) "Easel" [(("tree" : Str),PyData.list (av ts)),("gap",.int g)]),some (.pl c ((av ts).map OD.sh)),some (.sh (.int g))] (z2 (("tree" : Str),PyData.list (av ts)) ("gap",.int g));rw [gk,List.map_nil,q3]at s3;have s4:=a1 "anew" (.ol (nO (List.range ts.length))) _ [some (.oi (some a) "Easel" [(("tree" : Str),PyData.list (av ts)),("gap",.int g),("folds",.list [])]),some (.pl c ((av ts).map OD.sh)),some (.sh (.int g))] (z3 (("tree" : Str),PyData.list (av ts)) ("gap",.int g) ("folds",.list []));rw [gk,dM,q4]at s4;push_cast only [iE,ig,oM,xq,↓b2,↓s1,↓s2,↓s3,↓bl,↓s4];refine ⟨_,rfl,?_,?_⟩
 ·unfold aO
  rw [fe];rfl
 ·rfl
section
variable {ts:List Nd} {g:Int} {fl:Nat->Bool} {an:PyData} {k:Nat}
theorem uc:jN "Easel" (aO ts g fl an)=esD ts g fl an:=rfl
theorem CU {ρ:L3.Env} {s1:Fs} (h3:ρ[3]?=some (some (.oi none "Easel" (aO ts g fl an)))) {b:Bool} (h7:ρ[7]?=some (some (.sh (bL b k)))) {w:Int} (h8:ρ[8]?=some (some (.sh (.int w)))) (hf:bq [esD ts g fl an,bL b k]=.ok (.sh (.int w))) :
  hG 4 3 bq aX (ag (af 7) au) 8 s1 sNx ρ=.ok (.nx ρ):=by
 have ha:ag (af 7) au ρ=.ok [.sh (bL b k)]:=by
  unfold ag af au;rw [h7];rfl
 unfold hG;rw [h3];show (ag (af 7) au ρ).bind (λys=>match bq ((OD.oi none "Easel" (aO ts g fl an)).er :: ys.map OD.er) with
  |.ok (.sh (.int k))=>(match ρ[8]? with
   |some (some (OD.sh (PyData.int k')))=>if k≠k' then s1 ρ else sNx ρ
   |_=>.bad)
  |_=>lO 4 3 aX (ag (af 7) au) 8 s1 sNx ρ)=_
 rw [ha,aV,Zk,List.map_nil,cq,lK,uc,hf];show (match ρ[8]? with
   |some (some (OD.sh (PyData.int k')))=>if w≠k' then s1 ρ else sNx ρ
   |_=>.bad)=_
 rw [h8];show (if w≠w then s1 ρ else sNx ρ)=_
 rw [if_neg (λz=>z rfl)]
 rfl
theorem DQ {ρ:L3.Env} {s1:Fs} (h3:ρ[3]?=some (some (.oi none "Easel" (aO ts g fl an)))) {b:Bool} (h7:ρ[7]?=some (some (.sh (bL b k)))) (h8:ρ[8]?=some (some (.sh (.int 0)))) (hf:bq [esD ts g fl an,bL b k]=.bad) {fl2:Nat->Bool} {an2:PyData} (hr:c8 4 aX (.oi none "Easel" (aO ts g fl an)) [bL b k] (.oi none "Easel" (aO ts g fl2 an2),.sh (.int 0))) :
  hG 4 3 bq aX (ag (af 7) au) 8 s1 sNx ρ=.ok (.nx (ρ.set 3 (some (.oi none "Easel" (aO ts g fl2 an2))))):=by
 have ha:ag (af 7) au ρ=.ok [.sh (bL b k)]:=by
  unfold ag af au;rw [h7];rfl
 unfold hG;rw [h3];show (ag (af 7) au ρ).bind (λys=>match bq ((OD.oi none "Easel" (aO ts g fl an)).er :: ys.map OD.er) with
  |.ok (.sh (.int k))=>(match ρ[8]? with
   |some (some (OD.sh (PyData.int k')))=>if k≠k' then s1 ρ else sNx ρ
   |_=>.bad)
  |_=>lO 4 3 aX (ag (af 7) au) 8 s1 sNx ρ)=_
 rw [ha,aV,Zk,List.map_nil,cq,lK,uc,hf];show lO 4 3 aX (ag (af 7) au) 8 s1 sNx ρ=_
 unfold lO;rw [oF h3 ha (y:=.sh (.int 0)) (ds':=aO ts g fl2 an2) (by
  show c8 4 aX _ [(OD.sh (bL b k)).er] _
  rw [cq];exact hr),aV]
 have h8':(ρ.set 3 (some (OD.oi none "Easel" (aO ts g fl2 an2))))[8]?=some (some (.sh (.int 0))):=by
  rw [List.getElem?_set_ne (by decide),h8]
 show (match OD.sh (PyData.int 0),(ρ.set 3 (some (OD.oi none "Easel" (aO ts g fl2 an2))))[8]? with
  |OD.sh (PyData.int k),some (some (OD.sh (PyData.int k')))=>if k≠k' then s1 (ρ.set 3 (some (OD.oi none "Easel" (aO ts g fl2 an2)))) else sNx (ρ.set 3 (some (OD.oi none "Easel" (aO ts g fl2 an2))))
  |_,_=>R.bad)=_
 rw [h8'];rfl
theorem vJ {ρ:L3.Env} {c:F} (p:PT ts c) (hl:ts.length<=40) (hk:k<ts.length) {b:Bool} (h4:ρ[4]?=some (some (stO ts fl))) (h7:ρ[7]?=some (some (.sh (bL b k)))):gi 8 4 b8 (ag (af 7) au) ρ=.ok (.nx (ρ.set 4 (some (stO ts (d8 fl k b))))):=by
 have ha:ag (af 7) au ρ=.ok [.sh (bL b k)]:=by
  unfold ag af au;rw [h7];rfl
 unfold gi nQ;rw [h4];show ((ag (af 7) au ρ).bind (λys=>(iR 8 b8 (stO ts fl) (ys.map OD.er)).bind λr=>.ok (ρ.set 4 (some (nB (stO ts fl) r.1)),r.2))).bind (λr=>R.ok (Out.nx r.1))=_
 rw [ha,aV,Zk,List.map_nil,cq,qV (yJ p hl hk b),aV];rfl
end
theorem pL (v:Option OD) (r:L3.Env):L3.erase (v :: r)=(v.map λx=>OD.sh x.er) :: L3.erase r:=rfl
theorem pY:L3.erase []=[]:=rfl
theorem Et {ρ:L3.Env} {fa fb:Fe} {xs:List OD} {y:OD} (h1:fa (L3.erase ρ)=.ok (.ol xs)) (hl:xs.length<BIG) (h2:fb (L3.erase ρ)=.ok y):kY fa fb ρ=.ok (.nx ρ):=by
 unfold kY;rw [h1,aV];show (if xs.length<BIG then (fb (L3.erase ρ)).bind λ_=>R.ok (Out.nx ρ) else .bad)=_
 rw [if_pos hl,h2];rfl
theorem xT {ρ:L3.Env} {fa:Fe} {xs:List OD} (h1:fa (L3.erase ρ)=.ok (.ol xs)):ij fa ρ=.ok (.nx ρ):=by
 unfold ij;rw [h1];rfl
theorem vY (ns:List Int) (hn:ns.length<=63):mh [.list (ns.map PyData.int)]=.ok (.sh (.bool true)):=by
 unfold mh qt;obtain ⟨z0,hz0⟩:=pP ns 0 (by decide) (by decide)
 obtain ⟨z1,hz1⟩:=pP ns 1 (by decide) (by decide)
 have m16:=fA z0 (show (0:Int)<16 by decide)
 obtain ⟨many,hm⟩:∃many:Nat,1+z0 % 16=(many:Int):=⟨(1+z0 % 16).toNat,by lia⟩
 obtain ⟨ts,way,gr,tl,ht⟩:=AQ ns 2 many 9 8 (by decide) (by decide) (by lia) (by lia) (by decide) (by decide) (by decide) (by decide)
 have he:EL ts:=gr.elder;have h0:=gr.pos.1;obtain ⟨c,p,_⟩:=xw gr;have hl:ts.length<=40:=by lia
 have lb:(ts.length<=BIG)=True:=cJ (by lia)
 generalize hg:1+z1 % 20=g
 have st:=x_ ts he h0 (by lia)
 have nw:∀v3 v4 v5 v6 v7 v8:Option OD,oQ 3 "Easel" 3 2 br (ag (eOp gj (eC (.int 1)) (eOp gI (aT bS (ag (af 0) (ag (eC (.int 1)) au))) (eC (.int 20)))) au) [some (.sh (.list (ns.map PyData.int))),some (.sh (.list (av ts))),some (.ol ((av ts).map OD.sh)),v3,v4,v5,v6,v7,v8]=.ok (.nx [some (.sh (.list (ns.map PyData.int))),some (.sh (.list (av ts))),some (.ol ((av ts).map OD.sh)),some (.oi none "Easel" (aO ts g (λ_=>false) (.list (nD (List.range ts.length))))),v4,v5,v6,v7,v8]):=λv3 v4 v5 v6 v7 v8=>by
  have ha:(ag (eOp gj (eC (.int 1)) (eOp gI (aT bS (ag (af 0) (ag (eC (.int 1)) au))) (eC (.int 20)))) au) [some (.sh (.list (ns.map PyData.int))),some (.sh (.list (av ts))),some (.ol ((av ts).map OD.sh)),v3,v4,v5,v6,v7,v8]=.ok [.sh (.int g)]:=by push_cast only [hz1,hg]
  unfold oQ;show ((ag (eOp gj (eC (.int 1)) (eOp gI (aT bS (ag (af 0) (ag (eC (.int 1)) au))) (eC (.int 20)))) au) [some (.sh (.list (ns.map PyData.int))),some (.sh (.list (av ts))),some (.ol ((av ts).map OD.sh)),v3,v4,v5,v6,v7,v8]).bind _=_
  rw [ha,aV,Zk,List.map_nil,cq,uI (wo ts hl g)];rfl
 have lk0:=qW (g:=g) (fl:=λ_=>false) (an:=.list (nD (List.range ts.length))) p he hl 0
 have e1:=uc (ts:=ts) (g:=g) (fl:=λ_=>false) (an:=.list (nD (List.range ts.length)))
 have e2:=pe ts (λ_=>false)
 obtain ⟨S,hS⟩:∃S:List Int,cutD (ns.map PyData.int) (some 19) (some 59)=S.map PyData.int:=by
  unfold cutD;exact ⟨_,by rw [<-List.map_drop,<-List.map_take]⟩
 push_cast only [hz0,hm,ht,cV,bu,lb,↓nw,st,pL,pY,Option.map_some,Option.map_none,lK,e1,e2,lk0,hS];generalize hL:cy _ _ _ _=r'
 refine gc hL (λi ρ=>∃(fl:Nat->Bool) (an:PyData) (v5 v6 v7 v8:Option OD),OkF ts fl/\ρ=[some (.sh (.list (ns.map PyData.int))),some (.sh (.list (av ts))),some (.ol []),some (.oi none "Easel" (aO ts g fl an)),some (stO ts fl),v5,v6,v7,v8]) ⟨_,_,_,_,_,_,(λk _ h=>by cases h),rfl⟩ ?_ ?_
 ·rintro i d ρ hd ⟨fl,an,v5,v6,v7,v8,hF,rfl⟩
  rw [Za]at hd;obtain ⟨x,_,rfl⟩:=Zp.mp hd;obtain ⟨b,k,hk,hdd⟩:=zl (x * 48271 % 2147483647) ts.length h0 (by lia)
  have du:=Cb (fl:=fl) p hl hk b;have e2:=pe ts fl;generalize hz:x * 48271 % 2147483647=z at hdd
  have dr:∀(fl:Nat->Bool) (an:PyData) (x5 x6 x7 x8:Option OD),∃ρe:L3.Env,L3.erase [some (.sh (.list (ns.map PyData.int))),some (.sh (.list (av ts))),some (.ol []),some (.oi none "Easel" (aO ts g fl an)),some (stO ts fl),x5,x6,x7,x8]=ρe/\ρe[3]?=some (some (.sh (esD ts g fl an))):=λfl an x5 x6 x7 x8=>⟨_,rfl,by
   show some (some (OD.sh (OD.oi none "Easel" (aO ts g fl an)).er))=_
   rw [lK];rfl⟩
  have d1:∀(fl:Nat->Bool) (an:PyData) (x5 x6 x7 x8:Option OD),kY (de (λnm=>List.lookup nm [("Easel",a8)]) "folded" (af 3) au) (eUn jw (eC (.int 1))) [some (.sh (.list (ns.map PyData.int))),some (.sh (.list (av ts))),some (.ol []),some (.oi none "Easel" (aO ts g fl an)),some (stO ts fl),x5,x6,x7,x8]=.ok (.nx [some (.sh (.list (ns.map PyData.int))),some (.sh (.list (av ts))),some (.ol []),some (.oi none "Easel" (aO ts g fl an)),some (stO ts fl),x5,x6,x7,x8]):=λfl an x5 x6 x7 x8=>by
   obtain ⟨ρe,h1,h2⟩:=dr fl an x5 x6 x7 x8;have hlen:(nO (fdL ts fl)).length<BIG:=by
    rw [rQ];have:=List.length_filter_le fl (List.range ts.length);rw [Zh]at this;exact of_eq_true (ja (show (fdL ts fl).length<1000 by unfold fdL;lia))
   refine Et (y:=.sh (.int (-1))) ?_ hlen ?_
   ·rw [h1]
    exact iP (gf (by simp)) (rL (by lia)) h2
   ·rfl
  have d2:∀(fl:Nat->Bool) (an:PyData) (x5 x6 x7 x8:Option OD),ij (de (λnm=>List.lookup nm [("Easel",bg)]) "whole" (af 3) au) [some (.sh (.list (ns.map PyData.int))),some (.sh (.list (av ts))),some (.ol []),some (.oi none "Easel" (aO ts g fl an)),some (stO ts fl),x5,x6,x7,x8]=.ok (.nx [some (.sh (.list (ns.map PyData.int))),some (.sh (.list (av ts))),some (.ol []),some (.oi none "Easel" (aO ts g fl an)),some (stO ts fl),x5,x6,x7,x8]):=λfl an x5 x6 x7 x8=>by
   obtain ⟨ρe,h1,h2⟩:=dr fl an x5 x6 x7 x8;refine xT (xs:=(av ts).map OD.sh) ?_;rw [h1];exact iP (gf (by simp)) (ud (by lia)) h2
  have d3:∀(j:Nat) (y:List OD) (fl:Nat->Bool) (an:PyData) (x5 x6 x7 x8:Option OD),[OD.ol ((c_ ts (seen ts fl)).map OD.sh),OD.ol (nO (seen ts fl))][j]?=some (.ol y)->ij (vC j (de (λnm=>List.lookup nm [("Easel",aF)]) "seen" (af 3) au)) [some (.sh (.list (ns.map PyData.int))),some (.sh (.list (av ts))),some (.ol []),some (.oi none "Easel" (aO ts g fl an)),some (stO ts fl),x5,x6,x7,x8]=.ok (.nx [some (.sh (.list (ns.map PyData.int))),some (.sh (.list (av ts))),some (.ol []),some (.oi none "Easel" (aO ts g fl an)),some (stO ts fl),x5,x6,x7,x8]):=λj y fl an x5 x6 x7 x8 hj=>by
   obtain ⟨ρe,h1,h2⟩:=dr fl an x5 x6 x7 x8;refine xT (xs:=y) ?_;rw [h1];unfold vC;rw [iP (gf (by simp)) (qa he (by lia)) h2,aV]
   show (match [OD.ol ((c_ ts (seen ts fl)).map OD.sh),OD.ol (nO (seen ts fl))][j]? with
    |some y=>R.ok y
    |none=>.bad)=_
   rw [hj]
  have d31:=λ(fl:Nat->Bool) (an:PyData) (x5 x6 x7 x8:Option OD)=>d3 1 _ fl an x5 x6 x7 x8 rfl
  have d30:=λ(fl:Nat->Bool) (an:PyData) (x5 x6 x7 x8:Option OD)=>d3 0 _ fl an x5 x6 x7 x8 rfl
  have lk:=λ(fl:Nat->Bool) (an:PyData)=>qW (g:=g) (fl:=fl) (an:=an) p he hl (z / 512)
  have es:=λ(fl:Nat->Bool) (an:PyData)=>uc (ts:=ts) (g:=g) (fl:=fl) (an:=an)
  have se:=λfl:Nat->Bool=>pe ts fl
  by_cases hok:cY ts fl b k=true
  ·have w0:oG (cY ts fl b k)=0:=by rw [hok];rfl
   rw [w0]at du;obtain ⟨an2,hr⟩:=w6 (g:=g) (an:=an) he hl hF hk b hok;have xs:=Bm (g:=g) (an:=an) hl hF hk b;rw [if_pos hok]at xs;have sx:∀s1:Fs,hG 4 3 bq aX (ag (af 7) au) 8 s1 sNx [some (.sh (.list (ns.map PyData.int))),some (.sh (.list (av ts))),some (.ol []),some (.oi none "Easel" (aO ts g fl an)),some (stO ts fl),some (.sh (.int x)),some (.sh (.int z)),some (.sh (bL b k)),some (.sh (.int 0))]=.ok (.nx [some (.sh (.list (ns.map PyData.int))),some (.sh (.list (av ts))),some (.ol []),some (.oi none "Easel" (aO ts g (d8 fl k b) an2)),some (stO ts fl),some (.sh (.int x)),some (.sh (.int z)),some (.sh (bL b k)),some (.sh (.int 0))]):=λs1=>DQ rfl rfl rfl xs hr
   have dc:gi 8 4 b8 (ag (af 7) au) [some (.sh (.list (ns.map PyData.int))),some (.sh (.list (av ts))),some (.ol []),some (.oi none "Easel" (aO ts g (d8 fl k b) an2)),some (stO ts fl),some (.sh (.int x)),some (.sh (.int z)),some (.sh (bL b k)),some (.sh (.int 0))]=.ok (.nx [some (.sh (.list (ns.map PyData.int))),some (.sh (.list (av ts))),some (.ol []),some (.oi none "Easel" (aO ts g (d8 fl k b) an2)),some (stO ts (d8 fl k b)),some (.sh (.int x)),some (.sh (.int z)),some (.sh (bL b k)),some (.sh (.int 0))]):=vJ p hl hk rfl rfl;push_cast only [hz,bu,hdd,pL,pY,Option.map_some,Option.map_none,lK,es,se,du,↓sx,↓dc,↓d1,↓d2,↓d31,↓d30,lk];refine ⟨d8 fl k b,an2,_,_,_,_,ua hF λ_=>?_,rfl⟩
   unfold cY at hok;rw [Zv]at hok;exact hok.1
  ·have w0:oG (cY ts fl b k)=2:=by
    unfold oG;rw [if_neg hok]
   rw [w0]at du;have xs:=Bm (g:=g) (an:=an) hl hF hk b;rw [if_neg hok]at xs;have sx:∀s1:Fs,hG 4 3 bq aX (ag (af 7) au) 8 s1 sNx [some (.sh (.list (ns.map PyData.int))),some (.sh (.list (av ts))),some (.ol []),some (.oi none "Easel" (aO ts g fl an)),some (stO ts fl),some (.sh (.int x)),some (.sh (.int z)),some (.sh (bL b k)),some (.sh (.int 2))]=.ok (.nx [some (.sh (.list (ns.map PyData.int))),some (.sh (.list (av ts))),some (.ol []),some (.oi none "Easel" (aO ts g fl an)),some (stO ts fl),some (.sh (.int x)),some (.sh (.int z)),some (.sh (bL b k)),some (.sh (.int 2))]):=λs1=>CU rfl rfl rfl xs
   push_cast only [hz,bu,hdd,pL,pY,Option.map_some,Option.map_none,lK,es,se,du,↓sx,↓d1,↓d2,↓d31,↓d30,lk];exact ⟨fl,an,_,_,_,_,hF,rfl⟩
 ·rintro ρ' rfl ⟨fl,an,v5,v6,v7,v8,hF,rfl⟩
  push_cast only [and_self]
theorem all_mk {l:PySem.W.OpenLaw} {w:World} {K:PySem.W.Frag} {h:Heap} {mg:Str->Option Value} {fa:Addr} (X:K.In h) (G:h.Ns mainGlobals mg) (hfa:mg "law" = some (.ref fa))
  {c_DrawError c_NoDeed c_NoNode c_NoPlace c_NoTree:Addr}
  {c_Easel A1 A2 f_Easel___init__ f_Easel_whole f_Easel_folded A3 A4 A5 A6 A7 A8 A9 A10 A11 A12 A13 A14 A15 A16 A17 A18 A19 A20 f_Easel_seen f_Easel_settle f_Easel_fold f_Easel_unfold A21 A22 A23 A24 A25:Addr}
  {D1 E1 D2 E2 od_Easel___init__ an_Easel___init__ od_Easel_whole an_Easel_whole od_Easel_folded an_Easel_folded D3 E3 D4 E4 D5 E5 D6 E6 D7 E7 D8 E8 D9 E9 D10 E10 D11 E11 D12 E12 D13 E13 D14 E14 D15 E15 D16 E16 D17 E17 D18 E18 D19 E19 D20 E20 od_Easel_seen an_Easel_seen od_Easel_settle an_Easel_settle od_Easel_fold an_Easel_fold od_Easel_unfold an_Easel_unfold D21 E21 D22 E22 D23 E23 D24 E24 D25 E25:Option Addr}
  {J1 J2 sl_Easel___init__ sl_Easel_whole sl_Easel_folded J3 J4 J5 J6 J7 J8 J9 J10 J11 J12 J13 J14 J15 J16 J17 J18 J19 J20 sl_Easel_seen sl_Easel_settle sl_Easel_fold sl_Easel_unfold J21 J22 J23 J24 J25:Array (Option Value)}
  {K1 N1 O1 Q1 U1 V1 K2 N2 O2 Q2 U2 V2 oc_Easel___init__ kV_Easel___init__ dc_Easel___init__ pm_Easel___init__ cd_Easel___init__ ct_Easel___init__ oc_Easel_whole kV_Easel_whole dc_Easel_whole pm_Easel_whole cd_Easel_whole ct_Easel_whole oc_Easel_folded kV_Easel_folded dc_Easel_folded pm_Easel_folded cd_Easel_folded ct_Easel_folded K3 N3 O3 Q3 U3 V3 K4 N4 O4 Q4 U4 V4 K5 N5 O5 Q5 U5 V5 K6 N6 O6 Q6 U6 V6 K7 N7 O7 Q7 U7 V7 K8 N8 O8 Q8 U8 V8 K9 N9 O9 Q9 U9 V9 K10 N10 O10 Q10 U10 V10 K11 N11 O11 Q11 U11 V11 K12 N12 O12 Q12 U12 V12 K13 N13 O13 Q13 U13 V13 K14 N14 O14 Q14 U14 V14 K15 N15 O15 Q15 U15 V15 K16 N16 O16 Q16 U16 V16 K17 N17 O17 Q17 U17 V17 K18 N18 O18 Q18 U18 V18 K19 N19 O19 Q19 U19 V19 K20 N20 O20 Q20 U20 V20 oc_Easel_seen kV_Easel_seen dc_Easel_seen pm_Easel_seen cd_Easel_seen ct_Easel_seen oc_Easel_settle kV_Easel_settle dc_Easel_settle pm_Easel_settle cd_Easel_settle ct_Easel_settle oc_Easel_fold kV_Easel_fold dc_Easel_fold pm_Easel_fold cd_Easel_fold ct_Easel_fold oc_Easel_unfold kV_Easel_unfold dc_Easel_unfold pm_Easel_unfold cd_Easel_unfold ct_Easel_unfold K21 N21 O21 Q21 U21 V21 K22 N22 O22 Q22 U22 V22 K23 N23 O23 Q23 U23 V23 K24 N24 O24 Q24 U24 V24 K25 N25 O25 Q25 U25 V25:Value}
  (ca_Easel:PySem.W.nsIn K mainGlobals "Easel" = some (some (.ref c_Easel)))
  (W1:PySem.W.nsIn K mainGlobals "check_node" = some (some (.ref A1)))
  (X1:K.lookup A1=some ⟨K1,D1,.func (PySem.W.fnOf "check_node" "check_node" (aQ bp) (aI bp) (aj bp) .none N1 O1 Q1 E1 U1 V1),J1⟩)
  (Y1:PySem.W.codeIn K U1 "check_node" = true)
  (a_1:PySem.W.keepIn K (.ref A1)=true)
  (W2:PySem.W.nsIn K mainGlobals "renumbered" = some (some (.ref A2)))
  (X2:K.lookup A2=some ⟨K2,D2,.func (PySem.W.fnOf "renumbered" "renumbered" (aQ b6) (aI b6) (aj b6) .none N2 O2 Q2 E2 U2 V2),J2⟩)
  (Y2:PySem.W.codeIn K U2 "renumbered" = true)
  (a_2:PySem.W.keepIn K (.ref A2)=true)
  (a_Easel___init__:PySem.W.findIn K (.ref c_Easel) "__init__" = some (some (.ref f_Easel___init__)))
  (i_Easel___init__:PySem.W.isFn K (.ref f_Easel___init__)=true)
  (l_Easel___init__:K.lookup f_Easel___init__=some ⟨oc_Easel___init__,od_Easel___init__,.func (PySem.W.fnOf "__init__" "Easel.__init__" (aQ bH) (aI bH) (aj bH) .none kV_Easel___init__ dc_Easel___init__ pm_Easel___init__ an_Easel___init__ cd_Easel___init__ ct_Easel___init__),sl_Easel___init__⟩)
  (c_Easel___init__:PySem.W.codeIn K cd_Easel___init__ "Easel.__init__" = true)
  (k_Easel___init__:PySem.W.keepIn K (.ref f_Easel___init__)=true)
  (a_Easel_whole:PySem.W.findIn K (.ref c_Easel) "whole" = some (some (.ref f_Easel_whole)))
  (i_Easel_whole:PySem.W.isFn K (.ref f_Easel_whole)=true)
  (l_Easel_whole:K.lookup f_Easel_whole=some ⟨oc_Easel_whole,od_Easel_whole,.func (PySem.W.fnOf "whole" "Easel.whole" (aQ b7) (aI b7) (aj b7) .none kV_Easel_whole dc_Easel_whole pm_Easel_whole an_Easel_whole cd_Easel_whole ct_Easel_whole),sl_Easel_whole⟩)
  (c_Easel_whole:PySem.W.codeIn K cd_Easel_whole "Easel.whole" = true)
  (k_Easel_whole:PySem.W.keepIn K (.ref f_Easel_whole)=true)
  (a_Easel_folded:PySem.W.findIn K (.ref c_Easel) "folded" = some (some (.ref f_Easel_folded)))
  (i_Easel_folded:PySem.W.isFn K (.ref f_Easel_folded)=true)
  (l_Easel_folded:K.lookup f_Easel_folded=some ⟨oc_Easel_folded,od_Easel_folded,.func (PySem.W.fnOf "folded" "Easel.folded" (aQ bQ) (aI bQ) (aj bQ) .none kV_Easel_folded dc_Easel_folded pm_Easel_folded an_Easel_folded cd_Easel_folded ct_Easel_folded),sl_Easel_folded⟩)
  (c_Easel_folded:PySem.W.codeIn K cd_Easel_folded "Easel.folded" = true)
  (k_Easel_folded:PySem.W.keepIn K (.ref f_Easel_folded)=true)
  (W3:PySem.W.nsIn K mainGlobals "unchanged" = some (some (.ref A3)))
  (X3:K.lookup A3=some ⟨K3,D3,.func (PySem.W.fnOf "unchanged" "unchanged" (aQ cx) (aI cx) (aj cx) .none N3 O3 Q3 E3 U3 V3),J3⟩)
  (Y3:PySem.W.codeIn K U3 "unchanged" = true)
  (a_3:PySem.W.keepIn K (.ref A3)=true)
  (W4:PySem.W.nsIn K mainGlobals "kept_folds" = some (some (.ref A4)))
  (X4:K.lookup A4=some ⟨K4,D4,.func (PySem.W.fnOf "kept_folds" "kept_folds" (aQ bY) (aI bY) (aj bY) .none N4 O4 Q4 E4 U4 V4),J4⟩)
  (Y4:PySem.W.codeIn K U4 "kept_folds" = true)
  (a_4:PySem.W.keepIn K (.ref A4)=true)
  (W5:PySem.W.nsIn K mainGlobals "with_elders" = some (some (.ref A5)))
  (X5:K.lookup A5=some ⟨K5,D5,.func (PySem.W.fnOf "with_elders" "with_elders" (aQ cE) (aI cE) (aj cE) .none N5 O5 Q5 E5 U5 V5),J5⟩)
  (Y5:PySem.W.codeIn K U5 "with_elders" = true)
  (a_5:PySem.W.keepIn K (.ref A5)=true)
  (W6:PySem.W.nsIn K mainGlobals "_law_cell" = some (some (.ref A6)))
  (X6:K.lookup A6=some ⟨K6,D6,.func (PySem.W.fnOf "_law_cell" "_law_cell" (aQ cS) (aI cS) (aj cS) .none N6 O6 Q6 E6 U6 V6),J6⟩)
  (Y6:PySem.W.codeIn K U6 "_law_cell" = true)
  (a_6:PySem.W.keepIn K (.ref A6)=true)
  (W7:PySem.W.nsIn K mainGlobals "_law_whole" = some (some (.ref A7)))
  (X7:K.lookup A7=some ⟨K7,D7,.func (PySem.W.fnOf "_law_whole" "_law_whole" (aQ bV) (aI bV) (aj bV) .none N7 O7 Q7 E7 U7 V7),J7⟩)
  (Y7:PySem.W.codeIn K U7 "_law_whole" = true)
  (a_7:PySem.W.keepIn K (.ref A7)=true)
  (W8:PySem.W.nsIn K mainGlobals "_law_label" = some (some (.ref A8)))
  (X8:K.lookup A8=some ⟨K8,D8,.func (PySem.W.fnOf "_law_label" "_law_label" (aQ cQ) (aI cQ) (aj cQ) .none N8 O8 Q8 E8 U8 V8),J8⟩)
  (Y8:PySem.W.codeIn K U8 "_law_label" = true)
  (a_8:PySem.W.keepIn K (.ref A8)=true)
  (W9:PySem.W.nsIn K mainGlobals "_law_start" = some (some (.ref A9)))
  (X9:K.lookup A9=some ⟨K9,D9,.func (PySem.W.fnOf "_law_start" "_law_start" (aQ b_) (aI b_) (aj b_) .none N9 O9 Q9 E9 U9 V9),J9⟩)
  (Y9:PySem.W.codeIn K U9 "_law_start" = true)
  (a_9:PySem.W.keepIn K (.ref A9)=true)
  (W10:PySem.W.nsIn K mainGlobals "_law_order" = some (some (.ref A10)))
  (X10:K.lookup A10=some ⟨K10,D10,.func (PySem.W.fnOf "_law_order" "_law_order" (aQ cb) (aI cb) (aj cb) .none N10 O10 Q10 E10 U10 V10),J10⟩)
  (Y10:PySem.W.codeIn K U10 "_law_order" = true)
  (a_10:PySem.W.keepIn K (.ref A10)=true)
  (W11:PySem.W.nsIn K mainGlobals "_law_elders" = some (some (.ref A11)))
  (X11:K.lookup A11=some ⟨K11,D11,.func (PySem.W.fnOf "_law_elders" "_law_elders" (aQ cF) (aI cF) (aj cF) .none N11 O11 Q11 E11 U11 V11),J11⟩)
  (Y11:PySem.W.codeIn K U11 "_law_elders" = true)
  (a_11:PySem.W.keepIn K (.ref A11)=true)
  (W12:PySem.W.nsIn K mainGlobals "_law_drawn_deed" = some (some (.ref A12)))
  (X12:K.lookup A12=some ⟨K12,D12,.func (PySem.W.fnOf "_law_drawn_deed" "_law_drawn_deed" (aQ bt) (aI bt) (aj bt) .none N12 O12 Q12 E12 U12 V12),J12⟩)
  (Y12:PySem.W.codeIn K U12 "_law_drawn_deed" = true)
  (a_12:PySem.W.keepIn K (.ref A12)=true)
  (W13:PySem.W.nsIn K mainGlobals "children_of" = some (some (.ref A13)))
  (X13:K.lookup A13=some ⟨K13,D13,.func (PySem.W.fnOf "children_of" "children_of" (aQ bN) (aI bN) (aj bN) .none N13 O13 Q13 E13 U13 V13),J13⟩)
  (Y13:PySem.W.codeIn K U13 "children_of" = true)
  (a_13:PySem.W.keepIn K (.ref A13)=true)
  (W14:PySem.W.nsIn K mainGlobals "shown" = some (some (.ref A14)))
  (X14:K.lookup A14=some ⟨K14,D14,.func (PySem.W.fnOf "shown" "shown" (aQ gw) (aI gw) (aj gw) .none N14 O14 Q14 E14 U14 V14),J14⟩)
  (Y14:PySem.W.codeIn K U14 "shown" = true)
  (a_14:PySem.W.keepIn K (.ref A14)=true)
  (W15:PySem.W.nsIn K mainGlobals "check_unfold" = some (some (.ref A15)))
  (X15:K.lookup A15=some ⟨K15,D15,.func (PySem.W.fnOf "check_unfold" "check_unfold" (aQ bA) (aI bA) (aj bA) .none N15 O15 Q15 E15 U15 V15),J15⟩)
  (Y15:PySem.W.codeIn K U15 "check_unfold" = true)
  (a_15:PySem.W.keepIn K (.ref A15)=true)
  (W16:PySem.W.nsIn K mainGlobals "_law_tree" = some (some (.ref A16)))
  (X16:K.lookup A16=some ⟨K16,D16,.func (PySem.W.fnOf "_law_tree" "_law_tree" (aQ da) (aI da) (aj da) .none N16 O16 Q16 E16 U16 V16),J16⟩)
  (Y16:PySem.W.codeIn K U16 "_law_tree" = true)
  (a_16:PySem.W.keepIn K (.ref A16)=true)
  (W17:PySem.W.nsIn K mainGlobals "_law_rows" = some (some (.ref A17)))
  (X17:K.lookup A17=some ⟨K17,D17,.func (PySem.W.fnOf "_law_rows" "_law_rows" (aQ dg) (aI dg) (aj dg) .none N17 O17 Q17 E17 U17 V17),J17⟩)
  (Y17:PySem.W.codeIn K U17 "_law_rows" = true)
  (a_17:PySem.W.keepIn K (.ref A17)=true)
  (W18:PySem.W.nsIn K mainGlobals "_law_due" = some (some (.ref A18)))
  (X18:K.lookup A18=some ⟨K18,D18,.func (PySem.W.fnOf "_law_due" "_law_due" (aQ dU) (aI dU) (aj dU) .none N18 O18 Q18 E18 U18 V18),J18⟩)
  (Y18:PySem.W.codeIn K U18 "_law_due" = true)
  (a_18:PySem.W.keepIn K (.ref A18)=true)
  (W19:PySem.W.nsIn K mainGlobals "_law_done" = some (some (.ref A19)))
  (X19:K.lookup A19=some ⟨K19,D19,.func (PySem.W.fnOf "_law_done" "_law_done" (aQ dh) (aI dh) (aj dh) .none N19 O19 Q19 E19 U19 V19),J19⟩)
  (Y19:PySem.W.codeIn K U19 "_law_done" = true)
  (a_19:PySem.W.keepIn K (.ref A19)=true)
  (W20:PySem.W.nsIn K mainGlobals "check_fold" = some (some (.ref A20)))
  (X20:K.lookup A20=some ⟨K20,D20,.func (PySem.W.fnOf "check_fold" "check_fold" (aQ b9) (aI b9) (aj b9) .none N20 O20 Q20 E20 U20 V20),J20⟩)
  (Y20:PySem.W.codeIn K U20 "check_fold" = true)
  (a_20:PySem.W.keepIn K (.ref A20)=true)
  (a_Easel_seen:PySem.W.findIn K (.ref c_Easel) "seen" = some (some (.ref f_Easel_seen)))
  (i_Easel_seen:PySem.W.isFn K (.ref f_Easel_seen)=true)
  (l_Easel_seen:K.lookup f_Easel_seen=some ⟨oc_Easel_seen,od_Easel_seen,.func (PySem.W.fnOf "seen" "Easel.seen" (aQ cg) (aI cg) (aj cg) .none kV_Easel_seen dc_Easel_seen pm_Easel_seen an_Easel_seen cd_Easel_seen ct_Easel_seen),sl_Easel_seen⟩)
  (c_Easel_seen:PySem.W.codeIn K cd_Easel_seen "Easel.seen" = true)
  (k_Easel_seen:PySem.W.keepIn K (.ref f_Easel_seen)=true)
  (a_Easel_settle:PySem.W.findIn K (.ref c_Easel) "settle" = some (some (.ref f_Easel_settle)))
  (i_Easel_settle:PySem.W.isFn K (.ref f_Easel_settle)=true)
  (l_Easel_settle:K.lookup f_Easel_settle=some ⟨oc_Easel_settle,od_Easel_settle,.func (PySem.W.fnOf "settle" "Easel.settle" (aQ aY) (aI aY) (aj aY) .none kV_Easel_settle dc_Easel_settle pm_Easel_settle an_Easel_settle cd_Easel_settle ct_Easel_settle),sl_Easel_settle⟩)
  (c_Easel_settle:PySem.W.codeIn K cd_Easel_settle "Easel.settle" = true)
  (k_Easel_settle:PySem.W.keepIn K (.ref f_Easel_settle)=true)
  (a_Easel_fold:PySem.W.findIn K (.ref c_Easel) "fold" = some (some (.ref f_Easel_fold)))
  (i_Easel_fold:PySem.W.isFn K (.ref f_Easel_fold)=true)
  (l_Easel_fold:K.lookup f_Easel_fold=some ⟨oc_Easel_fold,od_Easel_fold,.func (PySem.W.fnOf "fold" "Easel.fold" (aQ cj) (aI cj) (aj cj) .none kV_Easel_fold dc_Easel_fold pm_Easel_fold an_Easel_fold cd_Easel_fold ct_Easel_fold),sl_Easel_fold⟩)
  (c_Easel_fold:PySem.W.codeIn K cd_Easel_fold "Easel.fold" = true)
  (k_Easel_fold:PySem.W.keepIn K (.ref f_Easel_fold)=true)
  (a_Easel_unfold:PySem.W.findIn K (.ref c_Easel) "unfold" = some (some (.ref f_Easel_unfold)))
  (i_Easel_unfold:PySem.W.isFn K (.ref f_Easel_unfold)=true)
  (l_Easel_unfold:K.lookup f_Easel_unfold=some ⟨oc_Easel_unfold,od_Easel_unfold,.func (PySem.W.fnOf "unfold" "Easel.unfold" (aQ bh) (aI bh) (aj bh) .none kV_Easel_unfold dc_Easel_unfold pm_Easel_unfold an_Easel_unfold cd_Easel_unfold ct_Easel_unfold),sl_Easel_unfold⟩)
  (c_Easel_unfold:PySem.W.codeIn K cd_Easel_unfold "Easel.unfold" = true)
  (k_Easel_unfold:PySem.W.keepIn K (.ref f_Easel_unfold)=true)
  (W21:PySem.W.nsIn K mainGlobals "_law_do" = some (some (.ref A21)))
  (X21:K.lookup A21=some ⟨K21,D21,.func (PySem.W.fnOf "_law_do" "_law_do" (aQ dE) (aI dE) (aj dE) .none N21 O21 Q21 E21 U21 V21),J21⟩)
  (Y21:PySem.W.codeIn K U21 "_law_do" = true)
  (a_21:PySem.W.keepIn K (.ref A21)=true)
  (W22:PySem.W.nsIn K mainGlobals "_law_alike" = some (some (.ref A22)))
  (X22:K.lookup A22=some ⟨K22,D22,.func (PySem.W.fnOf "_law_alike" "_law_alike" (aQ a7) (aI a7) (aj a7) .none N22 O22 Q22 E22 U22 V22),J22⟩)
  (Y22:PySem.W.codeIn K U22 "_law_alike" = true)
  (a_22:PySem.W.keepIn K (.ref A22)=true)
  (W23:PySem.W.nsIn K mainGlobals "_law_said" = some (some (.ref A23)))
  (X23:K.lookup A23=some ⟨K23,D23,.func (PySem.W.fnOf "_law_said" "_law_said" (aQ cR) (aI cR) (aj cR) .none N23 O23 Q23 E23 U23 V23),J23⟩)
  (Y23:PySem.W.codeIn K U23 "_law_said" = true)
  (a_23:PySem.W.keepIn K (.ref A23)=true)
  (W24:PySem.W.nsIn K mainGlobals "_law_looks" = some (some (.ref A24)))
  (X24:K.lookup A24=some ⟨K24,D24,.func (PySem.W.fnOf "_law_looks" "_law_looks" (aQ cn) (aI cn) (aj cn) .none N24 O24 Q24 E24 U24 V24),J24⟩)
  (Y24:PySem.W.codeIn K U24 "_law_looks" = true)
  (a_24:PySem.W.keepIn K (.ref A24)=true)
  (W25:PySem.W.nsIn K mainGlobals "law" = some (some (.ref A25)))
  (X25:K.lookup A25=some ⟨K25,D25,.func (PySem.W.fnOf "law" "law" (aQ ke) (aI ke) (aj ke) .none N25 O25 Q25 E25 U25 V25),J25⟩)
  (Y25:PySem.W.codeIn K U25 "law" = true)
  (a_25:PySem.W.keepIn K (.ref A25)=true)
  (pg_Easel:PySem.W.plainGet K c_Easel Str.empty=true)
  (hd_Easel:PySem.W.hasDictIn K c_Easel=true)
  (po_Easel:PySem.W.plainOver K c_Easel=true)
  (sa_Easel:PySem.W.findIn K (.ref c_Easel) "__setattr__" = some (some (.builtin "object.__setattr__")))
  (mk_Easel:PySem.W.makesIn K c_Easel=true)
  (kc_Easel:PySem.W.keepIn K (.ref c_Easel)=true)
  (cc_Easel:PySem.W.findIn K (.ref c_Easel) "__class__" = some (some (.builtin "object.__class__")))
  (mo_Easel:PySem.W.mroIn K c_Easel (.type "object")=some true)
  (na_Easel_tree:PySem.W.findIn K (.ref c_Easel) "tree" = some none)
  (na_Easel_gap:PySem.W.findIn K (.ref c_Easel) "gap" = some none)
  (na_Easel_folds:PySem.W.findIn K (.ref c_Easel) "folds" = some none)
  (na_Easel_anew:PySem.W.findIn K (.ref c_Easel) "anew" = some none)
  (me_Easel_fold:PySem.W.findIn K (.ref c_Easel) "fold" = some (some (.ref f_Easel_fold)))
  (me_Easel_folded:PySem.W.findIn K (.ref c_Easel) "folded" = some (some (.ref f_Easel_folded)))
  (me_Easel_seen:PySem.W.findIn K (.ref c_Easel) "seen" = some (some (.ref f_Easel_seen)))
  (me_Easel_settle:PySem.W.findIn K (.ref c_Easel) "settle" = some (some (.ref f_Easel_settle)))
  (me_Easel_unfold:PySem.W.findIn K (.ref c_Easel) "unfold" = some (some (.ref f_Easel_unfold)))
  (me_Easel_whole:PySem.W.findIn K (.ref c_Easel) "whole" = some (some (.ref f_Easel_whole)))
  (q_Easel_Easel:PySem.W.kitOne K (.ref c_Easel) (.ref c_Easel)=some true)
  (gg:PySem.W.specialIn K (.builtin "object.__class__") "__get__" = some (some (.builtin "getset_descriptor.__get__")))
  (gt:PySem.W.takesIn K (.builtin "object.__class__")=some true)
  (z_ValueError:PySem.W.nsIn K mainGlobals "ValueError" = some none)
  (z_bool:PySem.W.nsIn K mainGlobals "bool" = some none)
  (z_enumerate:PySem.W.nsIn K mainGlobals "enumerate" = some none)
  (z_int:PySem.W.nsIn K mainGlobals "int" = some none)
  (z_isinstance:PySem.W.nsIn K mainGlobals "isinstance" = some none)
  (z_len:PySem.W.nsIn K mainGlobals "len" = some none)
  (z_list:PySem.W.nsIn K mainGlobals "list" = some none)
  (z_min:PySem.W.nsIn K mainGlobals "min" = some none)
  (z_range:PySem.W.nsIn K mainGlobals "range" = some none)
  (z_sorted:PySem.W.nsIn K mainGlobals "sorted" = some none)
  (z_str:PySem.W.nsIn K mainGlobals "str" = some none)
  (z_tuple:PySem.W.nsIn K mainGlobals "tuple" = some none)
  (z_zip:PySem.W.nsIn K mainGlobals "zip" = some none) (ca_DrawError:PySem.W.nsIn K mainGlobals "DrawError" = some (some (.ref c_DrawError))) (ca_NoDeed:PySem.W.nsIn K mainGlobals "NoDeed" = some (some (.ref c_NoDeed))) (ca_NoNode:PySem.W.nsIn K mainGlobals "NoNode" = some (some (.ref c_NoNode))) (ca_NoPlace:PySem.W.nsIn K mainGlobals "NoPlace" = some (some (.ref c_NoPlace))) (ca_NoTree:PySem.W.nsIn K mainGlobals "NoTree" = some (some (.ref c_NoTree)))(x_NoDeed1:PySem.W.excIn K c_NoDeed [.type "ValueError",.type "Exception",.type "BaseException",.type "object"] "ValueError.__new__" = true)(x_NoDeed2:PySem.W.findIn K (.ref c_NoDeed) "__getattribute__" = some (some (.builtin "BaseException.__getattribute__")))(x_NoDeed3:PySem.W.findIn K (.ref c_NoDeed) "__class__" = some (some (.builtin "object.__class__")))(x_NoDeed4:PySem.W.findIn K (.ref c_NoDeed) "__getattr__" = some none)(x_NoDeed5:PySem.W.mroIn K c_NoDeed (.type "object")=some true)(x_NoNode1:PySem.W.excIn K c_NoNode [.type "ValueError",.type "Exception",.type "BaseException",.type "object"] "ValueError.__new__" = true)(x_NoNode2:PySem.W.findIn K (.ref c_NoNode) "__getattribute__" = some (some (.builtin "BaseException.__getattribute__")))(x_NoNode3:PySem.W.findIn K (.ref c_NoNode) "__class__" = some (some (.builtin "object.__class__")))(x_NoNode4:PySem.W.findIn K (.ref c_NoNode) "__getattr__" = some none)(x_NoNode5:PySem.W.mroIn K c_NoNode (.type "object")=some true) (h_DrawError:PySem.W.excIn K c_DrawError [.type "ValueError",.type "Exception",.type "BaseException",.type "object"] "ValueError.__new__" = true) (u_NoDeed_DrawError:PySem.W.subIn K (.ref c_NoDeed) (.ref c_DrawError)=some true) (u_NoNode_DrawError:PySem.W.subIn K (.ref c_NoNode) (.ref c_DrawError)=some true) (k_NoDeed_NoDeed:PySem.W.kitOne K (.ref c_NoDeed) (.ref c_NoDeed)=some true) (k_NoDeed_NoNode:PySem.W.kitOne K (.ref c_NoDeed) (.ref c_NoNode)=some false) (k_NoDeed_NoPlace:PySem.W.kitOne K (.ref c_NoDeed) (.ref c_NoPlace)=some false) (k_NoDeed_NoTree:PySem.W.kitOne K (.ref c_NoDeed) (.ref c_NoTree)=some false) (k_NoNode_NoDeed:PySem.W.kitOne K (.ref c_NoNode) (.ref c_NoDeed)=some false) (k_NoNode_NoNode:PySem.W.kitOne K (.ref c_NoNode) (.ref c_NoNode)=some true) (k_NoNode_NoPlace:PySem.W.kitOne K (.ref c_NoNode) (.ref c_NoPlace)=some false) (k_NoNode_NoTree:PySem.W.kitOne K (.ref c_NoNode) (.ref c_NoTree)=some false) (v_NoDeed_ValueError:PySem.W.kitOne K (.ref c_NoDeed) (.type "ValueError")=some true) (v_NoNode_ValueError:PySem.W.kitOne K (.ref c_NoNode) (.type "ValueError")=some true) :
  ∃fd:FuncData,(∀(s:Shared) (v:Value),BindsTo s fd ⟨[v],[]⟩ [("_law_script",v)])/\∀base:Heap,K.In base->base.Ns mainGlobals mg->FnOk l.prog w K mg base CX0 8 fa fd ["_law_script"] (sp3 K mg mh):=by
 have e:=hfa.symm.trans (PySem.W.mg_of X G W25);cases e;have T:Txt K mg:=⟨PySem.W.mg_none_of X G z_ValueError,PySem.W.mg_none_of X G z_bool,PySem.W.mg_none_of X G z_enumerate,PySem.W.mg_none_of X G z_int,PySem.W.mg_none_of X G z_isinstance,PySem.W.mg_none_of X G z_len,PySem.W.mg_none_of X G z_list,PySem.W.mg_none_of X G z_min,PySem.W.mg_none_of X G z_range,PySem.W.mg_none_of X G z_sorted,PySem.W.mg_none_of X G z_str,PySem.W.mg_none_of X G z_tuple,PySem.W.mg_none_of X G z_zip,⟨c_DrawError,c_NoDeed,c_NoNode,c_NoPlace,c_NoTree,PySem.W.mg_of X G ca_DrawError,PySem.W.mg_of X G ca_NoDeed,PySem.W.mg_of X G ca_NoNode,PySem.W.mg_of X G ca_NoPlace,PySem.W.mg_of X G ca_NoTree,⟨x_NoDeed1,x_NoDeed2,x_NoDeed3,x_NoDeed4,x_NoDeed5⟩,⟨x_NoNode1,x_NoNode2,x_NoNode3,x_NoNode4,x_NoNode5⟩,h_DrawError,u_NoDeed_DrawError,u_NoNode_DrawError,k_NoDeed_NoDeed,k_NoDeed_NoNode,k_NoDeed_NoPlace,k_NoDeed_NoTree,k_NoNode_NoDeed,k_NoNode_NoNode,k_NoNode_NoPlace,k_NoNode_NoTree,v_NoDeed_ValueError,v_NoNode_ValueError⟩⟩;have O:Obs K mg c_Easel f_Easel___init__ f_Easel_whole f_Easel_folded f_Easel_seen f_Easel_settle f_Easel_fold f_Easel_unfold:=⟨ca_Easel,PySem.W.mg_of X G ca_Easel,⟨⟨pg_Easel,hd_Easel,po_Easel,sa_Easel⟩,cc_Easel,gg,gt,mo_Easel⟩,⟨mk_Easel,a_Easel___init__,i_Easel___init__,kc_Easel⟩,na_Easel_tree,na_Easel_gap,na_Easel_folds,na_Easel_anew,⟨me_Easel_fold,i_Easel_fold,k_Easel_fold⟩,⟨me_Easel_folded,i_Easel_folded,k_Easel_folded⟩,⟨me_Easel_seen,i_Easel_seen,k_Easel_seen⟩,⟨me_Easel_settle,i_Easel_settle,k_Easel_settle⟩,⟨me_Easel_unfold,i_Easel_unfold,k_Easel_unfold⟩,⟨me_Easel_whole,i_Easel_whole,k_Easel_whole⟩,q_Easel_Easel⟩;have d_1:=bz (st:=bp) X1 Y1 a_1;have b_1:Def K mg "check_node" bp ["tree", "node"] _ _:=⟨d_1,PySem.W.mg_of X G W1,d_1.binds (ps:=["tree", "node"]) λ_ _ _ _ _ _ us hl=>by obtain ⟨_,_,rfl⟩:=ex2 hl;rfl⟩
 have d_2:=bz (st:=b6) X2 Y2 a_2;have b_2:Def K mg "renumbered" b6 ["rows", "numbers"] _ _:=⟨d_2,PySem.W.mg_of X G W2,d_2.binds (ps:=["rows", "numbers"]) λ_ _ _ _ _ _ us hl=>by obtain ⟨_,_,rfl⟩:=ex2 hl;rfl⟩
 have F_Easel___init__:=bz (st:=bH) l_Easel___init__ c_Easel___init__ k_Easel___init__;have D_Easel___init__:DefM K "__init__" "Easel.__init__" bH ["self", "tree", "gap"] _ _:=⟨F_Easel___init__,F_Easel___init__.binds (ps:=["self", "tree", "gap"]) λ_ _ _ _ _ _ us hl=>by obtain ⟨_,_,_,rfl⟩:=ex3 hl;rfl⟩
 have F_Easel_whole:=bz (st:=b7) l_Easel_whole c_Easel_whole k_Easel_whole;have D_Easel_whole:DefM K "whole" "Easel.whole" b7 ["self"] _ _:=⟨F_Easel_whole,F_Easel_whole.binds (ps:=["self"]) λ_ _ _ _ _ _ us hl=>by obtain ⟨_,rfl⟩:=ex1 hl;rfl⟩
 have F_Easel_folded:=bz (st:=bQ) l_Easel_folded c_Easel_folded k_Easel_folded;have D_Easel_folded:DefM K "folded" "Easel.folded" bQ ["self"] _ _:=⟨F_Easel_folded,F_Easel_folded.binds (ps:=["self"]) λ_ _ _ _ _ _ us hl=>by obtain ⟨_,rfl⟩:=ex1 hl;rfl⟩
 have d_3:=bz (st:=cx) X3 Y3 a_3;have b_3:Def K mg "unchanged" cx ["tree"] _ _:=⟨d_3,PySem.W.mg_of X G W3,d_3.binds (ps:=["tree"]) λ_ _ _ _ _ _ us hl=>by obtain ⟨_,rfl⟩:=ex1 hl;rfl⟩
 have d_4:=bz (st:=bY) X4 Y4 a_4;have b_4:Def K mg "kept_folds" bY ["changed", "folds"] _ _:=⟨d_4,PySem.W.mg_of X G W4,d_4.binds (ps:=["changed", "folds"]) λ_ _ _ _ _ _ us hl=>by obtain ⟨_,_,rfl⟩:=ex2 hl;rfl⟩
 have d_5:=bz (st:=cE) X5 Y5 a_5;have b_5:Def K mg "with_elders" cE ["tree", "nodes"] _ _:=⟨d_5,PySem.W.mg_of X G W5,d_5.binds (ps:=["tree", "nodes"]) λ_ _ _ _ _ _ us hl=>by obtain ⟨_,_,rfl⟩:=ex2 hl;rfl⟩
 have d_6:=bz (st:=cS) X6 Y6 a_6;have b_6:Def K mg "_law_cell" cS ["_law_script", "_law_k"] _ _:=⟨d_6,PySem.W.mg_of X G W6,d_6.binds (ps:=["_law_script", "_law_k"]) λ_ _ _ _ _ _ us hl=>by obtain ⟨_,_,rfl⟩:=ex2 hl;rfl⟩
 have d_7:=bz (st:=bV) X7 Y7 a_7;have b_7:Def K mg "_law_whole" bV ["_law_found"] _ _:=⟨d_7,PySem.W.mg_of X G W7,d_7.binds (ps:=["_law_found"]) λ_ _ _ _ _ _ us hl=>by obtain ⟨_,rfl⟩:=ex1 hl;rfl⟩
 have d_8:=bz (st:=cQ) X8 Y8 a_8;have b_8:Def K mg "_law_label" cQ ["_law_number", "_law_most"] _ _:=⟨d_8,PySem.W.mg_of X G W8,d_8.binds (ps:=["_law_number", "_law_most"]) λ_ _ _ _ _ _ us hl=>by obtain ⟨_,_,rfl⟩:=ex2 hl;rfl⟩
 have d_9:=bz (st:=b_) X9 Y9 a_9;have b_9:Def K mg "_law_start" b_ ["_law_tree_here"] _ _:=⟨d_9,PySem.W.mg_of X G W9,d_9.binds (ps:=["_law_tree_here"]) λ_ _ _ _ _ _ us hl=>by obtain ⟨_,rfl⟩:=ex1 hl;rfl⟩
 have d_10:=bz (st:=cb) X10 Y10 a_10;have b_10:Def K mg "_law_order" cb ["_law_state", "_law_all_of_them"] _ _:=⟨d_10,PySem.W.mg_of X G W10,d_10.binds (ps:=["_law_state", "_law_all_of_them"]) λ_ _ _ _ _ _ us hl=>by obtain ⟨_,_,rfl⟩:=ex2 hl;rfl⟩
 have d_11:=bz (st:=cF) X11 Y11 a_11;have b_11:Def K mg "_law_elders" cF ["_law_state"] _ _:=⟨d_11,PySem.W.mg_of X G W11,d_11.binds (ps:=["_law_state"]) λ_ _ _ _ _ _ us hl=>by obtain ⟨_,rfl⟩:=ex1 hl;rfl⟩
 have d_12:=bz (st:=bt) X12 Y12 a_12;have b_12:Def K mg "_law_drawn_deed" bt ["_law_number", "_law_size", "_law_kinds"] _ _:=⟨d_12,PySem.W.mg_of X G W12,d_12.binds (ps:=["_law_number", "_law_size", "_law_kinds"]) λ_ _ _ _ _ _ us hl=>by obtain ⟨_,_,_,rfl⟩:=ex3 hl;rfl⟩
 have d_13:=bz (st:=bN) X13 Y13 a_13;have b_13:Def K mg "children_of" bN ["tree", "node"] _ _:=⟨d_13,PySem.W.mg_of X G W13,d_13.binds (ps:=["tree", "node"]) λ_ _ _ _ _ _ us hl=>by obtain ⟨_,_,rfl⟩:=ex2 hl;rfl⟩
 have d_14:=bz (st:=gw) X14 Y14 a_14;have b_14:Def K mg "shown" gw ["tree", "folds"] _ _:=⟨d_14,PySem.W.mg_of X G W14,d_14.binds (ps:=["tree", "folds"]) λ_ _ _ _ _ _ us hl=>by obtain ⟨_,_,rfl⟩:=ex2 hl;rfl⟩
 have d_15:=bz (st:=bA) X15 Y15 a_15;have b_15:Def K mg "check_unfold" bA ["tree", "folds", "node"] _ _:=⟨d_15,PySem.W.mg_of X G W15,d_15.binds (ps:=["tree", "folds", "node"]) λ_ _ _ _ _ _ us hl=>by obtain ⟨_,_,_,rfl⟩:=ex3 hl;rfl⟩
 have d_16:=bz (st:=da) X16 Y16 a_16;have b_16:Def K mg "_law_tree" da ["_law_script", "_law_start_here", "_law_many", "_law_most", "_law_deep"] _ _:=⟨d_16,PySem.W.mg_of X G W16,d_16.binds (ps:=["_law_script", "_law_start_here", "_law_many", "_law_most", "_law_deep"]) λ_ _ _ _ _ _ us hl=>by obtain ⟨_,_,_,_,_,rfl⟩:=ex5 hl;rfl⟩
 have d_17:=bz (st:=dg) X17 Y17 a_17;have b_17:Def K mg "_law_rows" dg ["_law_state", "_law_order_here"] _ _:=⟨d_17,PySem.W.mg_of X G W17,d_17.binds (ps:=["_law_state", "_law_order_here"]) λ_ _ _ _ _ _ us hl=>by obtain ⟨_,_,rfl⟩:=ex2 hl;rfl⟩
 have d_18:=bz (st:=dU) X18 Y18 a_18;have b_18:Def K mg "_law_due" dU ["_law_state", "_law_deed"] _ _:=⟨d_18,PySem.W.mg_of X G W18,d_18.binds (ps:=["_law_state", "_law_deed"]) λ_ _ _ _ _ _ us hl=>by obtain ⟨_,_,rfl⟩:=ex2 hl;rfl⟩
 have d_19:=bz (st:=dh) X19 Y19 a_19;have b_19:Def K mg "_law_done" dh ["_law_state", "_law_deed"] _ _:=⟨d_19,PySem.W.mg_of X G W19,d_19.binds (ps:=["_law_state", "_law_deed"]) λ_ _ _ _ _ _ us hl=>by obtain ⟨_,_,rfl⟩:=ex2 hl;rfl⟩
 have d_20:=bz (st:=b9) X20 Y20 a_20;have b_20:Def K mg "check_fold" b9 ["tree", "folds", "node"] _ _:=⟨d_20,PySem.W.mg_of X G W20,d_20.binds (ps:=["tree", "folds", "node"]) λ_ _ _ _ _ _ us hl=>by obtain ⟨_,_,_,rfl⟩:=ex3 hl;rfl⟩
 have F_Easel_seen:=bz (st:=cg) l_Easel_seen c_Easel_seen k_Easel_seen;have D_Easel_seen:DefM K "seen" "Easel.seen" cg ["self"] _ _:=⟨F_Easel_seen,F_Easel_seen.binds (ps:=["self"]) λ_ _ _ _ _ _ us hl=>by obtain ⟨_,rfl⟩:=ex1 hl;rfl⟩
 have F_Easel_settle:=bz (st:=aY) l_Easel_settle c_Easel_settle k_Easel_settle;have D_Easel_settle:DefM K "settle" "Easel.settle" aY ["self", "changed", "folds", "touched"] _ _:=⟨F_Easel_settle,F_Easel_settle.binds (ps:=["self", "changed", "folds", "touched"]) λ_ _ _ _ _ _ us hl=>by obtain ⟨_,_,_,_,rfl⟩:=ex4 hl;rfl⟩
 have F_Easel_fold:=bz (st:=cj) l_Easel_fold c_Easel_fold k_Easel_fold;have D_Easel_fold:DefM K "fold" "Easel.fold" cj ["self", "node"] _ _:=⟨F_Easel_fold,F_Easel_fold.binds (ps:=["self", "node"]) λ_ _ _ _ _ _ us hl=>by obtain ⟨_,_,rfl⟩:=ex2 hl;rfl⟩
 have F_Easel_unfold:=bz (st:=bh) l_Easel_unfold c_Easel_unfold k_Easel_unfold;have D_Easel_unfold:DefM K "unfold" "Easel.unfold" bh ["self", "node"] _ _:=⟨F_Easel_unfold,F_Easel_unfold.binds (ps:=["self", "node"]) λ_ _ _ _ _ _ us hl=>by obtain ⟨_,_,rfl⟩:=ex2 hl;rfl⟩
 have d_21:=bz (st:=dE) X21 Y21 a_21;have b_21:Def K mg "_law_do" dE ["_law_easel", "_law_deed"] _ _:=⟨d_21,PySem.W.mg_of X G W21,d_21.binds (ps:=["_law_easel", "_law_deed"]) λ_ _ _ _ _ _ us hl=>by obtain ⟨_,_,rfl⟩:=ex2 hl;rfl⟩
 have d_22:=bz (st:=a7) X22 Y22 a_22;have b_22:Def K mg "_law_alike" a7 ["_law_found", "_law_due_here"] _ _:=⟨d_22,PySem.W.mg_of X G W22,d_22.binds (ps:=["_law_found", "_law_due_here"]) λ_ _ _ _ _ _ us hl=>by obtain ⟨_,_,rfl⟩:=ex2 hl;rfl⟩
 have d_23:=bz (st:=cR) X23 Y23 a_23;have b_23:Def K mg "_law_said" cR ["_law_easel", "_law_deed"] _ _:=⟨d_23,PySem.W.mg_of X G W23,d_23.binds (ps:=["_law_easel", "_law_deed"]) λ_ _ _ _ _ _ us hl=>by obtain ⟨_,_,rfl⟩:=ex2 hl;rfl⟩
 have d_24:=bz (st:=cn) X24 Y24 a_24;have b_24:Def K mg "_law_looks" cn ["_law_easel", "_law_state", "_law_turn"] _ _:=⟨d_24,PySem.W.mg_of X G W24,d_24.binds (ps:=["_law_easel", "_law_state", "_law_turn"]) λ_ _ _ _ _ _ us hl=>by obtain ⟨_,_,_,rfl⟩:=ex3 hl;rfl⟩
 have d_25:=bz (st:=ke) X25 Y25 a_25;refine ⟨PySem.W.fnOf "law" "law" (aQ ke) (aI ke) (aj ke) .none N25 O25 Q25 E25 U25 V25,λs v=>.of_eq rfl,λbase _ _=>?_⟩
 have c_1:FnOk l.prog w K mg base CX0 1 _ _ _ _:=oq b_1.F T O;have Gx_check_node:FnOk l.prog w K mg base (CXE l.prog w) 1 _ _ _ _:=oh b_1.F T O;have c_2:FnOk l.prog w K mg base CX0 1 _ _ _ _:=n8 b_2.F T O;have Go_Easel___init__:FnOk l.prog w K mg base CX0 1 _ _ _ _:=kq D_Easel___init__.F T O;have G_Easel_whole:FnOk l.prog w K mg base CX0 1 _ _ _ _:=mv D_Easel_whole.F T O;have G_Easel_folded:FnOk l.prog w K mg base CX0 1 _ _ _ _:=lU D_Easel_folded.F T O;have c_3:FnOk l.prog w K mg base CX0 1 _ _ _ _:=qf b_3.F T O;have c_4:FnOk l.prog w K mg base CX0 1 _ _ _ _:=ou b_4.F T O;have c_5:FnOk l.prog w K mg base CX0 1 _ _ _ _:=mq b_5.F T O;have c_6:FnOk l.prog w K mg base CX0 1 _ _ _ _:=pC b_6.F T O;have c_7:FnOk l.prog w K mg base CX0 1 _ _ _ _:=oa b_7.F T O;have c_8:FnOk l.prog w K mg base CX0 1 _ _ _ _:=oz b_8.F T O;have c_9:FnOk l.prog w K mg base CX0 1 _ _ _ _:=og b_9.F T O;have c_10:FnOk l.prog w K mg base CX0 1 _ _ _ _:=nW b_10.F T O;have c_11:FnOk l.prog w K mg base CX0 1 _ _ _ _:=mQ b_11.F T O;have c_12:FnOk l.prog w K mg base CX0 1 _ _ _ _:=jR b_12.F T O;have c_13:FnOk l.prog w K mg base CX0 2 _ _ _ _:=mM b_13.F T O b_1 c_1 Gx_check_node;have c_14:FnOk l.prog w K mg base CX0 2 _ _ _ _:=wM b_14.F T O b_2 c_2;have c_15:FnOk l.prog w K mg base CX0 2 _ _ _ _:=lY b_15.F T O b_1 c_1 Gx_check_node;have Gx_check_unfold:FnOk l.prog w K mg base (CXE l.prog w) 2 _ _ _ _:=lR b_15.F T O b_1 c_1 Gx_check_node;have c_16:FnOk l.prog w K mg base CX0 2 _ _ _ _:=pV b_16.F T O b_6 c_6 b_8 c_8;have c_17:FnOk l.prog w K mg base CX0 2 _ _ _ _:=pT b_17.F T O b_11 c_11;have c_18:FnOk l.prog w K mg base CX0 2 _ _ _ _:=qQ b_18.F T O b_10 c_10;have Go__law_done:FnOk l.prog w K mg base CX0 2 _ _ _ _:=o9 b_19.F T O b_10 c_10;have c_20:FnOk l.prog w K mg base CX0 3 _ _ _ _:=oA b_20.F T O b_1 c_1 Gx_check_node b_13 c_13;have Gx_check_fold:FnOk l.prog w K mg base (CXE l.prog w) 3 _ _ _ _:=nU b_20.F T O b_1 c_1 Gx_check_node b_13 c_13;have G_Easel_seen:FnOk l.prog w K mg base CX0 3 _ _ _ _:=ox D_Easel_seen.F T O b_14 c_14;have Go_Easel_settle:FnOk l.prog w K mg base CX0 4 _ _ _ _:=lT D_Easel_settle.F T O D_Easel_seen G_Easel_seen b_4 c_4 b_5 c_5;have Gx_Easel_fold:FnOk l.prog w K mg base (CXE l.prog w) 5 _ _ _ _:=nY D_Easel_fold.F T O b_20 c_20 Gx_check_fold D_Easel_settle Go_Easel_settle b_3 c_3;have Go_Easel_fold:FnOk l.prog w K mg base CX0 5 _ _ _ _:=nX D_Easel_fold.F T O b_20 c_20 Gx_check_fold D_Easel_settle Go_Easel_settle b_3 c_3;have Gx_Easel_unfold:FnOk l.prog w K mg base (CXE l.prog w) 5 _ _ _ _:=lS D_Easel_unfold.F T O b_15 c_15 Gx_check_unfold D_Easel_settle Go_Easel_settle b_3 c_3;have Go_Easel_unfold:FnOk l.prog w K mg base CX0 5 _ _ _ _:=lZ D_Easel_unfold.F T O b_15 c_15 Gx_check_unfold D_Easel_settle Go_Easel_settle b_3 c_3;have Gx__law_do:FnOk l.prog w K mg base (CXE l.prog w) 6 _ _ _ _:=rN b_21.F T O D_Easel_fold Gx_Easel_fold Go_Easel_fold D_Easel_unfold Gx_Easel_unfold Go_Easel_unfold;have Go__law_do:FnOk l.prog w K mg base CX0 6 _ _ _ _:=sC b_21.F T O D_Easel_fold Gx_Easel_fold Go_Easel_fold D_Easel_unfold Gx_Easel_unfold Go_Easel_unfold;have G__law_alike_r1:FnOk l.prog w K mg base CX0 3 _ _ _ _:=lq b_22.F T O b_7 c_7 b_22 Dh;have G__law_alike_r2:FnOk l.prog w K mg base CX0 4 _ _ _ _:=lh b_22.F T O b_7 c_7 b_22 G__law_alike_r1;have G__law_alike_r3:FnOk l.prog w K mg base CX0 5 _ _ _ _:=lu b_22.F T O b_7 c_7 b_22 G__law_alike_r2;have c_22:FnOk l.prog w K mg base CX0 6 _ _ _ _:=lj b_22.F T O b_7 c_7 b_22 G__law_alike_r3;have c_23:FnOk l.prog w K mg base CX0 7 _ _ _ _:=qe b_23.F T O b_21 Gx__law_do Go__law_do;have Go__law_said:FnOk l.prog w K mg base CX0 7 _ _ _ _:=qg b_23.F T O b_21 Gx__law_do Go__law_do;have c_24:FnOk l.prog w K mg base CX0 7 _ _ _ _:=n_ b_24.F T O D_Easel_whole G_Easel_whole D_Easel_folded G_Easel_folded D_Easel_seen G_Easel_seen b_10 c_10 b_17 c_17 b_22 c_22;exact Cv d_25 T O D_Easel___init__ Go_Easel___init__ D_Easel_whole G_Easel_whole D_Easel_folded G_Easel_folded D_Easel_seen G_Easel_seen b_6 c_6 b_16 c_16 b_9 c_9 b_18 c_18 b_19 Go__law_done b_23 c_23 Go__law_said b_12 c_12 b_24 c_24
end B
def PySem.W.Fast.tw16242724141861395654:Nat:=0
def PySem.W.Fast.tw14612925291467606076:Nat:=0
def PySem.W.Fast.tw4645406966046312021:Nat:=0
def PySem.W.Fast.tw5705905080089063617:Nat:=0
def PySem.W.Fast.tw5484696237230607081:Nat:=0
def PySem.W.Fast.tw11587800742199549552:Nat:=0
def PySem.W.Fast.tw5999642670473507101:Nat:=0
def PySem.W.Fast.tw14233459939012867820:Nat:=0
def PySem.W.Fast.tw919695015559339036:Nat:=0
def PySem.W.Fast.tw322173298273925213:Nat:=0
def PySem.W.Fast.tw15565558049939167648:Nat:=0
def PySem.W.Fast.tw9748100087299758821:Nat:=0
def PySem.W.Fast.tw5818228841225695800:Nat:=0
def PySem.W.Fast.tw10112342330703495758:Nat:=0
def PySem.W.Fast.tw16128057889204920880:Nat:=0
def PySem.W.Fast.tw18287767247827353887:Nat:=0
def PySem.W.Fast.tw11037773109130814401:Nat:=0
def PySem.W.Fast.tw16973601942053114977:Nat:=0
def PySem.W.Fast.tw6955515839848224613:Nat:=0
def PySem.W.Fast.tw7761171944761415163:Nat:=0
def PySem.W.Fast.tw10260878516268445817:Nat:=0
def PySem.W.Fast.tw8524972403586197727:Nat:=0
open PySem PySem.W PyProof.Rows
set_option maxRecDepth 100000 in
set_option maxHeartbeats 0 in
theorem PySem.Challenge.cw_boughdraw_k71_folds_holds : PySem.Challenge.rw_boughdraw_k71_folds.Holds := by
 w_on;o_law;k_head;(case hw=>w_witness2)
 k_fill
 refine L3.E0 (l:=PySem.Challenge.rw_boughdraw_k71_folds) (x := "_law_script") (k:=8) (fn:=B.mh) rfl rfl ⟨rfl,by decide,by decide⟩ (λw h Y=>PySem.W.kIn_of Y) B.vY ?F
 case F =>
  intro w mg fa h KX G hmg;refine' B.all_mk KX G hmg ?ca_Easel ?W1 ?X1 ?Y1 ?a_1 ?W2 ?X2 ?Y2 ?a_2 ?a_Easel___init__ ?i_Easel___init__ ?l_Easel___init__ ?c_Easel___init__ ?k_Easel___init__ ?a_Easel_whole ?i_Easel_whole ?l_Easel_whole ?c_Easel_whole ?k_Easel_whole ?a_Easel_folded ?i_Easel_folded ?l_Easel_folded ?c_Easel_folded ?k_Easel_folded ?W3 ?X3 ?Y3 ?a_3 ?W4 ?X4 ?Y4 ?a_4 ?W5 ?X5 ?Y5 ?a_5 ?W6 ?X6 ?Y6 ?a_6 ?W7 ?X7 ?Y7 ?a_7 ?W8 ?X8 ?Y8 ?a_8 ?W9 ?X9 ?Y9 ?a_9 ?W10 ?X10 ?Y10 ?a_10 ?W11 ?X11 ?Y11 ?a_11 ?W12 ?X12 ?Y12 ?a_12 ?W13 ?X13 ?Y13 ?a_13 ?W14 ?X14 ?Y14 ?a_14 ?W15 ?X15 ?Y15 ?a_15 ?W16 ?X16 ?Y16 ?a_16 ?W17 ?X17 ?Y17 ?a_17 ?W18 ?X18 ?Y18 ?a_18 ?W19 ?X19 ?Y19 ?a_19 ?W20 ?X20 ?Y20 ?a_20 ?a_Easel_seen ?i_Easel_seen ?l_Easel_seen ?c_Easel_seen ?k_Easel_seen ?a_Easel_settle ?i_Easel_settle ?l_Easel_settle ?c_Easel_settle ?k_Easel_settle ?a_Easel_fold ?i_Easel_fold ?l_Easel_fold ?c_Easel_fold ?k_Easel_fold ?a_Easel_unfold ?i_Easel_unfold ?l_Easel_unfold ?c_Easel_unfold ?k_Easel_unfold ?W21 ?X21 ?Y21 ?a_21 ?W22 ?X22 ?Y22 ?a_22 ?W23 ?X23 ?Y23 ?a_23 ?W24 ?X24 ?Y24 ?a_24 ?W25 ?X25 ?Y25 ?a_25 ?pg_Easel ?hd_Easel ?po_Easel ?sa_Easel ?mk_Easel ?kc_Easel ?cc_Easel ?mo_Easel ?na_Easel_tree ?na_Easel_gap ?na_Easel_folds ?na_Easel_anew ?me_Easel_fold ?me_Easel_folded ?me_Easel_seen ?me_Easel_settle ?me_Easel_unfold ?me_Easel_whole ?q_Easel_Easel ?gg ?gt ?z0 ?z1 ?z2 ?z3 ?z4 ?z5 ?z6 ?z7 ?z8 ?z9 ?z10 ?z11 ?z12 ?ca_DrawError ?ca_NoDeed ?ca_NoNode ?ca_NoPlace ?ca_NoTree ?x_NoDeed1 ?x_NoDeed2 ?x_NoDeed3 ?x_NoDeed4 ?x_NoDeed5 ?x_NoNode1 ?x_NoNode2 ?x_NoNode3 ?x_NoNode4 ?x_NoNode5 ?h_DrawError ?u_NoDeed_DrawError ?u_NoNode_DrawError ?k_NoDeed_NoDeed ?k_NoDeed_NoNode ?k_NoDeed_NoPlace ?k_NoDeed_NoTree ?k_NoNode_NoDeed ?k_NoNode_NoNode ?k_NoNode_NoPlace ?k_NoNode_NoTree ?v_NoDeed_ValueError ?v_NoNode_ValueError
  case ca_Easel|W1|X1|Y1|a_1|W2|X2|Y2|a_2|a_Easel___init__|i_Easel___init__|l_Easel___init__|c_Easel___init__|k_Easel___init__|a_Easel_whole|i_Easel_whole|l_Easel_whole|c_Easel_whole|k_Easel_whole|a_Easel_folded|i_Easel_folded|l_Easel_folded|c_Easel_folded|k_Easel_folded|W3|X3|Y3|a_3|W4|X4|Y4|a_4|W5|X5|Y5|a_5|W6|X6|Y6|a_6|W7|X7|Y7|a_7|W8|X8|Y8|a_8|W9|X9|Y9|a_9|W10|X10|Y10|a_10|W11|X11|Y11|a_11|W12|X12|Y12|a_12|W13|X13|Y13|a_13|W14|X14|Y14|a_14|W15|X15|Y15|a_15|W16|X16|Y16|a_16|W17|X17|Y17|a_17|W18|X18|Y18|a_18|W19|X19|Y19|a_19|W20|X20|Y20|a_20|a_Easel_seen|i_Easel_seen|l_Easel_seen|c_Easel_seen|k_Easel_seen|a_Easel_settle|i_Easel_settle|l_Easel_settle|c_Easel_settle|k_Easel_settle|a_Easel_fold|i_Easel_fold|l_Easel_fold|c_Easel_fold|k_Easel_fold|a_Easel_unfold|i_Easel_unfold|l_Easel_unfold|c_Easel_unfold|k_Easel_unfold|W21|X21|Y21|a_21|W22|X22|Y22|a_22|W23|X23|Y23|a_23|W24|X24|Y24|a_24|W25|X25|Y25|a_25|z0|z1|z2|z3|z4|z5|z6|z7|z8|z9|z10|z11|z12|ca_DrawError|ca_NoDeed|ca_NoNode|ca_NoPlace|ca_NoTree=>k_is
  (case pg_Easel=>first | k_is | kernel_rfl)
  (case hd_Easel=>first | k_is | kernel_rfl)
  (case po_Easel=>first | k_is | kernel_rfl)
  (case sa_Easel=>first | k_is | kernel_rfl)
  (case mk_Easel=>first | k_is | kernel_rfl)
  (case kc_Easel=>first | k_is | kernel_rfl)
  (case cc_Easel=>first | k_is | kernel_rfl)
  (case mo_Easel=>first | k_is | kernel_rfl)
  (case na_Easel_tree=>first | k_is | kernel_rfl)
  (case na_Easel_gap=>first | k_is | kernel_rfl)
  (case na_Easel_folds=>first | k_is | kernel_rfl)
  (case na_Easel_anew=>first | k_is | kernel_rfl)
  (case me_Easel_fold=>first | k_is | kernel_rfl)
  (case me_Easel_folded=>first | k_is | kernel_rfl)
  (case me_Easel_seen=>first | k_is | kernel_rfl)
  (case me_Easel_settle=>first | k_is | kernel_rfl)
  (case me_Easel_unfold=>first | k_is | kernel_rfl)
  (case me_Easel_whole=>first | k_is | kernel_rfl)
  (case q_Easel_Easel=>first | k_is | kernel_rfl)
  (case gg=>first | k_is | kernel_rfl)
  (case gt=>first | k_is | kernel_rfl)
  (case x_NoDeed1=>k_exc)
  (case x_NoDeed2=>first | k_is | kernel_rfl)
  (case x_NoDeed3=>first | k_is | kernel_rfl)
  (case x_NoDeed4=>first | k_is | kernel_rfl)
  (case x_NoDeed5=>first | k_is | kernel_rfl)
  (case x_NoNode1=>k_exc)
  (case x_NoNode2=>first | k_is | kernel_rfl)
  (case x_NoNode3=>first | k_is | kernel_rfl)
  (case x_NoNode4=>first | k_is | kernel_rfl)
  (case x_NoNode5=>first | k_is | kernel_rfl)
  (case h_DrawError=>k_exc)
  (case u_NoDeed_DrawError=>first | k_is | kernel_rfl)
  (case u_NoNode_DrawError=>first | k_is | kernel_rfl)
  (case k_NoDeed_NoDeed=>first | k_is | kernel_rfl)
  (case k_NoDeed_NoNode=>first | k_is | kernel_rfl)
  (case k_NoDeed_NoPlace=>first | k_is | kernel_rfl)
  (case k_NoDeed_NoTree=>first | k_is | kernel_rfl)
  (case k_NoNode_NoDeed=>first | k_is | kernel_rfl)
  (case k_NoNode_NoNode=>first | k_is | kernel_rfl)
  (case k_NoNode_NoPlace=>first | k_is | kernel_rfl)
  (case k_NoNode_NoTree=>first | k_is | kernel_rfl)
  (case v_NoDeed_ValueError=>first | k_is | kernel_rfl)
  (case v_NoNode_ValueError=>first | k_is | kernel_rfl)
