import PyProof.Rows.All
import Wide.All
import OpenK.AllK
import Wide.FinOn
import Lean
import PyProof.EqAt
import PyProof.EqKinds
import PyProof.TupleCall
import PySem.Challenge.RW_boughdraw_k43_is_paper
set_option Elab.async false
set_option linter.all false
set_option compiler.extract_closed false
set_option maxRecDepth 100000
def Za:=@List.getElem?_map
def Zb:=@List.getElem?_eq_some_iff
def Zc:=@List.length_map
def Zd:=@List.length_append
def Ze:=@List.mem_cons_of_mem
def Zf:=@List.mem_cons_self
def Zg:=@List.getElem?_eq_getElem
def Zh:=@List.length_range
def Zi:=@List.map_map
def Zk:=@List.map_cons
def Zl:=@List.map_append
def Zm:=@Bool.false_ne_true
def Zn:=@Nat.le_refl
def Zo:=@List.mem_cons
def Zp:=@Option.map_eq_some_iff
def Zq:=@List.mem_append_right
def Zr:=@List.length_cons
def Zs:=@List.mem_append
def Zt:=@List.map_congr_left
def Zu:=@List.getElem?_eq_none
def Zv:=@Bool.and_eq_true
def Zw:=@List.mem_append_left
def Zx:=@List.append_nil
def Zy:=@List.getElem?_range
def Zz:=@Option.some.inj
def ZA:=@List.size_toArray
def ZB:=@List.mem_of_getElem?
def ZC:=@List.mem_map
def ZD:=@List.append_assoc
def ZE:=@List.length_take
def ZF:=@List.length_drop
def ZG:=@Nat.le_trans
def ZH:=@List.mem_range
def ZI:=@Nat.lt_of_lt_of_le
def ZJ:=@List.length_set
def ZK:=@List.nodup_append
namespace L2
open PySem PySem.Spec PyProof.Rows
noncomputable abbrev Key:=Sum Int Str
noncomputable def pM:Key->Value->Bool
 |.inl k,v=>Value.isInt k v
 |.inr x,v=>Value.isStrOf x v
noncomputable def JY (w:World):Key->Int
 |.inl k=>hashInt k
 |.inr x=>hashStr w x
theorem dG:∀{k:Key} {v:Value},pM k v=true->(∃i t,k=Sum.inl i/\v=Value.int i t)\/(∃x t,k=Sum.inr x/\v=Value.str x t)
 |.inl i,v,h=>by
  obtain ⟨t,e⟩:=Value.isInt_shape (k:=i) (v:=v) h;exact .inl ⟨i,t,rfl,e⟩
 |.inr x,v,h=>by
  obtain ⟨t,e⟩:=Value.isStrOf_shape (x:=x) (v:=v) h;exact .inr ⟨x,t,rfl,e⟩
theorem wN (i:Int) (t:Tok):pM (.inl i) (.int i t)=true:=by simp [pM,Value.isInt]
theorem xr (x:Str) (t:Tok):pM (.inr x) (.str x t)=true:=by simp [pM,Value.isStrOf]
theorem FR (a b:Int):decide ((Sum.inl a:Key)=Sum.inl b)=(a == b):=by
 by_cases e:a=b
 ·subst e;simp
 ·have h:¬(Sum.inl a:Key)=Sum.inl b:=λq=>e (Sum.inl.inj q)
  rw [decide_eq_false h];exact (beq_eq_false_iff_ne.mpr e).symm
theorem CP (a b:Str):decide ((Sum.inr a:Key)=Sum.inr b)=decide (a=b):=by
 by_cases e:a=b
 ·subst e;simp
 ·have h:¬(Sum.inr a:Key)=Sum.inr b:=λq=>e (Sum.inr.inj q)
  rw [decide_eq_false h,decide_eq_false e]
theorem Dc (a:Int) (b:Str):decide ((Sum.inl a:Key)=Sum.inr b)=false:=decide_eq_false (λq=>nomatch q)
theorem Fd (a:Str) (b:Int):decide ((Sum.inr a:Key)=Sum.inl b)=false:=decide_eq_false (λq=>nomatch q)
noncomputable def eP (prog:Program) (w:World):PySem.KeyKind prog w Key where
 is:=pM
 hash:=JY w
 inj:=λv a b ha hb=>by
  rcases dG ha with ⟨i,t,rfl,rfl⟩ | ⟨x,t,rfl,rfl⟩
  ·rcases dG hb with ⟨j,u,rfl,e⟩ | ⟨y,u,rfl,e⟩
   ·injection e with e1 _;rw [e1]
   ·exact nomatch e
  ·rcases dG hb with ⟨j,u,rfl,e⟩ | ⟨y,u,rfl,e⟩
   ·exact nomatch e
   ·injection e with e1 _;rw [e1]
 byValue:=λk v h=>by
  rcases dG h with ⟨i,t,rfl,rfl⟩ | ⟨x,t,rfl,rfl⟩ <;> rfl
 pyHash:=λhv h=>by
  rcases dG hv with ⟨i,t,rfl,rfl⟩ | ⟨x,t,rfl,rfl⟩
  ·exact wpAny_pyHash_int h
  ·exact wpAny_pyHash_str h
 eqBool:=λhu hv h=>by
  rcases dG hu with ⟨i,t,rfl,rfl⟩ | ⟨x,t,rfl,rfl⟩
  ·rcases dG hv with ⟨j,u,rfl,rfl⟩ | ⟨y,u,rfl,rfl⟩
   ·rw [FR]at h;exact wpAny_eqBool_int h
   ·rw [Dc]at h;exact SeqAt.EqAt.int_str i t y u _ _ _ _ h
  ·rcases dG hv with ⟨j,u,rfl,rfl⟩ | ⟨y,u,rfl,rfl⟩
   ·rw [Fd]at h;exact SeqAt.EqAt.str_int x t j u _ _ _ _ h
   ·rw [CP]at h;exact wpAny_eqBool_str h
 «strs»:=λk x t v h=>by
  rcases dG h with ⟨i,u,rfl,e⟩ | ⟨y,u,rfl,e⟩
  ·exact nomatch e
  ·injection e with e1 _
   subst e1;cases v <;> rfl
theorem sQ (prog:Program) (w:World) (i:Int) (t:Tok):(eP prog w).is (.inl i) (.int i t)=true:=wN i t
theorem sZ (prog:Program) (w:World) (x:Str) (t:Tok):(eP prog w).is (.inr x) (.str x t)=true:=xr x t
inductive V where
 |non | bl (b:Bool) | int (i:Int) | str (x:Str) | byt (b:Array UInt8) | flt (b:UInt64) | ref (a:Addr) | ty (n:String)
 deriving DecidableEq
noncomputable def RelV:V->Value->Prop
 |.non,u=>u=Value.none
 |.bl b,u=>u=Value.bool b
 |.int i,u=>∃t,u=Value.int i t
 |.str x,u=>∃t,u=Value.str x t
 |.byt b,u=>∃t,u=Value.bytes b t
 |.flt b,u=>∃t,u=Value.float b t
 |.ref a,u=>u=Value.ref a
 |.ty n,u=>u=Value.type n
noncomputable abbrev Vals:List V->List Value->Prop:=Paired RelV
theorem Vals.length {xs:List V} {us:List Value} (r:Vals xs us):xs.length=us.length:=Paired.length r
theorem Vals.get:∀{xs:List V} {us:List Value} {i:Nat} {x:V},Vals xs us->xs[i]?=some x->∃u,us[i]?=some u/\RelV x u
 |_,_,_,_,.nil,e=>by simp at e
 |_,_,0,_,.cons r _,e=>by simp at e;subst e;exact ⟨_,rfl,r⟩
 |_,_,i+1,x,.cons _ t,e=>by
  obtain ⟨u,h1,h2⟩:=Vals.get (i:=i) (x:=x) t (by simpa using e)
  exact ⟨u,by simpa using h1,h2⟩
theorem Vals.set {x:V} {u:Value} (r:RelV x u):∀{xs:List V} {us:List Value} (i:Nat),Vals xs us->Vals (xs.set i x) (us.set i u)
 |_,_,_,.nil=>.nil
 |_,_,0,.cons _ t=>.cons r t
 |_,_,i+1,.cons q t=>.cons q (Vals.set r i t)
theorem Vals.append:∀{xs ys:List V} {us ws:List Value},Vals xs us->Vals ys ws->Vals (xs++ys) (us++ws)
 |_,_,_,_,.nil,s=>s
 |_,_,_,_,.cons r t,s=>.cons r (Vals.append t s)
theorem Vals.take:∀{xs:List V} {us:List Value} (n:Nat),Vals xs us->Vals (xs.take n) (us.take n)
 |_,_,0,_=>.nil
 |_,_,_+1,.nil=>.nil
 |_,_,n+1,.cons r t=>.cons r (Vals.take n t)
theorem Vals.drop:∀{xs:List V} {us:List Value} (n:Nat),Vals xs us->Vals (xs.drop n) (us.drop n)
 |_,_,0,r=>r
 |_,_,_+1,.nil=>.nil
 |_,_,n+1,.cons _ t=>Vals.drop n t
noncomputable def pH:Option V->Option Value->Prop
 |some v,some u=>RelV v u
 |none,none=>True
 |_,_=>False
noncomputable def KV {κ:Type}:List (κ×V)->List (κ×Value)->Prop:=Paired λ(p:κ×V) (q:κ×Value)=>p.1=q.1/\RelV p.2 q.2
noncomputable def kV:Key->V
 |.inl i=>.int i
 |.inr x=>.str x
inductive HO where
 |lst (xs:List V)
 |tup (xs:List V)
 |dK (kvs:List (Key×V)) | dT (kvs:List (List Key×V))
 |set (S:Int->Bool) (n:Nat)
 |ins (C dx:Addr) (fs:List (Str×V))
 |own (x:Addr)
 |xd (fs:List (Str×V))
 |met (f x:Addr)
 |rng (lo hi:Int)
 |frz (o:Obj) (u:HO)
 |tbl (ps:Array Value)
 |ext (φ:Heap->Prop)
noncomputable abbrev Hp:=Addr->Option HO
noncomputable def upd (H:Hp) (a:Addr) (o:HO):Hp:=λb=>if b=a then some o else H b
theorem cA {H:Hp} {a:Addr} {o:HO}:upd H a o a=some o:=by unfold upd;rw [if_pos rfl]
theorem aM {H:Hp} {a b:Addr} {o:HO} (h:b≠a):upd H a o b=H b:=by unfold upd;rw [if_neg h]
theorem Jp {H:Hp} {a b:Addr} {o u:HO} (h:H a=some o) (h':H b=some u) (d:o≠u):a≠b:=by
 intro e;subst e;rw [h]at h';exact d (Zz h')
theorem bG {H:Hp} {a b:Addr} {o:HO} (h:H a=some o) (h':H b=none):a≠b:=by
 intro e;subst e;rw [h]at h';cases h'
section
variable (P:Program) (w:World)
noncomputable def eY (H:Hp) (h:Heap) (a:Addr):HO->Prop
 |.lst xs=>xs.length<=sizeLine/\∃(its:List Value) (n:Nat),Vals xs its/\h.get? a=some { cls:=.type "list",data:=.seq its.toArray n }
 |.tup xs=>xs.length<=sizeLine/\∃its:List Value,Vals xs its/\IsTup h a its.toArray
 |.dK kvs=>kvs.length<=sizeLine/\(a == sysModules)=false/\∃vs,KV kvs vs/\h.DictOf (eP P w) a vs
 |.dT kvs=>kvs.length<=sizeLine/\(a == sysModules)=false/\∃xs:List (List Key×Addr×Value),
   Paired (λ(p:List Key×V) (q:List Key×Addr×Value)=>p.1=q.1/\H q.2.1=some (.tup (p.1.map kV))/\RelV p.2 q.2.2) kvs xs /\
   ∃o es ep,h.get? a=some o/\o.ExactDict/\o.data=.dict es ep/\es.toList=xs.map (entryOfKey (tupleKind (eP P w)))/\(xs.map (·.1)).Nodup
 |.set S n=>h.SetOf (intKind P w) a S n
 |.ins C dx fs=>H dx=some (.own a)/\fs.length<=1000/\dx≠a/\h.get? a=some (PySem.W.instObj C dx) /\
   ∃mA,h.Ns1 dx mA/\(∀f,pH (fs.lookup f) (mA f))/\PySem.Within mA (fs.map (·.1))
 |.own _=>∃o,h.get? a=some o
 |.xd fs=>∃mA,h.Ns1 a mA/\∀f,pH (fs.lookup f) (mA f)
 |.rng lo hi=>∃t u v,h.get? a=some { cls:=.type "range",data:=.fields #[.int lo t,.int hi u,.int 1 v] }
 |.frz o u=>h.get? a=some o/\eY H h a u
 |.tbl ps=>h.get? a=some { cls:=.none,data:=.fields ps }
 |.met f x=>h.get? a=some (PySem.W.methodObj (.ref f) (.ref x))
 |.ext φ=>φ h/\(∃o,h.get? a=some o)/\∀h1 h2:Heap,φ h1->(∀o,h1.get? a=some o->h2.get? a=some o)->φ h2
noncomputable def HOk (H:Hp) (h:Heap):Prop:=∀a o,H a=some o->eY P w H h a o
end
section
variable {P:Program} {w:World} {H H':Hp} {h h':Heap} {a:Addr} {o:HO}
theorem eY.lt (x:eY P w H h a o):a<h.objs.size:=by
 cases o with
 |lst xs=>obtain ⟨_,_,_,_,e⟩:=x;exact Heap.lt_size e
 |tup xs=>obtain ⟨_,_,_,p⟩:=x;exact p.lt
 |dK kvs=>obtain ⟨_,_,_,_,o,_,_,e,_⟩:=x;exact Heap.lt_size e
 |dT kvs=>obtain ⟨_,_,_,_,o,_,_,e,_⟩:=x;exact Heap.lt_size e
 |set S n=>obtain ⟨o,_,_,_,e,_⟩:=x;exact Heap.lt_size e
 |ins C dx fs=>obtain ⟨_,_,_,e,_⟩:=x;exact Heap.lt_size e
 |own y=>obtain ⟨_,e⟩:=x;exact Heap.lt_size e
 |xd fs=>obtain ⟨_,⟨_,_,_,e,_⟩,_⟩:=x;exact Heap.lt_size e
 |rng lo hi=>obtain ⟨_,_,_,e⟩:=x;exact Heap.lt_size e
 |frz ob u=>obtain ⟨e,_⟩:=x;exact Heap.lt_size e
 |tbl ps=>exact Heap.lt_size (show h.get? a=some _ from x)
 |met f y=>exact Heap.lt_size (show h.get? a=some _ from x)
 |ext φ=>obtain ⟨_,⟨_,e⟩,_⟩:=x;exact Heap.lt_size e
theorem Paired.mapP {α β:Type} {F G:α->β->Prop}:∀{l₁:List α} {l₂:List β},Paired F l₁ l₂->(∀a b,F a b->G a b)->Paired G l₁ l₂
 |_,_,.nil,_=>.nil
 |_,_,.cons r t,f=>.cons (f _ _ r) (Paired.mapP t f)
theorem eY.stay (x:eY P w H h a o) (k:∀b u,(b=a\/H b=some (.own a))->h.get? b=some u->h'.get? b=some u)
  (ho:∀b,H b=some (.own a)->H' b=some (.own a)) (ht:∀b xs,H b=some (.tup xs)->H' b=some (.tup xs)):eY P w H' h' a o:=by
 induction o with
 |lst xs=>obtain ⟨z,its,n,r,e⟩:=x;exact ⟨z,its,n,r,k _ _ (.inl rfl) e⟩
 |tup xs=>obtain ⟨z,its,r,ob,e,c⟩:=x;exact ⟨z,its,r,ob,k _ _ (.inl rfl) e,c⟩
 |dK kvs=>obtain ⟨z,y,vs,r,ob,es,ep,e,c⟩:=x;exact ⟨z,y,vs,r,ob,es,ep,k _ _ (.inl rfl) e,c⟩
 |dT kvs =>
  obtain ⟨z,y,xs,r,ob,es,ep,e,c⟩:=x;exact ⟨z,y,xs,Paired.mapP r λp q z=>⟨z.1,ht _ _ z.2.1,z.2.2⟩,ob,es,ep,k _ _ (.inl rfl) e,c⟩
 |set S n=>obtain ⟨ob,es,ep,t,e,c⟩:=x;exact ⟨ob,es,ep,t,k _ _ (.inl rfl) e,c⟩
 |ins C dx fs =>
  obtain ⟨d,z,ne,e,mA,⟨od,es,ep,e2,c⟩,r⟩:=x;exact ⟨ho _ d,z,ne,k _ _ (.inl rfl) e,mA,⟨od,es,ep,k _ _ (.inr d) e2,c⟩,r⟩
 |own y=>obtain ⟨ob,e⟩:=x;exact ⟨ob,k _ _ (.inl rfl) e⟩
 |xd fs=>obtain ⟨mA,⟨od,es,ep,e,c⟩,r⟩:=x;exact ⟨mA,⟨od,es,ep,k _ _ (.inl rfl) e,c⟩,r⟩
 |rng lo hi=>obtain ⟨t,u,v,e⟩:=x;exact ⟨t,u,v,k _ _ (.inl rfl) e⟩
 |frz ob u ih=>obtain ⟨e,q⟩:=x;exact ⟨k _ _ (.inl rfl) e,ih q⟩
 |tbl ps =>
  have e:h.get? a=some { cls:=.none,data:=.fields ps }:=x;show h'.get? a=some { cls:=.none,data:=.fields ps }
  exact k a _ (.inl rfl) e
 |met f y =>
  have e:h.get? a=some (PySem.W.methodObj (.ref f) (.ref y)):=x;show h'.get? a=some (PySem.W.methodObj (.ref f) (.ref y))
  exact k a _ (.inl rfl) e
 |ext φ=>obtain ⟨p,⟨o,e⟩,st⟩:=x;exact ⟨st _ _ p λo q=>k _ _ (.inl rfl) q,⟨o,k _ _ (.inl rfl) e⟩,st⟩
theorem HOk.lt (x:HOk P w H h) (e:H a=some o):a<h.objs.size:=(x a o e).lt
theorem HOk.fresh (x:HOk P w H h) (e:h.objs.size<=a):H a=none:=by
 cases q:H a with
 |none=>rfl
 |some u=>exact absurd (ZI (x.lt q) e) (Nat.lt_irrefl _)
theorem HOk.kept (x:HOk P w H h) (k:∀b u,h.get? b=some u->h'.get? b=some u):HOk P w H h':=λa o e =>
 (x a o e).stay (λb u _ q=>k b u q) (λ_ q=>q) λ_ _ q=>q
theorem HOk.laid (x:HOk P w H h) (k:∀b u,h.get? b=some u->h'.get? b=some u) (hp:h.objs.size<=a) (new:eY P w (upd H a o) h' a o):HOk P w (upd H a o) h':=λb u e=>by
 have hn:=x.fresh hp;by_cases hb:b=a
 ·subst hb;rw [cA]at e;cases e;exact new
 ·rw [aM hb]at e
  exact (x b u e).stay (λc v _ q=>k c v q) (λc q=>by rw [aM (bG q hn)];exact q) λc xs q=>by rw [aM (bG q hn)];exact q
end
noncomputable def Rd (H:Hp) (a:Addr) (u:HO):Prop:=H a=some u\/∃o,H a=some (.frz o u)
theorem Rd.ok {P:Program} {w:World} {H:Hp} {h:Heap} {a:Addr} {u:HO} (r:Rd H a u) (x:HOk P w H h):eY P w H h a u:=by
 rcases r with r | ⟨o,r⟩
 ·exact x a u r
 ·obtain ⟨_,q⟩:=x a _ r
  exact q
noncomputable def Mut:Option HO->Prop
 |some (.lst _)=>True
 |some (.dK _)=>True
 |some (.dT _)=>True
 |some (.set _ _)=>True
 |some (.ins _ _ _)=>True
 |some (.ext _)=>True
 |_=>False
section
variable {P:Program} {w:World} {H:Hp} {h h':Heap} {x e:Addr} {o':HO}
theorem HOk.write (ok:HOk P w H h) (mu:Mut (H x)) (he:e=x\/H e=some (.own x)) (k:∀b u,b≠e->h.get? b=some u->h'.get? b=some u) (heo:∃u,h'.get? e=some u)
  (new:eY P w (upd H x o') h' x o'):HOk P w (upd H x o') h':=λb u q=>by
 have nown:∀c y,H c=some (.own y)->c≠x:=λc y r z=>by subst z;rw [r]at mu;exact mu
 have ntup:∀c xs,H c=some (.tup xs)->c≠x:=λc xs r z=>by subst z;rw [r]at mu;exact mu
 by_cases hb:b=x
 ·subst hb;rw [cA]at q;cases q;exact new
 ·rw [aM hb]at q
  by_cases hbe:b=e
  ·have q':H b=some (.own x):=by
    rcases he with z | z
    ·exact absurd (hbe.trans z) hb
    ·rw [hbe];exact z
   rw [q]at q';cases q';obtain ⟨v,hv⟩:=heo;exact ⟨v,by rw [hbe];exact hv⟩
  ·refine (ok b u q).stay (λc v hc r=>k c v ?_ r) (λc r=>by rw [aM (nown c b r)];exact r) λc xs r=>by rw [aM (ntup c xs r)];exact r
   rcases hc with rfl | hc
   ·exact hbe
   ·rintro rfl
    rcases he with z | z
    ·exact nown c b hc z
    ·rw [hc]at z;cases z;exact hb rfl
end
structure Un (fs ex:List Addr) (H H':Hp) (h h':Heap):Prop where
 keep:∀b o,h.get? b=some o->H b=none->b∉fs->b∉ex->h'.get? b=some o
 slot:∀b o,h.get? b=some o->H b=none->b∈fs->b∉ex->∃sl,h'.get? b=some { o with slots:=sl }
 free:∀b o,h.get? b=some o->H b=none->b∉ex->H' b=none
 there:∀b o,h.get? b=some o->b∉ex->∃o',h'.get? b=some o'
 tups:∀b xs,H b=some (.tup xs)->H' b=some (.tup xs)
 frzs:∀b o u,H b=some (.frz o u)->H' b=some (.frz o u)
 tbls:∀b ps,H b=some (.tbl ps)->∃more,H' b=some (.tbl (ps++more))
section
variable {fs fs' ex ex':List Addr} {H H1 H2:Hp} {h h1 h2 h':Heap} {a x e:Addr} {o:HO}
theorem Un.any (u:Un fs ex H H1 h h1) {b:Addr} {ob:Obj} (q:h.get? b=some ob) (n:H b=none) (hx:b∉ex):∃sl,h1.get? b=some { ob with slots:=sl }:=by
 by_cases hb:b∈fs
 ·exact u.slot b ob q n hb hx
 ·exact ⟨ob.slots,u.keep b ob q n hb hx⟩
theorem Un.kept (k:∀b u,h.get? b=some u->h'.get? b=some u):Un fs ex H H h h' :=
 ⟨λb ob q _ _ _=>k b ob q,λb ob q _ _ _=>⟨ob.slots,k b ob q⟩,λ_ _ _ n _=>n,λb ob q _=>⟨ob,k b ob q⟩,λ_ _ q=>q,λ_ _ _ q=>q,λ_ ps q=>⟨#[],by rw [q];simp⟩⟩
theorem Un.refl:Un fs ex H H h h:=Un.kept λ_ _ q=>q
theorem Un.laid (k:∀b u,h.get? b=some u->h'.get? b=some u) (hp:h.objs.size<=a) (hn:H a=none):Un fs ex H (upd H a o) h h' where
 keep:=λb u q _ _ _=>k b u q
 slot:=λb u q _ _ _=>⟨u.slots,k b u q⟩
 free:=λb u q n _=>by rw [aM (Nat.ne_of_lt (ZI (Heap.lt_size q) hp))];exact n
 there:=λb u q _=>⟨u,k b u q⟩
 tups:=λb xs q=>by rw [aM (bG q hn)];exact q
 frzs:=λb u xs q=>by rw [aM (bG q hn)];exact q
 tbls:=λb ps q=>⟨#[],by rw [aM (bG q hn),q];simp⟩
theorem Un.write (mu:Mut (H x)) (he:e=x\/H e=some (.own x)) (k:∀b u,b≠e->h.get? b=some u->h'.get? b=some u) (heo:∃u,h'.get? e=some u):Un fs ex H (upd H x o) h h':=by
 have hx:∀b,H b=none->b≠x:=λb n z=>by subst z;rw [n]at mu;exact mu
 have hb:∀b,H b=none->b≠e:=λb n z=>by
  subst z;rcases he with r | r
  ·exact hx b n r
  ·rw [n]at r;cases r
 have hm:∀b u,H b=some u->¬Mut (some u)->b≠x:=λb u q nm z=>by subst z;rw [q]at mu;exact nm mu
 refine ⟨λb u q n _ _=>k b u (hb b n) q,λb u q n _ _=>⟨u.slots,k b u (hb b n) q⟩,λb u q n _=>by rw [aM (hx b n)];exact n,λb u q _=>?_,
  λb xs q=>by rw [aM (hm b _ q λz=>z)];exact q,λb u xs q=>by rw [aM (hm b _ q λz=>z)];exact q,λb ps q=>⟨#[],by rw [aM (hm b _ q λz=>z),q];simp⟩⟩
 by_cases hbe:b=e
 ·subst hbe;exact heo
 ·exact ⟨u,k b u hbe q⟩
end
noncomputable def trk (h:Heap) (H:Hp):List Addr:=(List.range h.objs.size).filter λa=>(H a).isSome
noncomputable def me (h:Heap) (H:Hp):Heap:=PySem.W.hideAll h (trk h H)
theorem qa (h:Heap) (H:Hp):(me h H).objs.size=h.objs.size:=PySem.W.hideAll_size _ _
theorem rX {h:Heap} {H:Hp} {b:Addr} {o:Obj} (e:h.get? b=some o) (n:H b=none):(me h H).get? b=some o :=
 PySem.W.hideAll_get _ e λhm=>by
  have q:(H b).isSome=true:=(List.mem_filter.mp hm).2;rw [n]at q;simp at q
theorem vD {h:Heap} {H:Hp} {b:Addr} {o:Obj} (e:(me h H).get? b=some o):h.get? b=some o/\H b=none:=by
 have e':h.get? b=some o:=PySem.W.of_hideAll (trk h H) e;refine ⟨e',?_⟩;cases q:H b with
 |none=>rfl
 |some x =>
  have hm:b∈trk h H:=List.mem_filter.mpr ⟨ZH.mpr (Heap.lt_size e'),by simp [q]⟩
  have z:(me h H).get? b=none:=PySem.W.hideAll_none (trk h H) hm;rw [z]at e;cases e
noncomputable def AX (g h:Heap) (L:Addr):List (Addr×Obj):=(List.range h.objs.size).filterMap λa=>if a=L\/(g.get? a).isSome=true then none else (h.get? a).map λo=>(a,o)
noncomputable def rest (g h:Heap) (L d:Addr):List (Addr×Obj):=(AX g h L).filter λp=>decide (p.1≠d)
structure Mod (K:PySem.W.Frag) (mg:Str->Option Value) (base:Heap):Prop where
 kin:K.In base
 glob:base.Ns mainGlobals mg
 blt:∃mb,base.Ns builtinsNs mb/\∀x:Str,x ≠ "__name__" -> mb x=bootBuiltins x
 nolimit:base.NoLimit
structure Cx where
 prog:Program
 w:World
 K:PySem.W.Frag
 mg:Str->Option Value
 base:Heap
 A:Around
 N:List Str
 s₀:Shared
 H₀:Hp
 env:Env
 outer:List Env
 stack:List Env
 ex:List Addr
 fn:Str->Bool
 calm:Bool
 pn:List (Addr×Obj)
 xe:Value->Shared->Prop
noncomputable def frs (l:List Env):List Addr:=l.filterMap (·.frame)
noncomputable abbrev Cx.fs (X:Cx):List Addr:=frs X.outer
noncomputable def Vis (sc:Scope) (x:Str):Prop:=sc.names.lookup x=some .local\/sc.names.lookup x=some .cell\/sc.names.lookup x=some .free
noncomputable def Loc (sc:Scope) (x:Str):Prop:=sc.names.lookup x=some .local\/sc.names.lookup x=some .cell
noncomputable def Look (env:Env) (h:Heap) (m:Str->Option Value) (x:Str) (u:Value):Prop :=
 (env.kindOf x=some .local/\m x=some u)\/((env.kindOf x=some .cell\/env.kindOf x=some .free)/\∃c,env.cells.lookup x=some c/\h.IsCell c (some u))
structure Cx.Ok (X:Cx):Prop where
 mod:Mod X.K X.mg X.base
 kind:X.env.scope.kind=.function
 glob:X.env.globals=mainGlobals
 blt:X.env.builtins=builtinsNs
 above:X.s₀.heap.objs.size<=X.env.locals
 inj:∀x y c,X.env.cells.lookup x=some c->X.env.cells.lookup y=some c->x=y
 has:∀x,(X.env.kindOf x=some .cell\/X.env.kindOf x=some .free)->∃c,X.env.cells.lookup x=some c
 cab:∀x c,X.fn x=true->X.env.cells.lookup x=some c->X.s₀.heap.objs.size<=c
 hd:X.calm=true->X.A.handled=none
 frames:X.A.frames=some X.stack
 stk:X.stack=X.outer\/(X.stack=X.env :: X.outer/\X.env.frame=some X.env.locals)
 exf:∀b∈X.ex,b≠X.env.locals/\∀x c,X.env.cells.lookup x=some c->c≠b
 bs:∀b o,X.base.get? b=some o->X.s₀.heap.get? b=some o/\X.H₀ b=none
 bsz:X.base.objs.size<=X.s₀.heap.objs.size
 noex:∀b o,X.base.get? b=some o->b∉X.ex
 exfs:∀b∈X.ex,b∉X.fs
 funs:X.s₀.heap.FunFrames X.base X.outer
 frf:∀b∈X.fs,X.H₀ b=none
structure Inv (X:Cx) (pins:List (Addr×Obj)) (σ:List (Option V)) (H:Hp) (s:Shared):Prop where
 ok:X.Ok
 os:s.os=X.s₀.os
 bare:AllBare s.gens
 base:Un X.fs X.ex X.H₀ H X.s₀.heap s.heap
 loc:∃m,s.heap.Ns X.env.locals m/\∀(i:Nat) (x:Str) (v:V),X.N[i]?=some x->σ[i]?=some (some v)->Vis X.env.scope x->∃u,RelV v u/\Look X.env s.heap m x u
 cell:∀x c,X.env.cells.lookup x=some c->∃v,s.heap.IsCell c v
 free:H X.env.locals=none
 freeC:∀x c,X.env.cells.lookup x=some c->H c=none
 pin:∀p∈X.pn++pins,s.heap.get? p.1=some p.2/\H p.1=none/\p.1≠X.env.locals/\p.1∉X.fs/\∀v,p.2.data≠.cell v
 hok:HOk X.prog X.w H s.heap
 len:σ.length=X.N.length
section
variable {X:Cx} {pins:List (Addr×Obj)} {σ:List (Option V)} {H H':Hp} {s:Shared} {h':Heap}
theorem Cx.Ok.nofr (ok:X.Ok) {b:Addr} {o:Obj} (e:X.base.get? b=some o):b∉X.fs:=λhb=>by
 have:=(ok.funs.mem hb).1;rw [e]at this;cases this
theorem Inv.bs (I:Inv X pins σ H s):∀b o,X.base.get? b=some o->s.heap.get? b=some o/\H b=none:=λb o e =>
 ⟨I.base.keep b o (I.ok.bs b o e).1 (I.ok.bs b o e).2 (I.ok.nofr e) (I.ok.noex b o e),I.base.free b o (I.ok.bs b o e).1 (I.ok.bs b o e).2 (I.ok.noex b o e)⟩
theorem Inv.bk (I:Inv X pins σ H s):∀b o,X.base.get? b=some o->s.heap.get? b=some o:=λb o e=>(I.bs b o e).1
theorem Inv.mod (I:Inv X pins σ H s):Mod X.K X.mg X.base:=I.ok.mod
theorem Inv.kIn (I:Inv X pins σ H s):X.K.In s.heap:=I.ok.mod.kin.keeps I.bk
theorem Inv.fr (I:Inv X pins σ H s):∃m,Fr X.base X.env.locals s.heap m :=
 let ⟨m,hn,_⟩:=I.loc
 ⟨m,hn,I.bk,ZG I.ok.bsz I.ok.above⟩
theorem Inv.lt (I:Inv X pins σ H s):X.env.locals<s.heap.objs.size:=let ⟨_,hn,_⟩:=I.loc;hn.lt
theorem Inv.sz (I:Inv X pins σ H s):X.s₀.heap.objs.size<=s.heap.objs.size:=ZG I.ok.above (Nat.le_of_lt I.lt)
theorem Inv.nofs (I:Inv X pins σ H s) {a:Addr} (h:s.heap.objs.size<=a):a∉X.fs:=λhb=>by
 obtain ⟨_,o,ho,_⟩:=I.ok.funs.mem hb;exact absurd (ZI (Heap.lt_size ho) (ZG I.sz h)) (Nat.lt_irrefl _)
theorem Inv.cne (I:Inv X pins σ H s):∀x c,X.env.cells.lookup x=some c->c≠X.env.locals:=λx c e z=>by
 obtain ⟨v,o,ho,hd⟩:=I.cell x c e;obtain ⟨m,⟨o',es,ep,ho',hd',_⟩,_⟩:=I.loc;rw [z,ho']at ho;cases ho;rw [hd']at hd;cases hd
theorem Inv.funs (I:Inv X pins σ H s):s.heap.FunFrames X.base X.outer:=by
 have all:∀(l:List Env),(∀b∈frs l,b∈X.fs)->X.s₀.heap.FunFrames X.base l->s.heap.FunFrames X.base l:=by
  intro l
  induction l with
  |nil=>intro _ _;trivial
  |cons env r ih =>
   intro hs hl;obtain ⟨hk,⟨L,o,hf,hn,ho,hd⟩,hr⟩:=hl;have hL:L∈X.fs:=hs L (by unfold frs;rw [List.filterMap_cons,hf];exact Zf)
   obtain ⟨sl,e⟩:=I.base.slot L o ho (I.ok.frf L hL) hL λz=>I.ok.exfs L z hL
   exact ⟨hk,⟨L,_,hf,hn,e,hd⟩,ih (λb hb=>hs b (by unfold frs;rw [List.filterMap_cons,hf];exact Ze _ hb)) hr⟩
 exact all X.outer (λ_ hb=>hb) I.ok.funs
theorem Inv.stack (I:Inv X pins σ H s):s.heap.FunFrames X.base X.stack:=by
 rcases I.ok.stk with e | ⟨e,hf⟩
 ·rw [e];exact I.funs
 ·rw [e]
  obtain ⟨m,hn,_⟩:=I.loc;refine .cons (by rw [I.ok.kind];decide) hf hn ?_ I.funs
  exact Heap.get?_none_of_le (ZG I.ok.bsz I.ok.above)
theorem Inv.stkSub (I:Inv X pins σ H s):∀b∈frs X.stack,b∈X.env.locals :: X.fs:=λb hb=>by
 rcases I.ok.stk with e | ⟨e,hf⟩
 ·rw [e]at hb;exact Ze _ hb
 ·rw [e]at hb
  unfold frs at hb;rw [List.filterMap_cons,hf]at hb;exact hb
theorem Inv.stkFree (I:Inv X pins σ H s):∀b∈frs X.stack,H b=none:=λb hb=>by
 rcases Zo.mp (I.stkSub b hb) with e | hb
 ·rw [e];exact I.free
 ·obtain ⟨_,o,ho,_⟩:=I.ok.funs.mem hb
  exact I.base.free b o ho (I.ok.frf b hb) λz=>I.ok.exfs b z hb
theorem Inv.step {g':Array GenState} {t':Nat} {d':Drawn} {ch:List Addr} (I:Inv X pins σ H s)
  (hch:∀b∈ch,(b∈X.ex\/X.s₀.heap.objs.size<=b)/\b≠X.env.locals/\(∀x c,X.env.cells.lookup x=some c->c≠b)/\∀p∈X.pn++pins,p.1≠b)
  (keep:∀b o,b≠X.env.locals->b∉X.fs->b∉ch->s.heap.get? b=some o->H b=none->h'.get? b=some o)
  (slot:∀b o,b≠X.env.locals->b∈X.fs->b∉ch->s.heap.get? b=some o->H b=none->∃sl,h'.get? b=some { o with slots:=sl }) (free:∀b o,b∉ch->s.heap.get? b=some o->H b=none->H' b=none)
  (there:∀b o,b∉ch->s.heap.get? b=some o->∃o',h'.get? b=some o')
  (tups:∀b xs,H b=some (.tup xs)->H' b=some (.tup xs)) (frzs:∀b o u,H b=some (.frz o u)->H' b=some (.frz o u)) (tbls:∀b ps,H b=some (.tbl ps)->∃more,H' b=some (.tbl (ps++more)))
  (ns:∀m,s.heap.Ns X.env.locals m->h'.Ns X.env.locals m) (hok:HOk X.prog X.w H' h') (hg:AllBare g') :
  Inv X pins σ H' { s with heap:=h',gens:=g',drawn:=d',toks:=t' }:=by
 have neL:∀b o,X.s₀.heap.get? b=some o->b≠X.env.locals:=λb o e=>Nat.ne_of_lt (ZI (Heap.lt_size e) I.ok.above)
 have neC:∀b o,X.s₀.heap.get? b=some o->b∉X.ex->b∉ch:=λb o e hx hb=>by
  rcases (hch b hb).1 with z | z
  ·exact hx z
  ·exact absurd (ZI (Heap.lt_size e) z) (Nat.lt_irrefl _)
 have cellK:∀x c,X.env.cells.lookup x=some c->∀v,s.heap.IsCell c v->h'.IsCell c v:=λx c e v ⟨o,ho,hd⟩=>by
  have nch:c∉ch:=λz=>(hch c z).2.2.1 x c e rfl
  by_cases hc:c∈X.fs
  ·obtain ⟨sl,q⟩:=slot c o (I.cne x c e) hc nch ho (I.freeC x c e)
   exact ⟨_,q,hd⟩
  ·exact ⟨o,keep c o (I.cne x c e) hc nch ho (I.freeC x c e),hd⟩
 refine ⟨I.ok,I.os,hg,⟨λb o e n hb hx=>?_,λb o e n hb hx=>?_,λb o e n hx=>?_,λb o e hx=>?_,λb xs e=>tups b xs (I.base.tups b xs e),λb o xs e=>frzs b o xs (I.base.frzs b o xs e),λb ps e=>?_⟩,?_,λx c e=>?_,?_,λx c e=>?_,λp hp=>?_,hok,I.len⟩
 ·exact keep b o (neL b o e) hb (neC b o e hx) (I.base.keep b o e n hb hx) (I.base.free b o e n hx)
 ·obtain ⟨sl,e1⟩:=I.base.slot b o e n hb hx
  obtain ⟨sl',e2⟩:=slot b _ (neL b o e) hb (neC b o e hx) e1 (I.base.free b o e n hx);exact ⟨sl',e2⟩
 ·obtain ⟨o',e1⟩:=I.base.there b o e hx
  exact free b o' (neC b o e hx) e1 (I.base.free b o e n hx)
 ·obtain ⟨o',e1⟩:=I.base.there b o e hx
  exact there b o' (neC b o e hx) e1
 ·obtain ⟨m1,e1⟩:=I.base.tbls b ps e
  obtain ⟨m2,e2⟩:=tbls b _ e1;exact ⟨m1++m2,by rw [e2,Array.append_assoc]⟩
 ·obtain ⟨m,hn,hl⟩:=I.loc
  refine ⟨m,ns m hn,λi x v e1 e2 e3=>?_⟩
  obtain ⟨u,r,l⟩:=hl i x v e1 e2 e3;refine ⟨u,r,?_⟩;rcases l with l | ⟨k,c,e,z⟩
  ·exact .inl l
  ·exact .inr ⟨k,c,e,cellK x c e _ z⟩
 ·obtain ⟨v,z⟩:=I.cell x c e
  exact ⟨v,cellK x c e v z⟩
 ·obtain ⟨m,⟨o,_,_,ho,_⟩,_⟩:=I.loc
  exact free _ o (λz=>(hch _ z).2.1 rfl) ho I.free
 ·obtain ⟨v,o,ho,hd⟩:=I.cell x c e
  exact free c o (λz=>(hch c z).2.2.1 x c e rfl) ho (I.freeC x c e)
 ·obtain ⟨e,n,ne,nf,d⟩:=I.pin p hp
  have nch:p.1∉ch:=λz=>(hch p.1 z).2.2.2 p hp rfl
  exact ⟨keep p.1 p.2 ne nf nch e n,free p.1 p.2 nch e n,ne,nf,d⟩
theorem Inv.un {t':Nat} (I:Inv X pins σ H s) (u:Un X.fs [] H H' s.heap h') (hok:HOk X.prog X.w H' h'):Inv X pins σ H' { s with heap:=h',toks:=t' }:=by
 obtain ⟨m,⟨o,es,ep,ho,r⟩,_⟩:=id I.loc;obtain ⟨sl,hL⟩:=u.any ho I.free (by simp)
 exact I.step (g':=s.gens) (d':=s.drawn) (ch:=[]) (λ_ z=>nomatch z) (λb o _ hb _ e n=>u.keep b o e n hb (by simp)) (λb o _ hb _ e n=>u.slot b o e n hb (by simp)) (λb o _ e n=>u.free b o e n (by simp)) (λb o _ e=>u.there b o e (by simp)) u.tups u.frzs u.tbls (λm' hm=>by
  obtain ⟨o',es',ep',ho',r'⟩:=hm;rw [ho]at ho';cases ho';exact ⟨_,es',ep',hL,r'⟩) hok I.bare
theorem Inv.call {g':Array GenState} {t':Nat} {d':Drawn} {ch:List Addr} (I:Inv X pins σ H s) (u:Un (frs X.stack) ch H H' s.heap h') (hok:HOk X.prog X.w H' h') (hg:AllBare g')
  (hch:∀b∈ch,(b∈X.ex\/X.s₀.heap.objs.size<=b)/\b≠X.env.locals/\(∀x c,X.env.cells.lookup x=some c->c≠b)/\∀p∈X.pn++pins,p.1≠b) :
  Inv X pins σ H' { s with heap:=h',gens:=g',drawn:=d',toks:=t' }:=by
 obtain ⟨m,⟨o,es,ep,ho,r⟩,_⟩:=id I.loc;obtain ⟨sl,hL⟩:=u.any ho I.free λz=>(hch _ z).2.1 rfl
 exact I.step (ch:=ch) hch (λb o hL hb hc e n=>u.keep b o e n (λz=>(Zo.mp (I.stkSub b z)).elim hL hb) hc) (λb o _ _ hc e n=>u.any e n hc) (λb o hc e n=>u.free b o e n hc) (λb o hc e=>u.there b o e hc) u.tups u.frzs u.tbls (λm' hm=>by
  obtain ⟨o',es',ep',ho',r'⟩:=hm;rw [ho]at ho';cases ho';exact ⟨_,es',ep',hL,r'⟩) hok hg
theorem Inv.turned {t':Nat} {it:Addr} (I:Inv X pins σ H s) (k:∀b o,b≠it->s.heap.get? b=some o->h'.get? b=some o) (hn:H it=none) (hL:it≠X.env.locals)
  (h1:it∈X.ex\/X.s₀.heap.objs.size<=it) (h2:∀x c,X.env.cells.lookup x=some c->c≠it) (h3:∀p∈X.pn++pins,p.1≠it):Inv X pins σ H { s with heap:=h',toks:=t' }:=by
 have nit:∀b u,H b=some u->b≠it:=λb u e z=>by rw [z,hn]at e;cases e
 refine I.step (g':=s.gens) (d':=s.drawn) (ch:=[it]) (λb hb=>?_) (λb o _ _ hc e _=>k b o (λz=>hc (by simp [z])) e) (λb o _ _ hc e _=>⟨o.slots,k b o (λz=>hc (by simp [z])) e⟩) (λ_ _ _ _ n=>n)
  (λb o hc e=>⟨o,k b o (λz=>hc (by simp [z])) e⟩) (λ_ _ e=>e) (λ_ _ _ e=>e) (λb ps e=>⟨#[],by rw [e];simp⟩) (λm hm=>?_) (λb u e=>?_) I.bare
 ·have e:b=it:=by simpa using hb
  subst e;exact ⟨h1,hL,h2,h3⟩
 ·obtain ⟨o,es,ep,ho,r⟩:=hm
  exact ⟨o,es,ep,k _ o (Ne.symm hL) ho,r⟩
 ·refine (I.hok b u e).stay (λc v hc q=>k c v ?_ q) (λ_ q=>q) λ_ _ q=>q
  rcases hc with z | z
  ·rw [z];exact nit b u e
  ·exact nit c _ z
theorem Inv.tok (I:Inv X pins σ H s) (t:Nat):Inv X pins σ H { s with toks:=t }:=I.un (h':=s.heap) (t':=t) Un.refl I.hok
theorem Inv.kept {t':Nat} (I:Inv X pins σ H s) (k:∀b u,s.heap.get? b=some u->h'.get? b=some u):Inv X pins σ H { s with heap:=h',toks:=t' }:=I.un (Un.kept k) (I.hok.kept k)
theorem Inv.laid {a:Addr} {o:HO} {t':Nat} (I:Inv X pins σ H s) (k:∀b u,s.heap.get? b=some u->h'.get? b=some u) (hp:s.heap.objs.size<=a) (new:eY X.prog X.w (upd H a o) h' a o) :
  Inv X pins σ (upd H a o) { s with heap:=h',toks:=t' }:=I.un (Un.laid k hp (I.hok.fresh hp)) (I.hok.laid k hp new)
theorem Inv.write {x e:Addr} {o:HO} {t':Nat} (I:Inv X pins σ H s) (mu:Mut (H x)) (he:e=x\/H e=some (.own x)) (k:∀b u,b≠e->s.heap.get? b=some u->h'.get? b=some u) (heo:∃u,h'.get? e=some u)
  (new:eY X.prog X.w (upd H x o) h' x o):Inv X pins σ (upd H x o) { s with heap:=h',toks:=t' }:=I.un (Un.write mu he k heo) (I.hok.write mu he k heo new)
theorem Inv.weak {σ':List (Option V)} (I:Inv X pins σ H s) (hl:σ'.length=σ.length) (w:∀(i:Nat) v,σ'[i]?=some (some v)->σ[i]?=some (some v)):Inv X pins σ' H s :=
 ⟨I.ok,I.os,I.bare,I.base,let ⟨m,hn,hl'⟩:=I.loc;⟨m,hn,λi x v e1 e2 e3=>hl' i x v e1 (w i v e2) e3⟩,I.cell,I.free,I.freeC,I.pin,I.hok,hl.trans I.len⟩
theorem Inv.pins_of {pins':List (Addr×Obj)} (I:Inv X pins σ H s) (h:∀p∈pins',s.heap.get? p.1=some p.2/\H p.1=none/\p.1≠X.env.locals/\p.1∉X.fs/\∀v,p.2.data≠.cell v):Inv X pins' σ H s :=
 ⟨I.ok,I.os,I.bare,I.base,I.loc,I.cell,I.free,I.freeC,λp hp=>(Zs.mp hp).elim (λz=>I.pin p (Zw _ z)) (h p),I.hok,I.len⟩
theorem tU {N:List Str} (hN:N.Nodup) {i j:Nat} {x:Str} (a:N[i]?=some x) (b:N[j]?=some x):i=j:=by
 obtain ⟨h1,e1⟩:=Zb.mp a;obtain ⟨h2,e2⟩:=Zb.mp b;exact (List.getElem_inj hN).mp (e1.trans e2.symm)
theorem wM {M:Model} {A:Around} {E:Value->Shared->Prop} {i:Nat} {x:Str} {v:V} {u:Value} {Q:Unit->Shared->Prop} (I:Inv X pins σ H s) (hN:X.N.Nodup) (hi:X.N[i]?=some x) (hx:Loc X.env.scope x) (r:RelV v u)
  (h:∀s',Inv X pins (σ.set i (some v)) H s'->(∃a,Heap.SameBut a s.heap s'.heap/\(a=X.env.locals\/X.env.cells.lookup x=some a))->Q () s') (hf:X.fn x=true\/X.env.scope.names.lookup x=some .local:=by first | exact .inl rfl | exact .inr rfl | assumption):wpAny M A (storeName X.env x u) Q E s:=by
 obtain ⟨m,hn,hl⟩:=id I.loc;have hcls:(X.env.scope.kind == .class || (X.env.scope.kind == .module && X.env.locals != X.env.globals))=false:=by rw [I.ok.kind];rfl
 have hiσ:i<σ.length:=by rw [I.len];exact (Zb.mp hi).1
 have cne:=I.cne;have tracked:∀{a:Addr} {h':Heap},(∃o,s.heap.get? a=some o/\H a=none)->Heap.SameBut a s.heap h'->HOk X.prog X.w H h':=fun {a h'} ha hs b ob e=>by
  obtain ⟨_,_,hfree⟩:=ha;refine (I.hok b ob e).stay (λc w' hc q=>(hs.2 c ?_).trans q) (λ_ q=>q) λ_ _ q=>q
  rintro rfl;rcases hc with rfl | hc
  ·rw [hfree]at e;cases e
  ·rw [hfree]at hc;cases hc
 rcases hx with hk | hk
 ·refine wpAny_storeName_local hk hn (λh' hn' hs=>?_) hcls
  obtain ⟨oL,_,_,hoL,_⟩:=id hn;refine h _ ⟨I.ok,I.os,I.bare,⟨λb o e n hb hx=>?_,λb o e n hb hx=>?_,I.base.free,λb o e hx=>?_,I.base.tups,I.base.frzs,I.base.tbls⟩,⟨_,hn',λj y v' e1 e2 e3=>?_⟩,λy c e=>?_,I.free,I.freeC,λp hp=>?_,tracked ⟨oL,hoL,I.free⟩ hs,by simpa using I.len⟩ ⟨_,hs,.inl rfl⟩
  ·exact (hs.2 b (Nat.ne_of_lt (ZI (Heap.lt_size e) I.ok.above))).trans (I.base.keep b o e n hb hx)
  ·obtain ⟨sl,e1⟩:=I.base.slot b o e n hb hx
   exact ⟨sl,(hs.2 b (Nat.ne_of_lt (ZI (Heap.lt_size e) I.ok.above))).trans e1⟩
  ·obtain ⟨o',e1⟩:=I.base.there b o e hx
   exact ⟨o',(hs.2 b (Nat.ne_of_lt (ZI (Heap.lt_size e) I.ok.above))).trans e1⟩
  ·by_cases hj:j=i
   ·subst hj
    rw [hi]at e1;cases e1;rw [List.getElem?_set_self hiσ]at e2;cases e2;exact ⟨u,r,.inl ⟨hk,by simp⟩⟩
   ·rw [List.getElem?_set_ne (Ne.symm hj)]at e2
    obtain ⟨u',r',q⟩:=hl j y v' e1 e2 e3;refine ⟨u',r',?_⟩;rcases q with ⟨k,e⟩ | ⟨k,c,e,z⟩
    ·refine .inl ⟨k,?_⟩
     have:y≠x:=λe=>hj (tU hN e1 (e▸hi))
     simp [this,e]
    ·exact .inr ⟨k,c,e,z.sameBut hs (cne y c e)⟩
  ·obtain ⟨w',z⟩:=I.cell y c e
   exact ⟨w',z.sameBut hs (cne y c e)⟩
  ·obtain ⟨e,n,ne,nf,d⟩:=I.pin p hp
   exact ⟨(hs.2 p.1 ne).trans e,n,ne,nf,d⟩
 ·have hfn:X.fn x=true:=by
   rcases hf with z | z
   ·exact z
   ·rw [z]at hk;cases hk
  obtain ⟨c,hc⟩:=I.ok.has x (.inl hk);obtain ⟨w',z⟩:=I.cell x c hc;refine wpAny_storeName_cell I.ok.kind hk hc z (λh' hc' hs=>?_)
  obtain ⟨oc,hoc,hocd⟩:=id z;refine h { s with heap:=h' } ⟨I.ok,I.os,I.bare,⟨λb o e n hb hx=>?_,λb o e n hb hx=>?_,I.base.free,λb o e hx=>?_,I.base.tups,I.base.frzs,I.base.tbls⟩,⟨m,hn.sameBut hs (Ne.symm (cne x c hc)),λj y v' e1 e2 e3=>?_⟩,λy c' e=>?_,I.free,I.freeC,λp hp=>?_,tracked ⟨oc,hoc,I.freeC x c hc⟩ hs,by simpa using I.len⟩ ⟨c,hs,.inr hc⟩
  ·exact (hs.2 b (Nat.ne_of_lt (ZI (Heap.lt_size e) (I.ok.cab x c hfn hc)))).trans (I.base.keep b o e n hb hx)
  ·obtain ⟨sl,e1⟩:=I.base.slot b o e n hb hx
   exact ⟨sl,(hs.2 b (Nat.ne_of_lt (ZI (Heap.lt_size e) (I.ok.cab x c hfn hc)))).trans e1⟩
  ·obtain ⟨o',e1⟩:=I.base.there b o e hx
   exact ⟨o',(hs.2 b (Nat.ne_of_lt (ZI (Heap.lt_size e) (I.ok.cab x c hfn hc)))).trans e1⟩
  ·by_cases hj:j=i
   ·subst hj
    rw [hi]at e1;cases e1;rw [List.getElem?_set_self hiσ]at e2;cases e2;exact ⟨u,r,.inr ⟨.inl hk,c,hc,hc'⟩⟩
   ·rw [List.getElem?_set_ne (Ne.symm hj)]at e2
    obtain ⟨u',r',q⟩:=hl j y v' e1 e2 e3;refine ⟨u',r',?_⟩;rcases q with q | ⟨k,c',e,z'⟩
    ·exact .inl q
    ·refine .inr ⟨k,c',e,z'.sameBut hs ?_⟩
     rintro rfl;exact hj (tU hN e1 (I.ok.inj _ _ _ e hc▸hi))
  ·by_cases hcc:c'=c
   ·subst hcc;exact ⟨_,hc'⟩
   ·obtain ⟨w2,z2⟩:=I.cell y c' e
    exact ⟨w2,z2.sameBut hs hcc⟩
  ·obtain ⟨e,n,ne,nf,d⟩:=I.pin p hp
   refine ⟨(hs.2 p.1 ?_).trans e,n,ne,nf,d⟩;intro q;rw [q,hoc]at e;have q':oc=p.2:=Zz e;exact d w' (by rw [<-q'];exact hocd)
theorem lY {M:Model} {A:Around} {E:Value->Shared->Prop} {i:Nat} {x:Str} {v:V} {u:Value} {Q:Unit->Shared->Prop} (I:Inv X pins σ H s) (hN:X.N.Nodup) (hi:X.N[i]?=some x) (hx:Loc X.env.scope x) (r:RelV v u)
  (h:∀s',Inv X pins (σ.set i (some v)) H s'->Q () s') (hf:X.fn x=true\/X.env.scope.names.lookup x=some .local:=by first | exact .inl rfl | exact .inr rfl | assumption):wpAny M A (storeName X.env x u) Q E s :=
 wM I hN hi hx r (λs' I' _=>h s' I') hf
theorem Inv.call' {s':Shared} {ch:List Addr} (I:Inv X pins σ H s) (ho:s'.os=s.os) (u:Un (frs X.stack) ch H H' s.heap s'.heap) (hok:HOk X.prog X.w H' s'.heap) (hg:AllBare s'.gens)
  (hch:∀b∈ch,(b∈X.ex\/X.s₀.heap.objs.size<=b)/\b≠X.env.locals/\(∀x c,X.env.cells.lookup x=some c->c≠b)/\∀p∈X.pn++pins,p.1≠b):Inv X pins σ H' s':=by
 obtain ⟨h',g',d',t',o'⟩:=s';have e:o'=s.os:=ho;subst e;exact I.call (g':=g') (t':=t') (d':=d') u hok hg hch
end
noncomputable abbrev XK:=Value->Option Addr->Hp->Prop
noncomputable abbrev St:=List (Option V)
noncomputable abbrev VK:=V->Hp->Prop
noncomputable abbrev TE:=St->Hp->VK->Prop
noncomputable abbrev TT:=St->Hp->(Bool->Hp->Prop)->Prop
noncomputable abbrev TA:=St->Hp->(List V->Hp->Prop)->Prop
structure Ends where
 nx:St->Hp->Prop
 rt:VK
 bk:St->Hp->Prop:=λ_ _=>False
 ct:St->Hp->Prop:=λ_ _=>False
noncomputable abbrev TS:=Ends->St->Hp->Prop
noncomputable def EP (X:Cx) (pins:List (Addr×Obj)) (σ:St) (Q:VK) (u:Value) (s':Shared):Prop:=∃v H',Inv X pins σ H' s'/\RelV v u/\Q v H'
noncomputable def TP (X:Cx) (pins:List (Addr×Obj)) (σ:St) (Q:Bool->Hp->Prop) (b:Bool) (s':Shared):Prop:=∃H',Inv X pins σ H' s'/\Q b H'
noncomputable def AP (X:Cx) (pins:List (Addr×Obj)) (σ:St) (Q:List V->Hp->Prop) (us:List Value) (s':Shared):Prop:=∃vs H',Inv X pins σ H' s'/\Vals vs us/\Q vs H'
noncomputable def SP (X:Cx) (pins:List (Addr×Obj)) (D:Ends) (f:Flow) (s':Shared):Prop :=
 match f with
 |.next=>∃σ' H',Inv X pins σ' H' s'/\D.nx σ' H'
 |.brk=>∃σ' H',Inv X pins σ' H' s'/\D.bk σ' H'
 |.cont=>∃σ' H',Inv X pins σ' H' s'/\D.ct σ' H'
 |.ret u=>∃v σ' H',Inv X pins σ' H' s'/\RelV v u/\D.rt v H'
noncomputable def PE (X:Cx) (e:Expr) (t:TE):Prop :=
 ∀(pins:List (Addr×Obj)) (s:Shared) (σ:St) (H:Hp) (Q:VK),Inv X pins σ H s->t σ H Q->wpAny (model X.prog X.w) X.A (eval e X.env) (EP X pins σ Q) X.xe s
noncomputable def PT (X:Cx) (e:Expr) (t:TT):Prop :=
 ∀(pins:List (Addr×Obj)) (s:Shared) (σ:St) (H:Hp) (Q:Bool->Hp->Prop),Inv X pins σ H s->t σ H Q->wpAny (model X.prog X.w) X.A (isTrue e X.env (eval e X.env)) (TP X pins σ Q) X.xe s
noncomputable def PW (X:Cx) (e:Expr) (t:TT):Prop :=
 ∀(whole:Sem Value) (pins:List (Addr×Obj)) (s:Shared) (σ:St) (H:Hp) (Q:Bool->Hp->Prop),Inv X pins σ H s->t σ H Q->wpAny (model X.prog X.w) X.A (isTrue e X.env whole) (TP X pins σ Q) X.xe s
theorem PW.pt {X:Cx} {e:Expr} {t:TT} (h:PW X e t):PT X e t:=h _
noncomputable def PA (X:Cx) (es:List Expr) (t:TA):Prop :=
 ∀(pos:Pos) (pins:List (Addr×Obj)) (s:Shared) (σ:St) (H:Hp) (Q:List V->Hp->Prop),Inv X pins σ H s->t σ H Q->wpAny (model X.prog X.w) X.A (spliced (backTo pos (starEach es X.env))) (AP X pins σ Q) X.xe s
noncomputable def PS (X:Cx) (st:Stmt) (t:TS):Prop :=
 ∀(pins:List (Addr×Obj)) (s:Shared) (σ:St) (H:Hp) (D:Ends),Inv X pins σ H s->t D σ H->wpAny (model X.prog X.w) X.A (exec st X.env) (SP X pins D) X.xe s
noncomputable def PSs (X:Cx) (st:List Stmt) (t:TS):Prop :=
 ∀(pins:List (Addr×Obj)) (s:Shared) (σ:St) (H:Hp) (D:Ends),Inv X pins σ H s->t D σ H->wpAny (model X.prog X.w) X.A (execs st X.env) (SP X pins D) X.xe s
theorem thn {α:Type} {t:Sem α} {Q Q':α->Shared->Prop} {M:Model} {A:Around} {E:Value->Shared->Prop} {s:Shared} (h:wpAny M A t Q E s) (hQ:∀a s,Q a s->Q' a s):wpAny M A t Q' E s:=wpAny_mono h hQ λ_ _ x=>x
section
variable {X:Cx}
theorem bin {a b:Expr} {ta tb:TE} (ha:PE X a ta) (hb:PE X b tb) {pins:List (Addr×Obj)} {s:Shared} {σ:St} {H:Hp} {R:V->V->Hp->Prop} (I:Inv X pins σ H s) (h:ta σ H λx H1=>tb σ H1 λy H2=>R x y H2)
  {α:Type} {Q:α->Shared->Prop} {f:Value->Value->Sem α}
  (hf:∀v u s2 x y H2,Inv X pins σ H2 s2->RelV x v->RelV y u->R x y H2->wpAny (model X.prog X.w) X.A (f v u) Q X.xe s2) :
  wpAny (model X.prog X.w) X.A (eval a X.env) (λv s₁=>wpAny (model X.prog X.w) X.A (eval b X.env) (λu s₂=>wpAny (model X.prog X.w) X.A (f v u) Q X.xe s₂) X.xe s₁) X.xe s:=by
 refine thn (ha pins s σ H _ I h) λv s1 ⟨x,H1,I1,r1,q1⟩=>?_
 refine thn (hb pins s1 σ H1 _ I1 q1) λu s2 ⟨y,H2,I2,r2,q2⟩=>?_
 exact hf v u s2 x y H2 I2 r1 r2 q2
noncomputable def og (i:Nat):TE:=fun σ H Q=>∃v,σ[i]?=some (some v)/\Q v H
noncomputable def tC (v:V):TE:=λ_ H Q=>Q v H
theorem ju {i:Nat} {x:Str} {pos:Pos} (hN:X.N[i]?=some x) (hv:Vis X.env.scope x) (hd:(x == ("__debug__" : Str))=false:=by decide) (hcd:(x == ("__classdict__" : Str))=false:=by decide):PE X (.Name x pos) (og i):=by
 intro pins s σ H Q I h;obtain ⟨v,e,h⟩:=h;obtain ⟨m,hn,hl⟩:=I.loc;obtain ⟨u,r,l⟩:=hl i x v hN e hv;have fin:EP X pins σ Q u s:=⟨v,H,I,r,h⟩;rcases l with ⟨hk,hm⟩ | ⟨hk,c,hc,hcell⟩
 ·exact wpAny_Name (wpAny_loadName_local I.ok.kind hk hn hm fin) hd
 ·rcases hk with hk | hk
  ·exact wpAny_Name (wpAny_loadName_cell I.ok.kind hk hc hcell fin) hd
  ·exact wpAny_Name (wpAny_loadName_free I.ok.kind hk hc hcell fin hcd) hd
theorem CM {i j pos}:PE X (.Constant (.int i) j pos) (tC (.int i)):=λ_ _ _ H _ I h=>wpAny_Constant_int ⟨.int i,H,I.tok _,⟨_,rfl⟩,h⟩
theorem IL {b j pos}:PE X (.Constant (.bool b) j pos) (tC (.bl b)):=λ_ _ _ H _ I h=>Constant_bool ⟨.bl b,H,I,rfl,h⟩
theorem Ey {x j pos}:PE X (.Constant (.str x) j pos) (tC (.str x)):=λ_ _ _ H _ I h=>Calls.Constant_str ⟨.str x,H,I.tok _,⟨_,rfl⟩,h⟩
noncomputable def Gl (X:Cx) (x:Str):Prop:=X.env.kindOf x=some .globalImplicit
theorem A_ {E:Value->Shared->Prop} {pins:List (Addr×Obj)} {s:Shared} {σ:St} {H:Hp} {x:Str} {u:Value} {pos:Pos} {Q:Value->Shared->Prop} (I:Inv X pins σ H s) (hg:Gl X x) (hm:X.mg x=some u) (h:Q u s)
  (hd:(x == ("__debug__" : Str))=false:=by decide):wpAny (model X.prog X.w) X.A (eval (.Name x pos) X.env) Q E s :=
 Calls.Name_function_global I.ok.kind hg (Calls.loadGlobal_global (by rw [I.ok.glob];exact I.mod.glob.keeps I.bk) hm h) hd
theorem jX {E:Value->Shared->Prop} {pins:List (Addr×Obj)} {s:Shared} {σ:St} {H:Hp} {x:Str} {u:Value} {pos:Pos} {Q:Value->Shared->Prop} (I:Inv X pins σ H s) (hg:Gl X x) (hm:X.mg x=none) (hv:bootBuiltins x=some u) (h:Q u s)
  (hn:x ≠ "__name__" := by decide) (hd:(x == ("__debug__" : Str))=false:=by decide):wpAny (model X.prog X.w) X.A (eval (.Name x pos) X.env) Q E s:=by
 obtain ⟨mb,h1,h2⟩:=I.mod.blt;exact Calls.Name_function_global I.ok.kind hg (Calls.loadGlobal_builtin (by rw [I.ok.glob];exact I.mod.glob.keeps I.bk) hm (by rw [I.ok.blt];exact h1.keeps I.bk) ((h2 x hn).trans hv) h) hd
theorem AF {x:Str} {v:V} {u:Value} {pos:Pos} (hg:Gl X x) (hm:X.mg x=none) (hv:bootBuiltins x=some u) (r:RelV v u) (hn:x ≠ "__name__" := by decide) (hd:(x == ("__debug__" : Str))=false:=by decide):PE X (.Name x pos) (tC v) :=
 λ_ _ _ H _ I h=>jX I hg hm hv ⟨v,H,I,r,h⟩ hn hd
variable {a b:Expr} {ta tb:TE} {pos:Pos}
noncomputable def PC (X:Cx) (op:CmpOp) (a b:Expr) (t:TE):Prop :=
 ∀(pins:List (Addr×Obj)) (s:Shared) (σ:St) (H:Hp) (Q:VK),Inv X pins σ H s->t σ H Q ->
  wpAny (model X.prog X.w) X.A (eval a X.env) (λv s₁=>wpAny (model X.prog X.w) X.A (eval b X.env) (λu s₂=>wpAny (model X.prog X.w) X.A (compareOp op v u) (EP X pins σ Q) X.xe s₂) X.xe s₁) X.xe s
theorem zx (b:Expr) {op:CmpOp} (h:op≠.In) (h2:op≠.NotIn):behindInMarks op b=false:=by
 have e1:(op == CmpOp.In)=false:=by cases op <;> first | rfl | exact absurd rfl h
 have e2:(op == CmpOp.NotIn)=false:=by cases op <;> first | rfl | exact absurd rfl h2
 cases b <;> simp [behindInMarks,e1,e2]
noncomputable def tB (t:TE):TT:=fun σ H Q=>t σ H λx H1=>∃c,x=.bl c/\Q c H1
theorem JU {op:CmpOp} {t:TE} (h:PC X op a b t) (h1:behindInMarks op b=false:=by first | exact zx _ (by decide) (by decide) | rfl):PT X (.Compare a [op] [b] pos) (tB t):=by
 intro pins s σ H Q I hw;refine wpAny_isTrue_Compare1 (thn (h pins s σ H _ I hw) λv s1 h1=>thn h1 λu s2 h2=>thn h2 λc s3 ⟨x,H1,I1,r1,q1⟩=>?_) h1
 obtain ⟨d,rfl,q⟩:=q1;cases r1;exact wpAny_truthy_bool ⟨H1,I1,q⟩
theorem DY {e:Expr} {t:TE} (h:PE X e t) (he:∀whole,isTrue e X.env whole=(do let v <-whole;standAt e.pos;holding [v] (truthy v)):=by intro _;rfl):PT X e (tB t):=by
 intro pins s σ H Q I hw;refine isTrue_plain (thn (h pins s σ H _ I hw) λv s1 ⟨x,H1,I1,r1,q1⟩=>?_) (he _)
 obtain ⟨d,rfl,q⟩:=q1;cases r1;exact wpAny_truthy_bool ⟨H1,I1,q⟩
variable {tA tB':TT} {rest:List Expr}
noncomputable def Jg (t u:TT):TT:=fun σ H Q=>t σ H λc H1=>if c=true then u σ H1 Q else Q false H1
noncomputable def tOr (t u:TT):TT:=fun σ H Q=>t σ H λc H1=>if c=true then Q true H1 else u σ H1 Q
noncomputable def Iv (t:TT):TT:=fun σ H Q=>t σ H λc H1=>Q (!c) H1
theorem Aw (ha:PT X a tA):PW X (.BoolOp .And [a] pos) tA:=by
 intro wh pins s σ H Q I h;refine isTrue_and (thn (ha pins s σ H Q I h) λc s1 e=>?_)
 cases c with
 |true=>exact isTrue_and_nil e
 |false=>exact e
theorem FC (ha:PT X a tA):PW X (.BoolOp .Or [a] pos) tA:=by
 intro wh pins s σ H Q I h;refine isTrue_or (thn (ha pins s σ H Q I h) λc s1 e=>?_)
 cases c with
 |false=>exact isTrue_or_nil e
 |true=>exact e
theorem CT (ha:PT X a tA) (hb:PW X (.BoolOp .And (b :: rest) pos) tB'):PW X (.BoolOp .And (a :: b :: rest) pos) (Jg tA tB'):=by
 intro wh pins s σ H Q I h;refine isTrue_and (thn (ha pins s σ H _ I h) λc s1 ⟨H1,I1,q1⟩=>?_)
 cases c with
 |true=>exact hb wh pins s1 σ H1 Q I1 q1
 |false=>exact ⟨H1,I1,q1⟩
theorem G5 (ha:PT X a tA) (hb:PW X (.BoolOp .Or (b :: rest) pos) tB'):PW X (.BoolOp .Or (a :: b :: rest) pos) (tOr tA tB'):=by
 intro wh pins s σ H Q I h;refine isTrue_or (thn (ha pins s σ H _ I h) λc s1 ⟨H1,I1,q1⟩=>?_)
 cases c with
 |true=>exact ⟨H1,I1,q1⟩
 |false=>exact hb wh pins s1 σ H1 Q I1 q1
theorem Ec (ha:PT X a tA):PT X (.UnaryOp .Not a pos) (Iv tA):=by
 intro pins s σ H Q I h;exact isTrue_not (ha pins s σ H (λc H1=>Q (!c) H1) I h)
noncomputable def BR (ta tb:TE):TE:=fun σ H Q=>ta σ H λx H1=>∃c,x=.bl c/\if c=true then tb σ H1 Q else Q (.bl false) H1
noncomputable def Co (ta:TE):TE:=fun σ H Q=>ta σ H λx H1=>∃c,x=.bl c/\Q (.bl (!c)) H1
theorem Dd {op} {t:TE} (h:PE X a t):PE X (.BoolOp op [a] pos) t:=λpins s σ H Q I hw=>BoolOp_one (h pins s σ H Q I hw)
theorem DB (ha:PE X a ta) (hb:PE X (.BoolOp .And (b :: rest) pos) tb):PE X (.BoolOp .And (a :: b :: rest) pos) (BR ta tb):=by
 intro pins s σ H Q I h;refine BoolOp_and (thn (ha pins s σ H _ I h) λv s1 ⟨x,H1,I1,r1,q1⟩=>?_)
 obtain ⟨c,rfl,q1⟩:=q1;cases r1;refine wpAny_truthy_bool ?_;cases c with
 |true=>exact hb pins s1 σ H1 Q I1 q1
 |false=>exact ⟨.bl false,H1,I1,rfl,q1⟩
theorem CI (ha:PE X a ta):PE X (.UnaryOp .Not a pos) (Co ta):=by
 intro pins s σ H Q I h;refine UnaryOp_ (thn (ha pins s σ H _ I h) λv s1 ⟨x,H1,I1,r1,q1⟩=>?_)
 obtain ⟨c,rfl,q1⟩:=q1;cases r1;exact not_of (wpAny_truthy_bool ⟨.bl (!c),H1,I1,rfl,q1⟩)
noncomputable def tIf (t:TT) (ta tb:TE):TE:=fun σ H Q=>t σ H λc H1=>if c=true then ta σ H1 Q else tb σ H1 Q
theorem yN {c:Expr} (hc:PT X c tA) (ha:PE X a ta) (hb:PE X b tb):PE X (.IfExp c a b pos) (tIf tA ta tb):=by
 intro pins s σ H Q I h;refine wpAny_IfExp (thn (hc pins s σ H _ I h) λd s1 ⟨H1,I1,q1⟩=>?_)
 cases d with
 |true=>exact ha pins s1 σ H1 Q I1 q1
 |false=>exact hb pins s1 σ H1 Q I1 q1
end
noncomputable def SqL (K:PySem.W.Frag) (H:Hp) (a:Addr) (xs:List V):Prop :=
 Rd H a (.lst xs) \/
  ∃(o:Obj) (its:Array Value) (n:Nat),K.lookup a=some o/\o.cls=.type "list" /\ o.dict=none/\o.data=.seq its n/\its.size<=sizeLine/\Vals xs its.toList
noncomputable def SqT (K:PySem.W.Frag) (H:Hp) (a:Addr) (xs:List V):Prop :=
 Rd H a (.tup xs) \/
  ∃(o:Obj) (its:Array Value) (n:Nat),K.lookup a=some o/\o.cls=.type "tuple" /\ o.data=.seq its n/\its.size<=sizeLine/\Vals xs its.toList
noncomputable def KZ:Value->Option V
 |.none=>some .non
 |.bool b=>some (.bl b)
 |.int i _=>some (.int i)
 |.str x _=>some (.str x)
 |.bytes b _=>some (.byt b)
 |.float b _=>some (.flt b)
 |.ref a=>some (.ref a)
 |.type n=>some (.ty n)
 |_=>none
theorem RelV.abs {x:V} {u:Value} (r:RelV x u):KZ u=some x:=by
 cases x with
 |non=>cases r;rfl
 |bl _=>cases r;rfl
 |int _=>obtain ⟨t,rfl⟩:=r;rfl
 |str _=>obtain ⟨t,rfl⟩:=r;rfl
 |byt _=>obtain ⟨t,rfl⟩:=r;rfl
 |flt _=>obtain ⟨t,rfl⟩:=r;rfl
 |ref _=>cases r;rfl
 |ty _=>cases r;rfl
theorem RelV.inj {x y:V} {u:Value} (r:RelV x u) (q:RelV y u):x=y:=Zz (r.abs.symm.trans q.abs)
theorem Vals.inj:∀{xs ys:List V} {us:List Value},Vals xs us->Vals ys us->xs=ys
 |_,_,_,.nil,.nil=>rfl
 |_,_,_,.cons r t,.cons r' t'=>by rw [r.inj r',Vals.inj t t']
section
variable {X:Cx} {pins:List (Addr×Obj)} {σ:St} {H:Hp} {s:Shared} {a:Addr} {xs ys:List V}
theorem SqL.of {K:PySem.W.Frag} (h:H a=some (.lst xs)):SqL K H a xs:=.inl (.inl h)
theorem SqT.of {K:PySem.W.Frag} (h:H a=some (.tup xs)):SqT K H a xs:=.inl (.inl h)
theorem Inv.list (I:Inv X pins σ H s) (h:SqL X.K H a xs):∃its:List Value,Vals xs its/\PlainL s.heap a its.toArray/\xs.length<=sizeLine:=by
 rcases h with h | ⟨o,its,n,hk,hc,hd,hs,hz,r⟩
 ·obtain ⟨z,its,n,r,e⟩:=h.ok I.hok
  exact ⟨its,r,⟨_,n,e,rfl,rfl,rfl⟩,z⟩
 ·refine ⟨its.toList,r,⟨o,n,I.kIn a o hk,hc,hd,by simpa using hs⟩,?_⟩
  have e:=r.length;simp only [Array.length_toList]at e
  lia
theorem Inv.tuple (I:Inv X pins σ H s) (h:SqT X.K H a xs):∃its:List Value,Vals xs its/\IsTup s.heap a its.toArray/\xs.length<=sizeLine:=by
 rcases h with h | ⟨o,its,n,hk,hc,hs,hz,r⟩
 ·obtain ⟨z,its,r,p⟩:=h.ok I.hok
  exact ⟨its,r,p,z⟩
 ·refine ⟨its.toList,r,⟨o,I.kIn a o hk,hc,n,by simpa using hs⟩,?_⟩
  have e:=r.length;simp only [Array.length_toList]at e
  lia
theorem Inv.list_inj (I:Inv X pins σ H s) (h:SqL X.K H a xs) (h':SqL X.K H a ys):xs=ys:=by
 obtain ⟨its,r,⟨o,n,e,_,_,d⟩,_⟩:=I.list h;obtain ⟨its',r',⟨o',n',e',_,_,d'⟩,_⟩:=I.list h';rw [e]at e';cases e';rw [d]at d';injection d' with d1 _
 have:its=its':=by simpa using congrArg Array.toList d1
 subst this;exact r.inj r'
theorem Inv.tuple_inj (I:Inv X pins σ H s) (h:SqT X.K H a xs) (h':SqT X.K H a ys):xs=ys:=by
 obtain ⟨its,r,⟨o,e,_,n,d⟩,_⟩:=I.tuple h;obtain ⟨its',r',⟨o',e',_,n',d'⟩,_⟩:=I.tuple h';rw [e]at e';cases e';rw [d]at d';injection d' with d1 _
 have:its=its':=by simpa using congrArg Array.toList d1
 subst this;exact r.inj r'
end
noncomputable abbrev Cx.wish (X:Cx) (E:Value->Shared->Prop):Cx:={ X with xe:=E }
noncomputable abbrev Cx.nox (X:Cx):Cx:=X.wish λ_ _=>False
theorem Cx.Ok.wish {X:Cx} (ok:X.Ok) (E:Value->Shared->Prop):(X.wish E).Ok :=
 ⟨ok.mod,ok.kind,ok.glob,ok.blt,ok.above,ok.inj,ok.has,ok.cab,ok.hd,ok.frames,ok.stk,ok.exf,ok.bs,ok.bsz,ok.noex,ok.exfs,ok.funs,ok.frf⟩
theorem Cx.Ok.unwish {X:Cx} {E:Value->Shared->Prop} (ok:(X.wish E).Ok):X.Ok :=
 ⟨ok.mod,ok.kind,ok.glob,ok.blt,ok.above,ok.inj,ok.has,ok.cab,ok.hd,ok.frames,ok.stk,ok.exf,ok.bs,ok.bsz,ok.noex,ok.exfs,ok.funs,ok.frf⟩
section
variable {X:Cx} {pins:List (Addr×Obj)} {σ:St} {H:Hp} {s:Shared} {E:Value->Shared->Prop}
theorem Inv.wish (I:Inv X pins σ H s) (E:Value->Shared->Prop):Inv (X.wish E) pins σ H s:=⟨I.ok.wish E,I.os,I.bare,I.base,I.loc,I.cell,I.free,I.freeC,I.pin,I.hok,I.len⟩
theorem Inv.unwish (I:Inv (X.wish E) pins σ H s):Inv X pins σ H s:=⟨I.ok.unwish,I.os,I.bare,I.base,I.loc,I.cell,I.free,I.freeC,I.pin,I.hok,I.len⟩
theorem SP.unwish {D:Ends} {f:Flow} {s':Shared} (h:SP (X.wish E) pins D f s'):SP X pins D f s':=by
 cases f with
 |next=>obtain ⟨σ',H',I,q⟩:=h;exact ⟨σ',H',I.unwish,q⟩
 |brk=>obtain ⟨σ',H',I,q⟩:=h;exact ⟨σ',H',I.unwish,q⟩
 |cont=>obtain ⟨σ',H',I,q⟩:=h;exact ⟨σ',H',I.unwish,q⟩
 |ret u=>obtain ⟨v,σ',H',I,r,q⟩:=h;exact ⟨v,σ',H',I.unwish,r,q⟩
theorem PSs.nox {st:List Stmt} {t:TS} (h:PSs X.nox st t):PSs X st t:=λpins s σ H D I hw =>
 wpAny_mono (h pins s σ H D (I.wish _) hw) (λ_ _ q=>q.unwish) λ_ _ z=>False.elim z
end
section
variable {X:Cx} {st:Stmt} {rest:List Stmt} {t u:TS} {e:Expr} {te:TE} {pos:Pos}
noncomputable def B_:TS:=λD σ H=>D.nx σ H
noncomputable def HH (t u:TS):TS:=λD σ H=>t { D with nx:=u D } σ H
theorem Ag:PSs X [] B_:=λ_ _ σ H _ I h=>wpAny_execs_nil ⟨σ,H,I,h⟩
theorem xJ (h1:PS X st t) (h2:PSs X rest u):PSs X (st :: rest) (HH t u):=by
 intro pins s σ H D I h;refine wpAny_execs_cons (thn (h1 pins s σ H { D with nx:=u D } I h) λf s1 q=>?_)
 cases f with
 |next =>
  obtain ⟨σ',H',I',q⟩:=q;exact h2 pins s1 σ' H' D I' q
 |ret v=>exact q
 |brk=>exact q
 |cont=>exact q
theorem Bo (h1:PS X st t):PSs X [st] t:=by
 intro pins s σ H D I h;refine wpAny_execs_cons (thn (h1 pins s σ H D I h) λf s1 q=>?_)
 cases f with
 |next=>exact wpAny_execs_nil q
 |ret v=>exact q
 |brk=>exact q
 |cont=>exact q
theorem Inv.quiet {pins:List (Addr×Obj)} {σ:St} {H:Hp} {s:Shared} (I:Inv X pins σ H s):interactive X.env=false:=by simp [interactive,I.ok.kind]
noncomputable def m7 (te:TE):TS:=λD σ H=>te σ H λ_ H1=>D.nx σ H1
theorem qj (he:PE X e te) (hs:swapsWith e none pos.line X.env=pure false:=by rfl):PS X (.Expr e pos) (m7 te):=by
 intro pins s σ H D I h;exact wpAny_Expr_any (thn (he pins s σ H _ I h) λv s1 ⟨x,H1,I1,r1,q1⟩=>⟨σ,H1,I1,q1⟩) I.quiet hs
noncomputable def Gj (te:TE):TS:=λD σ H=>te σ H D.rt
theorem xU (he:PE X e te):PS X (.Return (some e) pos) (Gj te):=by
 intro pins s σ H D I h;exact wpAny_Return_some (thn (he pins s σ H _ I h) λv s1 ⟨x,H1,I1,r1,q1⟩=>⟨x,σ,H1,I1,r1,q1⟩)
noncomputable def Ic (c:TT) (t u:TS):TS:=λD σ H=>c σ H λb H1=>if b=true then t D σ H1 else u D σ H1
theorem Ij {c:Expr} {a b:List Stmt} {tc:TT} (hc:PT X c tc) (ha:PSs X a t) (hb:PSs X b u):PS X (.If c a b pos) (Ic tc t u):=by
 intro pins s σ H D I h;refine wpAny_If (thn (hc pins s σ H _ I h) λd s1 ⟨H1,I1,q1⟩=>?_)
 cases d with
 |true=>exact ha pins s1 σ H1 D I1 q1
 |false=>exact hb pins s1 σ H1 D I1 q1
noncomputable def xY:TS:=λ_ _ _=>False
theorem x9:PS X st xY:=λ_ _ _ _ _ _ h=>h.elim
end
noncomputable abbrev TG:=V->St->Hp->(St->Hp->Prop)->Prop
noncomputable abbrev TGs:=List V->St->Hp->(St->Hp->Prop)->Prop
noncomputable def PG (X:Cx) (target:Expr) (t:TG):Prop :=
 ∀(pins:List (Addr×Obj)) (s:Shared) (σ:St) (H:Hp) (v:V) (u:Value) (Q:St->Hp->Prop),Inv X pins σ H s->RelV v u->t v σ H Q ->
  wpAny (model X.prog X.w) X.A (assign target X.env u) (λ_ s'=>∃σ' H',Inv X pins σ' H' s'/\Q σ' H') X.xe s
noncomputable def PGs (X:Cx) (ts:List Expr) (t:TGs):Prop :=
 ∀(pins:List (Addr×Obj)) (s:Shared) (σ:St) (H:Hp) (vs:List V) (us:List Value) (Q:St->Hp->Prop),Inv X pins σ H s->Vals vs us->t vs σ H Q ->
  wpAny (model X.prog X.w) X.A (assignInOrder ((assignEach ts X.env).map (·.2)) us) (λ_ s'=>∃σ' H',Inv X pins σ' H' s'/\Q σ' H') X.xe s
noncomputable abbrev yw:=V->V->V->Hp->(Hp->Prop)->Prop
noncomputable def Fc (X:Cx) (t:yw):Prop :=
 ∀(pins:List (Addr×Obj)) (s:Shared) (σ:St) (H:Hp) (o i v:V) (ov iv u:Value) (Q:Hp->Prop),Inv X pins σ H s->RelV o ov->RelV i iv->RelV v u->t o i v H Q ->
  wpAny (model X.prog X.w) X.A (setItem ov iv u) (λ_ s'=>∃H',Inv X pins σ H' s'/\Q H') X.xe s
noncomputable abbrev TIp:=V->V->Hp->VK->Prop
noncomputable def PIp (X:Cx) (op:Operator) (t:TIp):Prop :=
 ∀(pins:List (Addr×Obj)) (s:Shared) (σ:St) (H:Hp) (x y:V) (v u:Value) (Q:VK),Inv X pins σ H s->RelV x v->RelV y u->t x y H Q ->
  wpAny (model X.prog X.w) X.A (inplaceOp op v u) (EP X pins σ Q) X.xe s
section
variable {X:Cx} {pos:Pos}
noncomputable def sr (i:Nat):TG:=λv σ H Q=>Q (σ.set i (some v)) H
theorem AY {i:Nat} {x:Str} (hN:X.N.Nodup) (hi:X.N[i]?=some x) (hx:Loc X.env.scope x) (hf:X.fn x=true\/X.env.scope.names.lookup x=some .local:=by first | exact .inl rfl | exact .inr rfl | assumption):PG X (.Name x pos) (sr i):=by
 intro pins s σ H v u Q I r h;exact wpAny_assign_Name (lY I hN hi hx r (λs' I'=>⟨_,H,I',h⟩) hf)
noncomputable def HS:TGs:=λvs σ H Q=>vs=[]/\Q σ H
noncomputable def CA (t:TG) (u:TGs):TGs:=λvs σ H Q=>∃v r,vs=v :: r/\t v σ H fun σ' H'=>u r σ' H' Q
theorem AA:PGs X [] HS:=by
 intro pins s σ H vs us Q I r h;obtain ⟨e,h⟩:=h;subst e;cases r;exact assignInOrder_nil ⟨σ,H,I,h⟩
theorem yd {e:Expr} {es:List Expr} {t:TG} {u:TGs} (h1:PG X e t) (h2:PGs X es u)
  (hs:(assignEach (e :: es) X.env).map (·.2)=assign e X.env :: (assignEach es X.env).map (·.2):=by rfl):PGs X (e :: es) (CA t u):=by
 intro pins s σ H vs us Q I r h;obtain ⟨v,vr,e1,h⟩:=h;subst e1;cases r with
 |cons r rr =>
  rw [hs];refine assignInOrder_cons (thn (h1 pins s σ H _ _ _ I r h) λ_ s1 ⟨σ1,H1,I1,q1⟩=>?_)
  exact h2 pins s1 σ1 H1 _ _ Q I1 rr q1
noncomputable def GH (K:PySem.W.Frag) (n:Nat) (t:TGs):TG:=λv σ H Q=>∃a xs,v=.ref a/\SqT K H a xs/\xs.length=n/\t xs σ H Q
theorem Dr {es:List Expr} {k:Nat} {t:TGs} {n:Nat} (hc:X.calm=true) (h:PGs X es t)
  (hn:(assignEach es X.env).length=n:=by rfl) (hst:(assignEach es X.env).findIdx? (·.1)=none:=by rfl):PG X (.Tuple es k pos) (GH X.K n t):=by
 intro pins s σ H v u Q I r hw;obtain ⟨a,xs,e1,hq,hl,hw⟩:=hw;subst e1;cases r;obtain ⟨its,rv,ht,hz⟩:=I.tuple hq;refine assign_Tuple_tuple (I.ok.hd hc) ht (by simp [hn,<-hl,rv.length]) hst λh' hx=>?_
 have I1:Inv X pins σ H { s with heap:=h' }:=I.kept (t':=s.toks) λb o e=>hx b o (Nat.ne_of_lt (Heap.lt_size e)) e
 exact h pins _ σ H xs _ Q I1 (by simpa using rv) hw
noncomputable def Hx (to ti:TE) (t:yw):TG:=λv σ H Q=>to σ H λo H1=>ti σ H1 λi H2=>t o i v H2 λH3=>Q σ H3
theorem Eu {o i:Expr} {to ti:TE} {t:yw} (ho:PE X o to) (hi:PE X i ti) (hs:Fc X t)
  (ha:∀v,assign (.Subscript o i pos) X.env v=(do
   let ov <-holding [v] (eval o X.env)
   let iv <-holding [v,ov] (eval i X.env)
   standAt pos
   holding [v,ov,iv] (setItem ov iv v)
   release [v,ov,iv] []):=by intro _;rfl):PG X (.Subscript o i pos) (Hx to ti t):=by
 intro pins s σ H v u Q I r h;rw [ha];refine wpAny_bind (wpAny_holding (thn (ho pins s σ H _ I h) λov s1 ⟨x,H1,I1,r1,q1⟩=>?_))
 refine wpAny_bind (wpAny_holding (thn (hi pins s1 σ H1 _ I1 q1) λiv s2 ⟨y,H2,I2,r2,q2⟩=>?_))
 refine wpAny_bind (wpAny_standAt (wpAny_bind (wpAny_holding (thn (hs pins s2 σ H2 x y v ov iv u _ I2 r1 r2 r q2) λ_ s3 ⟨H3,I3,q3⟩=>?_))))
 exact wpAny_release ⟨σ,H3,I3,q3⟩
noncomputable def uV (te:TE) (g:TG):TS:=λD σ H=>te σ H λx H1=>g x σ H1 D.nx
theorem uG {tg e:Expr} {te:TE} {g:TG} (he:PE X e te) (hg:PG X tg g) (hs:swapsWithSole [tg] e pos.line X.env=pure false:=by rfl) (hw:swappedStores [tg] e X.env=pure none:=by rfl)
  (h1:(assignEach [tg] X.env).map (·.2)=[assign tg X.env]:=by rfl):PS X (.Assign [tg] e pos) (uV te g):=by
 intro pins s σ H D I h;refine wpAny_Assign_stores (thn (he pins s σ H _ I h) λv s1 ⟨x,H1,I1,r1,q1⟩=>?_) hs hw
 rw [h1];exact thn (hg pins s1 σ H1 x v _ I1 r1 q1) λ_ s2 q=>q
theorem Em {i:Nat} {x:Str} {e:Expr} {te:TE} {pos':Pos} (hN:X.N.Nodup) (hi:X.N[i]?=some x) (hx:Loc X.env.scope x) (he:PE X e te) (hs:swapsWith e (some (.Name x pos')) pos.line X.env=pure false:=by rfl) (hf:X.fn x=true\/X.env.scope.names.lookup x=some .local:=by first | exact .inl rfl | exact .inr rfl | assumption) :
  PS X (.Assign [.Name x pos'] e pos) (uV te (sr i)):=by
 intro pins s σ H D I h;refine wpAny_Assign_Name (thn (he pins s σ H _ I h) λv s1 ⟨y,H1,I1,r1,q1⟩=>?_) hs
 exact lY I1 hN hi hx r1 (λs2 I2=>⟨_,H1,I2,q1⟩) hf
noncomputable def Iq (i:Nat) (te:TE) (ti:TIp):TS:=λD σ H=>∃x,σ[i]?=some (some x)/\te σ H λy H1=>ti x y H1 λz H2=>D.nx (σ.set i (some z)) H2
theorem CN {i:Nat} {x:Str} {e:Expr} {te:TE} {op:Operator} {ti:TIp} {pos':Pos} (hN:X.N.Nodup) (hi:X.N[i]?=some x) (hx:Loc X.env.scope x) (he:PE X e te) (ho:PIp X op ti) (hf:X.fn x=true\/X.env.scope.names.lookup x=some .local:=by first | exact .inl rfl | exact .inr rfl | assumption) :
  PS X (.AugAssign (.Name x pos') op e pos) (Iq i te ti):=by
 intro pins s σ H D I h;obtain ⟨v,e1,h⟩:=h;obtain ⟨m,hn,hl⟩:=I.loc;have vis:Vis X.env.scope x:=by rcases hx with k | k;exact .inl k;exact .inr (.inl k)
 obtain ⟨u,r,l⟩:=hl i x v hi e1 vis;refine wpAny_AugAssign_Name ?_;have go:wpAny (model X.prog X.w) X.A (eval e X.env) (λw s₂=>wpAny (model X.prog X.w) X.A (inplaceOp op u w) (λr s₃=>wpAny (model X.prog X.w) X.A (storeName X.env x r) (λ_=>SP X pins D .next) X.xe s₃) X.xe s₂) X.xe s:=by
  refine thn (he pins s σ H _ I h) λw s1 ⟨y,H1,I1,r1,q1⟩=>?_
  refine thn (ho pins s1 σ H1 v y u w _ I1 r r1 q1) λz s2 ⟨zv,H2,I2,r2,q2⟩=>?_
  exact lY I2 hN hi hx r2 (λs3 I3=>⟨_,H2,I3,q2⟩) hf
 rcases l with ⟨hk,hm⟩ | ⟨hk,c,hc,hcell⟩
 ·exact wpAny_loadName_local I.ok.kind hk hn hm go
 ·rcases hk with hk | hk
  ·exact wpAny_loadName_cell I.ok.kind hk hc hcell go
  ·rcases hx with k | k
   ·have:X.env.scope.names.lookup x=some .free:=hk
    rw [k]at this;cases this
   ·have:X.env.scope.names.lookup x=some .free:=hk
    rw [k]at this;cases this
noncomputable def CF (to ti te:TE) (tget:V->V->Hp->VK->Prop) (tip:TIp) (tset:yw):TS:=λD σ H=>to σ H λo H1=>ti σ H1 λi H2=>tget o i H2 λx H3=>te σ H3 λy H4=>tip x y H4 λz H5=>tset o i z H5 λH6=>D.nx σ H6
noncomputable def Hd (X:Cx) (t:V->V->Hp->VK->Prop):Prop :=
 ∀(pins:List (Addr×Obj)) (s:Shared) (σ:St) (H:Hp) (o i:V) (ov iv:Value) (Q:VK),Inv X pins σ H s->RelV o ov->RelV i iv->t o i H Q ->
  wpAny (model X.prog X.w) X.A (getItem ov iv) (EP X pins σ Q) X.xe s
theorem BG {o i e:Expr} {to ti te:TE} {tget:V->V->Hp->VK->Prop} {tip:TIp} {tset:yw} {op:Operator} {tpos:Pos} (ho:PE X o to) (hi:PE X i ti) (hg:Hd X tget) (he:PE X e te) (hp:PIp X op tip) (hs:Fc X tset)
  (ha:∀ov iv new,augStore i ov iv new=(do holding [new,ov,iv] (setItem ov iv new);release [new,ov,iv] [];pure .next):=by intros;rfl):PS X (.AugAssign (.Subscript o i tpos) op e pos) (CF to ti te tget tip tset):=by
 intro pins s σ H D I h;refine wpAny_AugAssign_SubscriptAny (thn (ho pins s σ H _ I h) λov s1 ⟨x1,H1,I1,r1,q1⟩=>?_) ha
 refine thn (hi pins s1 σ H1 _ I1 q1) λiv s2 ⟨x2,H2,I2,r2,q2⟩=>?_
 refine thn (hg pins s2 σ H2 x1 x2 ov iv _ I2 r1 r2 q2) λold s3 ⟨x3,H3,I3,r3,q3⟩=>?_
 refine thn (he pins s3 σ H3 _ I3 q3) λv s4 ⟨x4,H4,I4,r4,q4⟩=>?_
 refine thn (hp pins s4 σ H4 x3 x4 old v _ I4 r3 r4 q4) λnew s5 ⟨x5,H5,I5,r5,q5⟩=>?_
 exact thn (hs pins s5 σ H5 x1 x2 x5 ov iv new _ I5 r1 r2 r5 q5) λ_ s6 ⟨H6,I6,q6⟩=>⟨σ,H6,I6,q6⟩
noncomputable def ipI (f:Int->Int->Int):TIp:=λx y H Q=>∃i j,x=.int i/\y=.int j/\Q (.int (f i j)) H
theorem u5:PIp X .Add (ipI λi j=>i+j):=by
 intro pins s σ H x y v u Q I r1 r2 h;obtain ⟨i,j,e1,e2,q⟩:=h;subst e1;subst e2;obtain ⟨t,rfl⟩:=r1;obtain ⟨t',rfl⟩:=r2;exact iadd_int ⟨.int _,H,I.tok _,⟨_,rfl⟩,q⟩
theorem xW:PIp X .Sub (ipI λi j=>i-j):=by
 intro pins s σ H x y v u Q I r1 r2 h;obtain ⟨i,j,e1,e2,q⟩:=h;subst e1;subst e2;obtain ⟨t,rfl⟩:=r1;obtain ⟨t',rfl⟩:=r2;exact isub_int ⟨.int _,H,I.tok _,⟨_,rfl⟩,q⟩
end
section
variable {X:Cx} {pos:Pos}
noncomputable def xG (c:TT) (tb:TS):TS:=λD σ H=>∃W:Nat->St->Hp->Prop,(∃m,W m σ H)/\∀m σ H,W m σ H ->
 c σ H λb H1=>if b=true then ∃N:St->Hp->Prop,(∀σ' H',N σ' H'->∃m',m'<m/\W m' σ' H')/\tb { D with nx:=N,ct:=N,bk:=D.nx } σ H1 else D.nx σ H1
theorem zS {c:Expr} {body:List Stmt} {tc:TT} {tb:TS} (hp:PassesOwn (model X.prog X.w) X.A X.env X.xe) (hc:PT X c tc) (hb:PSs X body tb):PS X (.While c body [] pos) (xG tc tb):=by
 intro pins s σ H D I h;obtain ⟨W,⟨m0,w0⟩,turn⟩:=h;refine wpAny_While (codeAny_whileLoop (λn s'=>∃σ' H',Inv X pins σ' H' s'/\W n σ' H') ?_ m0 ⟨σ,H,I,w0⟩)
 rintro n s1 ⟨σ1,H1,I1,w1⟩;refine wpAny_passesOwn hp (thn (hc pins s1 σ1 H1 _ I1 (turn n σ1 H1 w1)) λb s2 ⟨H2,I2,q2⟩=>?_)
 cases b with
 |true =>
  obtain ⟨N,hN,q2⟩:=q2;rw [if_pos rfl];refine wpAny_passesOwn hp (thn (hb pins s2 σ1 H2 _ I2 q2) λf s3 q3=>?_)
  cases f with
  |next =>
   obtain ⟨σ3,H3,I3,n3⟩:=q3;obtain ⟨m',hm,w3⟩:=hN σ3 H3 n3;exact ⟨m',hm,σ3,H3,I3,w3⟩
  |cont =>
   obtain ⟨σ3,H3,I3,n3⟩:=q3;obtain ⟨m',hm,w3⟩:=hN σ3 H3 n3;exact ⟨m',hm,σ3,H3,I3,w3⟩
  |brk=>exact q3
  |ret v=>exact q3
 |false =>
  rw [if_neg Zm];exact wpAny_execs_nil ⟨σ1,H2,I2,q2⟩
end
structure It where
 go:Nat->Hp->Prop
 yld:Nat->Hp->V->Hp->Prop
 stop:Nat->Hp->Prop
noncomputable def lj (X:Cx) (pins:List (Addr×Obj)) (H:Hp) (b:Addr):Prop :=
 H b=none/\b≠X.env.locals/\b∉X.fs/\(b∈X.ex\/X.s₀.heap.objs.size<=b)/\(∀x c,X.env.cells.lookup x=some c->c≠b)/\∀p∈X.pn++pins,p.1≠b
theorem Inv.fpOk {X:Cx} {pins:List (Addr×Obj)} {σ:St} {H H':Hp} {s:Shared} {b:Addr} (I:Inv X pins σ H s) (hb:s.heap.objs.size<=b) (hn:H' b=none):lj X pins H' b:=by
 refine ⟨hn,Nat.ne_of_gt (ZI I.lt hb),I.nofs hb,.inr (ZG I.sz hb),λx c e z=>?_,λp hp z=>?_⟩
 ·obtain ⟨v,q⟩:=I.cell x c e
  exact absurd (ZI q.lt (by rw [z];exact hb)) (Nat.lt_irrefl _)
 ·exact absurd (ZI (Heap.lt_size (I.pin p hp).1) (by rw [z];exact hb)) (Nat.lt_irrefl _)
structure Turn (P:Program) (w:World) (K:PySem.W.Frag) (tg:Expr) (J:It) (fp:List Addr) (it:Addr) (tn:Nat->Heap->Prop):Prop where
 mem:it∈fp
 obj:∀i h,tn i h->∀b∈fp,∃o,h.get? b=some o/\∀v,o.data≠.cell v
 keep:∀i h h',tn i h->(∀b∈fp,∀o,h.get? b=some o->h'.get? b=some o)->tn i h'
 item:∀(X:Cx),X.prog=P->X.w=w->X.K=K->X.calm=true->∀(i:Nat) (pins:List (Addr×Obj)) (s:Shared) (σ:St) (H:Hp) (E:Value->Shared->Prop),Inv X pins σ H s->(∀b∈fp,lj X pins H b)->tn i s.heap->J.go i H ->
  wpAny (model P w) X.A (pyNext (.ref it)) (λr s1=>∃u,r=some u /\
   wpAny (model P w) X.A (letOwnedTupleGo tg (.ref it) u) (λ_ s2=>∃x H',Inv X pins σ H' s2/\RelV x u/\J.yld i H x H'/\tn (i+1) s2.heap/\∀b∈fp,H' b=none) E s1) E s
 done:∀(X:Cx),X.prog=P->X.w=w->X.K=K->X.calm=true->∀(i:Nat) (pins:List (Addr×Obj)) (s:Shared) (σ:St) (H:Hp) (E:Value->Shared->Prop),Inv X pins σ H s->(∀b∈fp,lj X pins H b)->tn i s.heap->J.stop i H ->
  wpAny (model P w) X.A (pyNext (.ref it)) (λr s1=>r=none/\Inv X pins σ H s1) E s
 self:∀(A:Around) (i:Nat) (s:Shared) (Q:Value->Shared->Prop) (E:Value->Shared->Prop),tn i s.heap->Q (.ref it) s->wpAny (model P w) A (pyIter (.ref it)) Q E s
noncomputable abbrev TI:=St->Hp->(It->Hp->Prop)->Prop
noncomputable def PIE (X:Cx) (pins:List (Addr×Obj)) (σ:St) (tg:Expr) (R:It->Hp->Prop) (itv:Value) (s2:Shared):Prop :=
 ∃(it:Addr) (fp:List Addr) (tn:Nat->Heap->Prop) (J:It) (H':Hp),itv=.ref it/\Inv X pins σ H' s2/\Turn X.prog X.w X.K tg J fp it tn/\tn 0 s2.heap/\(∀b∈fp,lj X pins H' b)/\R J H'
noncomputable def PI (X:Cx) (tg iter:Expr) (wi:TI):Prop :=
 ∀(pins:List (Addr×Obj)) (s:Shared) (σ:St) (H:Hp) (R:It->Hp->Prop),Inv X pins σ H s->wi σ H R ->
  wpAny (model X.prog X.w) X.A (eval iter X.env) (λv s1=>wpAny (model X.prog X.w) X.A (pyIter v) (PIE X pins σ tg R) X.xe s1) X.xe s
theorem vV {M:Model} {A:Around} {E:Value->Shared->Prop} {s:Shared} {tg:Expr} {it:Addr} {u:Value} {o:Obj} {n:String} {vs:Array Value} {Q:Unit->Shared->Prop} (ho:s.heap.get? it=some o) (hc:o.cls=.type n) (hd:o.data=.fields vs)
    (hn:["enumerate", "zip", "dict_itemiterator", "dict_reverseitemiterator", "odict_iterator", "itertools.zip_longest", "itertools.pairwise"].contains n=false) (hQ:Q () s):wpAny M A (letOwnedTupleGo tg (.ref it) u) Q E s:=by
  unfold letOwnedTupleGo;cases tg <;> first
    |exact wpAny_pure hQ
    | (cases u <;> first
        |exact wpAny_pure hQ
        | (refine wpAny_bind (wpAny_load ho ?_)
           rw [hc,hd];show wpAny M A (if (["enumerate", "zip", "dict_itemiterator", "dict_reverseitemiterator", "odict_iterator", "itertools.zip_longest", "itertools.pairwise"].contains n && vs[0]? == some (rawInt _))=true then _ else _) Q E s
           rw [if_neg (by intro h;rw [hn,Bool.false_and]at h;cases h)]
           exact wpAny_pure hQ))
noncomputable def Itl (K:PySem.W.Frag) (a:Addr):It :=
 ⟨λi H=>∃xs x,SqL K H a xs/\xs[i]?=some x,λi H x H'=>H'=H/\∀xs,SqL K H a xs->xs[i]?=some x,λi H=>∃xs,SqL K H a xs/\xs.length<=i⟩
noncomputable def Itt (K:PySem.W.Frag) (a:Addr):It :=
 ⟨λi H=>∃xs x,SqT K H a xs/\xs[i]?=some x,λi H x H'=>H'=H/\∀xs,SqT K H a xs->xs[i]?=some x,λi H=>∃xs,SqT K H a xs/\xs.length<=i⟩
noncomputable def Itr (lo:Int) (n:Nat):It:=⟨λi _=>i<n,λi H x H'=>H'=H/\x=.int (lo+i),λi _=>n<=i⟩
theorem wV {P:Program} {w:World} {K:PySem.W.Frag} {tg:Expr} (a it:Addr):Turn P w K tg (Itl K a) [it] it (λi h=>h.IsListIter it a i) where
 mem:=by simp
 obj:=λi h st b hb=>by
  have e:b=it:=by simpa using hb
  subst e;obtain ⟨o,e,c,d⟩:=st;exact ⟨o,e,λv z=>by rw [d]at z;cases z⟩
 keep:=λi h h' st k=>st.at λo e=>k it (by simp) o e
 item:=by
  intro X hP hw hK hc i pins s σ H E I hf st hg;subst hP hw hK;obtain ⟨xs,x,hq,hx⟩:=hg;obtain ⟨its,rv,p,hz⟩:=I.list hq;obtain ⟨u,hu,ru⟩:=rv.get hx;obtain ⟨f0,f1,f2,f3,f4,f5⟩:=hf it (by simp)
  refine wpAny_pyNext_list_item st p.isList (x:=u) (by simpa using hu) λh' st' sb=>?_
  have I1:Inv X pins σ H { s with heap:=h' }:=I.turned (t':=s.toks) (λb o hb e=>(sb.2 b hb).trans e) f0 f1 f3 f4 f5
  obtain ⟨o,e,c,d⟩:=id st';exact ⟨u,rfl,vV (s:={ s with heap:=h' }) e c d (by decide) ⟨x,H,I1,ru,⟨rfl,λys hy=>by rw [I.list_inj hy hq];exact hx⟩,st',λb hb=>(hf b hb).1⟩⟩
 done:=by
  intro X hP hw hK hc i pins s σ H E I hf st hg;subst hP hw hK;obtain ⟨xs,hq,hx⟩:=hg;obtain ⟨its,rv,p,hz⟩:=I.list hq;obtain ⟨f0,f1,f2,f3,f4,f5⟩:=hf it (by simp)
  have hl:=rv.length;exact wpAny_pyNext_list_end (I.ok.hd hc) st p.isList (by simp;lia) λh' eb=>⟨rfl,I.turned (t':=s.toks) (λb o hb e=>eb b o hb e) f0 f1 f3 f4 f5⟩
 self:=λ_ _ _ _ _ st h=>wpAny_pyIter_listiter st h
theorem uw {P:Program} {w:World} {K:PySem.W.Frag} {tg:Expr} (a it:Addr):Turn P w K tg (Itt K a) [it] it (λi h=>h.IsTupleIter it a i) where
 mem:=by simp
 obj:=λi h st b hb=>by
  have e:b=it:=by simpa using hb
  subst e;obtain ⟨o,e,c,d⟩:=st;exact ⟨o,e,λv z=>by rw [d]at z;cases z⟩
 keep:=λi h h' st k=>st.at λo e=>k it (by simp) o e
 item:=by
  intro X hP hw hK hc i pins s σ H E I hf st hg;subst hP hw hK;obtain ⟨xs,x,hq,hx⟩:=hg;obtain ⟨its,rv,p,hz⟩:=I.tuple hq;obtain ⟨u,hu,ru⟩:=rv.get hx;obtain ⟨f0,f1,f2,f3,f4,f5⟩:=hf it (by simp)
  refine wpAny_pyNext_tuple_item st (show s.heap.IsTuple a its.toArray from p) (x:=u) (by simpa using hu) λh' st' sb=>?_
  have I1:Inv X pins σ H { s with heap:=h' }:=I.turned (t':=s.toks) (λb o hb e=>(sb.2 b hb).trans e) f0 f1 f3 f4 f5
  obtain ⟨o,e,c,d⟩:=id st';exact ⟨u,rfl,vV (s:={ s with heap:=h' }) e c d (by decide) ⟨x,H,I1,ru,⟨rfl,λys hy=>by rw [I.tuple_inj hy hq];exact hx⟩,st',λb hb=>(hf b hb).1⟩⟩
 done:=by
  intro X hP hw hK hc i pins s σ H E I hf st hg;subst hP hw hK;obtain ⟨xs,hq,hx⟩:=hg;obtain ⟨its,rv,p,hz⟩:=I.tuple hq;obtain ⟨f0,f1,f2,f3,f4,f5⟩:=hf it (by simp)
  have hl:=rv.length;exact wpAny_pyNext_tuple_end (I.ok.hd hc) st (show s.heap.IsTuple a its.toArray from p) (by simp;lia) λh' eb=>⟨rfl,I.turned (t':=s.toks) (λb o hb e=>eb b o hb e) f0 f1 f3 f4 f5⟩
 self:=λ_ _ _ _ _ st h=>wpAny_pyIter_tupleiter st h
theorem uD {P:Program} {w:World} {K:PySem.W.Frag} {tg:Expr} (it:Addr) (lo:Int) (n:Nat):Turn P w K tg (Itr lo n) [it] it (λi h=>IsRangeIter h it (lo+(i:Nat) * 1) ((n:Int)-(i:Nat)) 1) where
 mem:=by simp
 obj:=λi h st b hb=>by
  have e:b=it:=by simpa using hb
  subst e;exact ⟨_,st,λv z=>by
   have z':Data.fields _=Data.cell v:=z;cases z'⟩
 keep:=λi h h' st k=>k it (by simp) _ st
 item:=by
  intro X hP hw hK hc i pins s σ H E I hf st hg;subst hP hw hK;obtain ⟨f0,f1,f2,f3,f4,f5⟩:=hf it (by simp)
  have W:=Walks.range (prog:=X.prog) (w:=X.w) (I.ok.hd hc) it lo 1 n;refine W.item i s _ _ hg st λv h' tk hv st' kk=>?_
  obtain ⟨t,rfl⟩:=hv;have I1:Inv X pins σ H { s with heap:=h',toks:=tk }:=I.turned (λb o hb e=>kk b o (by simpa using hb) e) f0 f1 f3 f4 f5
  refine ⟨_,rfl,vV (s:={ s with heap:=h',toks:=tk }) (n := "range_iterator") st' rfl rfl (by decide) ⟨.int (lo+i),H,I1,⟨t,?_⟩,⟨rfl,rfl⟩,st',λb hb=>(hf b hb).1⟩⟩
  rw [Int.mul_one]
 done:=by
  intro X hP hw hK hc i pins s σ H E I hf st hg;subst hP hw hK;obtain ⟨f0,f1,f2,f3,f4,f5⟩:=hf it (by simp)
  exact wpAny_pyNext_range_end (I.ok.hd hc) st (by have:n<=i:=hg;lia) λh' eb=>⟨rfl,I.turned (t':=s.toks) (λb o hb e=>eb b o hb e) f0 f1 f3 f4 f5⟩
 self:=λ_ _ _ _ _ st h=>wpAny_pyIter_rangeiter st h
section
variable {X:Cx} {tg:Expr}
noncomputable def Cr (K:PySem.W.Frag) (tl:TE):TI:=fun σ H R=>tl σ H λx H1=>∃a,x=.ref a/\(∃xs,SqL K H1 a xs)/\R (Itl K a) H1
noncomputable def IP (K:PySem.W.Frag) (tl:TE):TI:=fun σ H R=>tl σ H λx H1=>∃a,x=.ref a/\(∃xs,SqT K H1 a xs)/\R (Itt K a) H1
theorem Bd {l:Expr} {tl:TE} (hl:PE X l tl):PI X tg l (Cr X.K tl):=by
 intro pins s σ H R I h;refine thn (hl pins s σ H _ I h) λv s1 ⟨x,H1,I1,r1,q1⟩=>?_
 obtain ⟨a,e,⟨xs,hq⟩,q⟩:=q1;subst e;cases r1;obtain ⟨its,rv,p,hz⟩:=I1.list hq;refine wpAny_pyIter_list p.isList ?_;refine ⟨s1.heap.objs.size,[s1.heap.objs.size],_,_,H1,rfl,I1.kept (t':=s1.toks) λb o e=>Heap.get?_push_of_some _ e,wV a _,⟨_,Heap.get?_push_size _ rfl,rfl,rfl⟩,λb hb=>?_,q⟩
 have e:b=s1.heap.objs.size:=by simpa using hb
 subst e;exact I1.fpOk (Zn _) (I1.hok.fresh (Zn _))
theorem Eg {l:Expr} {tl:TE} (hl:PE X l tl):PI X tg l (IP X.K tl):=by
 intro pins s σ H R I h;refine thn (hl pins s σ H _ I h) λv s1 ⟨x,H1,I1,r1,q1⟩=>?_
 obtain ⟨a,e,⟨xs,hq⟩,q⟩:=q1;subst e;cases r1;obtain ⟨its,rv,p,hz⟩:=I1.tuple hq;refine wpAny_pyIter_tuple (show s1.heap.IsTuple a its.toArray from p) ?_
 refine ⟨s1.heap.objs.size,[s1.heap.objs.size],_,_,H1,rfl,I1.kept (t':=s1.toks) λb o e=>Heap.get?_push_of_some _ e,uw a _,⟨_,Heap.get?_push_size _ rfl,rfl,rfl⟩,λb hb=>?_,q⟩
 have e:b=s1.heap.objs.size:=by simpa using hb
 subst e;exact I1.fpOk (Zn _) (I1.hok.fresh (Zn _))
theorem t4 {pins:List (Addr×Obj)} {σ:St} {H:Hp} {s:Shared} {R:It->Hp->Prop} {E:Value->Shared->Prop} {lo hi:Int} {t u v:Tok} {tk:Nat} (I:Inv X pins σ H s) (h1:-(2 ^ 62)<=lo) (h2:lo<2 ^ 62) (h3:-(2 ^ 62)<=hi) (h4:hi<2 ^ 62)
  (q:R (Itr lo (hi-lo).toNat) H):wpAny (model X.prog X.w) X.A (pyIter (.ref s.heap.objs.size)) (PIE X pins σ tg R) E { s with heap:=s.heap.push { cls:=.type "range",data:=.fields #[.int lo t,.int hi u,.int 1 v] },toks:=tk }:=by
 refine wpAny_pyIter_range (IsRange.new ..) (small_one h1 h2 h3 h4) ?_;have I1:Inv X pins σ H { s with heap:=s.heap.push { cls:=.type "range",data:=.fields #[.int lo t,.int hi u,.int 1 v] },toks:=tk }:=I.kept λb o e=>Heap.get?_push_of_some _ e
 refine ⟨(s.heap.push { cls:=.type "range",data:=.fields #[.int lo t,.int hi u,.int 1 v] }).objs.size,[(s.heap.push { cls:=.type "range",data:=.fields #[.int lo t,.int hi u,.int 1 v] }).objs.size],_,_,H,rfl,
  I1.kept (t':=tk) λb o e=>Heap.get?_push_of_some _ e,uD _ lo (hi-lo).toNat,?_,λb hb=>?_,q⟩
 ·have e1:lo+((0:Nat):Int) * 1=lo:=by simp
  have e2:(((hi-lo).toNat:Nat):Int)-((0:Nat):Int)=Builtin.Range.rangeSize lo hi 1:=by rw [rangeSize_one];split <;> lia
  show IsRangeIter _ _ (lo+((0:Nat):Int) * 1) ((((hi-lo).toNat:Nat):Int)-((0:Nat):Int)) 1
  rw [e1,e2];exact Heap.get?_push_size _ rfl
 ·have e:b=(s.heap.push { cls:=.type "range",data:=.fields #[.int lo t,.int hi u,.int 1 v] }).objs.size:=by simpa using hb
  subst e;exact I1.fpOk (Zn _) (I1.hok.fresh (Zn _))
noncomputable def BV (ta:TA):TI:=fun σ H R=>ta σ H λvs H1=>∃j:Int,vs=[.int j]/\-(2 ^ 62)<=j/\j<2 ^ 62/\R (Itr 0 j.toNat) H1
noncomputable def Cw (ta:TA):TI:=fun σ H R=>ta σ H λvs H1=>∃i j:Int,vs=[.int i,.int j]/\(-(2 ^ 62)<=i/\i<2 ^ 62/\-(2 ^ 62)<=j/\j<2 ^ 62)/\R (Itr i (j-i).toNat) H1
theorem xh {a:Expr} {ta:TA} {p pos:Pos} (hg:Gl X "range") (hm:X.mg "range" = none) (ha:PA X [a] ta) (hs:starEach [a] X.env=[(false,eval a X.env)]:=by rfl):PI X tg (.Call (.Name "range" p) [a] [] pos) (BV ta):=by
 intro pins s σ H R I h;refine Call_ (jX I hg hm boot_range (PyProof.Rows.callWith_type1 (thn (ha pos pins s σ H _ I h) λus s1 ⟨vs,H1,I1,r1,q1⟩=>?_) hs rfl))
 obtain ⟨j,e,q1,q2,q⟩:=q1;subst e;cases r1 with
 |cons r rr =>
  cases rr;obtain ⟨t,rfl⟩:=r;exact call_range_1 (t4 I1 (by lia) (by lia) q1 q2 (by simpa using q))
theorem wU {a b:Expr} {ta:TA} {p pos:Pos} (hg:Gl X "range") (hm:X.mg "range" = none) (ha:PA X [a,b] ta) (hs:starEach [a,b] X.env=[(false,eval a X.env),(false,eval b X.env)]:=by rfl) (hs2:starEach [b] X.env=[(false,eval b X.env)]:=by rfl) :
  PI X tg (.Call (.Name "range" p) [a,b] [] pos) (Cw ta):=by
 intro pins s σ H R I h;refine Call_ (jX I hg hm boot_range (PyProof.Rows.callWith_type1 (thn (ha pos pins s σ H _ I h) λus s1 ⟨vs,H1,I1,r1,q1⟩=>?_) (by rw [hs,hs2]) (by rw [hs2];rfl)))
 obtain ⟨i,j,e,⟨q1,q2,q3,q4⟩,q⟩:=q1;subst e;cases r1 with
 |cons r rr =>
  cases rr with
  |cons r' rr =>
   cases rr;obtain ⟨t,rfl⟩:=r;obtain ⟨t',rfl⟩:=r';exact call_range_2 (t4 I1 q1 q2 q3 q4 q)
noncomputable def IW (wi:TI) (g:TG) (tb:TS):TS:=λD σ H=>wi σ H λJ H1=>∃W:Nat->Nat->St->Hp->Prop,(∃m,W 0 m σ H1)/\∀i m σ H,W i m σ H ->
 (J.stop i H/\D.nx σ H)\/(J.go i H/\∃N:St->Hp->Prop,(∀σ' H',N σ' H'->∃m',m'<m/\W (i+1) m' σ' H')/\∀x H',J.yld i H x H'->g x σ H' fun σ2 H2=>tb { D with nx:=N,ct:=N,bk:=D.nx } σ2 H2)
noncomputable def mP (fp:List Addr) (h:Heap):List (Addr×Obj):=fp.filterMap λb=>(h.get? b).map λo=>(b,o)
theorem g9 {fp:List Addr} {h:Heap} {b:Addr} {o:Obj} (hb:b∈fp) (e:h.get? b=some o):(b,o)∈mP fp h:=List.mem_filterMap.mpr ⟨b,hb,by rw [e];rfl⟩
theorem xi {fp:List Addr} {h:Heap} {p:Addr×Obj} (hp:p∈mP fp h):p.1∈fp/\h.get? p.1=some p.2:=by
 obtain ⟨b,hb,e⟩:=List.mem_filterMap.mp hp;cases q:h.get? b with
 |none=>rw [q]at e;cases e
 |some o =>
  rw [q]at e;have e':(b,o)=p:=Zz e;subst e';exact ⟨hb,q⟩
theorem Inv.pinned {pins:List (Addr×Obj)} {σ:St} {H:Hp} {s:Shared} {fp:List Addr} (I:Inv X pins σ H s) (hf:∀b∈fp,lj X pins H b) (ho:∀b∈fp,∃o,s.heap.get? b=some o/\∀v,o.data≠.cell v):Inv X (pins++mP fp s.heap) σ H s :=
 I.pins_of λp hp=>(Zs.mp hp).elim (λz=>I.pin p (Zq _ z)) λz=>by
  obtain ⟨hb,e⟩:=xi z;obtain ⟨f0,f1,f2,_⟩:=hf p.1 hb;obtain ⟨o,e',d⟩:=ho p.1 hb;rw [e]at e';cases e';exact ⟨e,f0,f1,f2,d⟩
theorem Inv.unpinned {pins pl:List (Addr×Obj)} {σ:St} {H:Hp} {s:Shared} (I:Inv X (pins++pl) σ H s):Inv X pins σ H s:=I.pins_of λp hp=>I.pin p (Zq _ (Zw _ hp))
theorem DC {iter:Expr} {body:List Stmt} {wi:TI} {g:TG} {tb:TS} {pos:Pos} (hp:PassesOwn (model X.prog X.w) X.A X.env X.xe) (hc:X.calm=true) (hi:PI X tg iter wi) (hg:PG X tg g) (hb:PSs X body tb)
  (hs:∀x,foldedSetIterable iter X.env x=pure x:=by intro _;rfl):PS X (.For tg iter body [] pos) (IW wi g tb):=by
 intro pins s σ H D I h;refine wpAny_For (thn (hi pins s σ H _ I h) λv s1 h1=>thn h1 λitv s2 h2=>?_) hs
 obtain ⟨it,fp,tn,J,H2,e,I2,T,st2,f2,W,⟨m0,w0⟩,turn⟩:=h2;subst e;have stat:∀{H':Hp},(∀b∈fp,H' b=none)->∀b∈fp,lj X pins H' b:=λhn b hb=>⟨hn b hb,(f2 b hb).2⟩
 refine codeAny_forLoop_any (λn s'=>∃i σ' H',Inv X pins σ' H' s'/\tn i s'.heap/\(∀b∈fp,H' b=none)/\W i n σ' H') ?_ m0 ⟨0,σ,H2,I2,st2,λb hb=>(f2 b hb).1,w0⟩
 rintro n s3 ⟨i,σ3,H3,I3,st3,fr3,w3⟩;rcases turn i n σ3 H3 w3 with ⟨stop,qn⟩ | ⟨go,N,hN,step⟩
 ·refine wpAny_passesOwn hp (thn (T.done X rfl rfl rfl hc i pins s3 σ3 H3 X.xe I3 (stat fr3) st3 stop) λr s4 ⟨hr,I4⟩=>?_)
  subst hr;exact wpAny_execs_nil ⟨σ3,H3,I4,qn⟩
 ·refine wpAny_passesOwn hp (thn (T.item X rfl rfl rfl hc i pins s3 σ3 H3 X.xe I3 (stat fr3) st3 go) λr s4 ⟨u,hr,h4⟩=>?_)
  subst hr;refine wpAny_passesOwn hp (thn h4 λ_ s5 ⟨x,H5,I5,r5,y5,st5,fr5⟩=>?_)
  have I5':=I5.pinned (stat fr5) (T.obj _ _ st5);refine wpAny_passesOwn hp (thn (hg _ s5 σ3 H5 x u _ I5' r5 (step x H5 y5)) λ_ s6 ⟨σ6,H6,I6,q6⟩=>?_)
  refine wpAny_passesOwn hp (thn (hb _ s6 σ6 H6 _ I6 q6) λf s7 q7=>?_)
  have again:∀{σ7:St} {H7:Hp},Inv X (pins++mP fp s5.heap) σ7 H7 s7->N σ7 H7->∃m,m<n/\∃i σ' H',Inv X pins σ' H' s7/\tn i s7.heap/\(∀b∈fp,H' b=none)/\W i m σ' H':=fun {σ7 H7} I7 n7=>by
   obtain ⟨m',hm,w7⟩:=hN σ7 H7 n7;refine ⟨m',hm,i+1,σ7,H7,I7.unpinned,T.keep _ _ _ st5 λb hb o e=>(I7.pin (b,o) (Zq _ (Zq _ (g9 hb e)))).1,λb hb=>?_,w7⟩
   obtain ⟨o,e,d⟩:=T.obj _ _ st5 b hb;exact (I7.pin (b,o) (Zq _ (Zq _ (g9 hb e)))).2.1
  cases f with
  |next=>obtain ⟨σ7,H7,I7,n7⟩:=q7;exact again I7 n7
  |cont=>obtain ⟨σ7,H7,I7,n7⟩:=q7;exact again I7 n7
  |brk=>obtain ⟨σ7,H7,I7,q7⟩:=q7;exact ⟨σ7,H7,I7.unpinned,q7⟩
  |ret v=>obtain ⟨x7,σ7,H7,I7,r7,q7⟩:=q7;exact ⟨x7,σ7,H7,I7.unpinned,r7,q7⟩
end
noncomputable abbrev R2:=V->V->Hp->VK->Prop
noncomputable def OpR (X:Cx) (f:Value->Value->Sem Value) (r:R2):Prop :=
 ∀(pins:List (Addr×Obj)) (s:Shared) (σ:St) (H:Hp) (x y:V) (v u:Value) (Q:VK),Inv X pins σ H s->RelV x v->RelV y u->r x y H Q ->
  wpAny (model X.prog X.w) X.A (f v u) (EP X pins σ Q) X.xe s
noncomputable def UnR (X:Cx) (f:Value->Sem Value) (r:V->Hp->VK->Prop):Prop :=
 ∀(pins:List (Addr×Obj)) (s:Shared) (σ:St) (H:Hp) (x:V) (v:Value) (Q:VK),Inv X pins σ H s->RelV x v->r x H Q ->
  wpAny (model X.prog X.w) X.A (f v) (EP X pins σ Q) X.xe s
noncomputable def fg (X:Cx) (f:Value) (r:List V->Hp->VK->Prop):Prop :=
 ∀(pins:List (Addr×Obj)) (s:Shared) (σ:St) (H:Hp) (xs:List V) (us:List Value) (Q:VK),Inv X pins σ H s->Vals xs us->r xs H Q ->
  wpAny (model X.prog X.w) X.A (call f us) (EP X pins σ Q) X.xe s
noncomputable def tOp (r:R2) (ta tb:TE):TE:=fun σ H Q=>ta σ H λx H1=>tb σ H1 λy H2=>r x y H2 Q
noncomputable def tUn (r:V->Hp->VK->Prop) (ta:TE):TE:=fun σ H Q=>ta σ H λx H1=>r x H1 Q
noncomputable def rI (C:Int->Int->Prop) (g:Int->Int->V):R2:=λx y H Q=>∃i j,x=.int i/\y=.int j/\C i j/\Q (g i j) H
noncomputable def rI0 (g:Int->Int->V):R2:=λx y H Q=>∃i j,x=.int i/\y=.int j/\Q (g i j) H
noncomputable def rU (g:Int->V):V->Hp->VK->Prop:=λx H Q=>∃i,x=.int i/\Q (g i) H
section
variable {X:Cx} {a b c:Expr} {ta tb tc:TE} {pos:Pos}
theorem EG (ha:PE X a ta) (hb:PE X b tb) {pins:List (Addr×Obj)} {s:Shared} {σ:St} {H:Hp} {R:V->V->Hp->Prop} (I:Inv X pins σ H s)
  (h:ta σ H λx H1=>tb σ H1 λy H2=>R x y H2) {Q:Value->Shared->Prop} {f:Value->Value->Sem Value}
  (hf:∀v u s2 x y H2,Inv X pins σ H2 s2->RelV x v->RelV y u->R x y H2->wpAny (model X.prog X.w) X.A (f v u) Q X.xe s2) :
  wpAny (model X.prog X.w) X.A (eval a X.env) (λv s₁=>wpAny (model X.prog X.w) X.A (eval b X.env) (λu s₂=>wpAny (model X.prog X.w) X.A (f v u) Q X.xe s₂) X.xe s₁) X.xe s:=by
 refine thn (ha pins s σ H _ I h) λv s1 ⟨x,H1,I1,r1,q1⟩=>?_
 refine thn (hb pins s1 σ H1 _ I1 q1) λu s2 ⟨y,H2,I2,r2,q2⟩=>?_
 exact hf v u s2 x y H2 I2 r1 r2 q2
theorem HR {op:Operator} {r:R2} (ho:OpR X (binaryOp op) r) (ha:PE X a ta) (hb:PE X b tb):PE X (.BinOp a op b pos) (tOp r ta tb):=by
 intro pins s σ H Q I h;exact wpAny_BinOp (EG ha hb I h λv u s2 x y H2 I2 rx ry q=>ho pins s2 σ H2 x y v u Q I2 rx ry q)
theorem JO {op:UnaryOp} {r:V->Hp->VK->Prop} (ho:UnR X (unaryOp op) r) (ha:PE X a ta):PE X (.UnaryOp op a pos) (tUn r ta):=by
 intro pins s σ H Q I h;exact UnaryOp_ (thn (ha pins s σ H _ I h) λv s1 ⟨x,H1,I1,r1,q1⟩=>ho pins s1 σ H1 x v Q I1 r1 q1)
theorem opI {f:Value->Value->Sem Value} {C:Int->Int->Prop} {g:Int->Int->Int}
  (rule:∀(i j:Int) (t u:Tok) (s:Shared) (Q:Value->Shared->Prop) (E:Value->Shared->Prop),C i j->Q (.int (g i j) s.toks) { s with toks:=s.toks+1 }->wpAny (model X.prog X.w) X.A (f (.int i t) (.int j u)) Q E s) :
  OpR X f (rI C λi j=>.int (g i j)):=by
 intro pins s σ H x y v u Q I rx ry h;obtain ⟨i,j,rfl,rfl,hc,q⟩:=h;obtain ⟨t,rfl⟩:=rx;obtain ⟨t',rfl⟩:=ry;exact rule i j t t' s _ _ hc ⟨.int (g i j),H,I.tok _,⟨_,rfl⟩,q⟩
theorem JE {f:Value->Value->Sem Value} {g:Int->Int->Int}
  (rule:∀(i j:Int) (t u:Tok) (s:Shared) (Q:Value->Shared->Prop) (E:Value->Shared->Prop),Q (.int (g i j) s.toks) { s with toks:=s.toks+1 }->wpAny (model X.prog X.w) X.A (f (.int i t) (.int j u)) Q E s) :
  OpR X f (rI0 λi j=>.int (g i j)):=by
 intro pins s σ H x y v u Q I rx ry h;obtain ⟨i,j,rfl,rfl,q⟩:=h;obtain ⟨t,rfl⟩:=rx;obtain ⟨t',rfl⟩:=ry;exact rule i j t t' s _ _ ⟨.int (g i j),H,I.tok _,⟨_,rfl⟩,q⟩
theorem Gq {f:Value->Value->Sem Value} {g:Int->Int->Bool}
  (rule:∀(i j:Int) (t u:Tok) (s:Shared) (Q:Value->Shared->Prop) (E:Value->Shared->Prop),Q (.bool (g i j)) s->wpAny (model X.prog X.w) X.A (f (.int i t) (.int j u)) Q E s) :
  OpR X f (rI0 λi j=>.bl (g i j)):=by
 intro pins s σ H x y v u Q I rx ry h;obtain ⟨i,j,rfl,rfl,q⟩:=h;obtain ⟨t,rfl⟩:=rx;obtain ⟨t',rfl⟩:=ry;exact rule i j t t' s _ _ ⟨.bl (g i j),H,I,rfl,q⟩
noncomputable def Ii (i j:Int):Prop:=0<j/\j<1073741824
noncomputable def Ib (i j:Int):Prop:=0<=j/\j<=1000000/\i.natAbs<2 ^ 64
noncomputable def xO (i j:Int):Prop:=(-(2 ^ 64)<i/\i<2 ^ 64)\/(-(2 ^ 64)<j/\j<2 ^ 64)
theorem xO.ok {i j:Int} (h:xO i j):IntMulOk i j:=by
 rcases h with ⟨h1,h2⟩ | ⟨h1,h2⟩
 ·exact .of_left (intBits_le_64 h1 h2)
 ·exact .of_right (intBits_le_64 h1 h2)
theorem DV:OpR X (binaryOp .Add) (rI0 λi j=>.int (i+j)):=JE λ_ _ _ _ _ _ _ q=>add_int q
theorem gZ:OpR X (binaryOp .Sub) (rI0 λi j=>.int (i-j)):=JE λ_ _ _ _ _ _ _ q=>sub_int q
theorem FF:OpR X (binaryOp .Mult) (rI xO λi j=>.int (i * j)):=opI λ_ _ _ _ _ _ _ hc q=>mul_int q hc.ok
theorem bE:OpR X (binaryOp .FloorDiv) (rI Ii λi j=>.int (i / j)):=opI λi j _ _ _ _ _ hc q=>by
 have h1:(0:Int)<j:=hc.1;have h2:j<1073741824:=hc.2;exact floordiv_int (by lia) (by rw [Int.fdiv_eq_ediv_of_nonneg i (by lia)];exact q) (.inl (PyProof.noPylong_small (by lia)))
theorem bt:OpR X (binaryOp .Mod) (rI (λ_ j=>0<j) λi j=>.int (i % j)):=opI λi j _ _ _ _ _ hc q=>by
 have h1:(0:Int)<j:=hc;exact mod_int' (by lia) (by rw [Int.fmod_eq_emod_of_nonneg i (by lia)];exact q)
theorem Es:OpR X (binaryOp .Pow) (rI Ib λi j=>.int (i ^ j.toNat)):=opI λ_ _ _ _ _ _ _ hc q=>pow_int_small hc.1 hc.2.1 hc.2.2 q
theorem unI {f:Value->Sem Value} {g:Int->Int}
  (rule:∀(i:Int) (t:Tok) (s:Shared) (Q:Value->Shared->Prop) (E:Value->Shared->Prop),Q (.int (g i) s.toks) { s with toks:=s.toks+1 }->wpAny (model X.prog X.w) X.A (f (.int i t)) Q E s) :
  UnR X f (rU λi=>.int (g i)):=by
 intro pins s σ H x v Q I rx h;obtain ⟨i,rfl,q⟩:=h;obtain ⟨t,rfl⟩:=rx;exact rule i t s _ _ ⟨.int (g i),H,I.tok _,⟨_,rfl⟩,q⟩
theorem d8:UnR X (unaryOp .USub) (rU λi=>.int (-i)):=unI λ_ _ _ _ _ q=>neg_int q
end
noncomputable def De:V->V->Bool
 |.non,.non=>true | .non,.int _=>true | .int _,.non=>true | .non,.bl _=>true | .bl _,.non=>true | .non,.str _=>true | .str _,.non=>true
 |.int _,.int _=>true | .bl _,.bl _=>true | .str _,.str _=>true | .byt _,.byt _=>true
 |.int _,.str _=>true | .str _,.int _=>true | .bl _,.str _=>true | .str _,.bl _=>true
 |_,_=>false
noncomputable def rEq:R2:=λx y H Q=>De x y=true/\Q (.bl (decide (x=y))) H
noncomputable def rNe:R2:=λx y H Q=>De x y=true/\Q (.bl (!decide (x=y))) H
theorem vB {i j:Int}:decide (V.int i=V.int j)=(i == j):=by
 rw [Bool.eq_iff_iff];simp
theorem yC {i j:Bool}:decide (V.bl i=V.bl j)=(i == j):=by
 rw [Bool.eq_iff_iff];simp
theorem vK {i j:Str}:decide (V.str i=V.str j)=(i == j):=by
 rw [Bool.eq_iff_iff];simp
theorem vz {i j:Array UInt8}:decide (V.byt i=V.byt j)=(i.toList == j.toList):=by
 rw [Bool.eq_iff_iff];cases i;cases j;simp
section
variable {X:Cx} {a b c:Expr} {ta tb tc:TE} {pos:Pos}
theorem b9 {pins:List (Addr×Obj)} {σ:St} {H:Hp} {s:Shared} {Q:VK} {k k':Bool} (I:Inv X pins σ H s) (q:Q (.bl k) H) (e:k=k'):EP X pins σ Q (.bool k') s:=by
 subst e;exact ⟨.bl k,H,I,rfl,q⟩
theorem Hb:OpR X (compareOp .Eq) rEq:=by
 intro pins s σ H x y v u Q I rx ry h;obtain ⟨hs,q⟩:=h;cases x with
 |non =>
  cases rx;cases y with
  |non=>cases ry;exact PySem.EqNone.eq_none_none (b9 I q (by simp))
  |bl j=>cases ry;exact PySem.EqNone.eq_none_bool (b9 I q (by simp))
  |int j=>obtain ⟨t',rfl⟩:=ry;exact PySem.EqNone.eq_none_int (b9 I q (by simp))
  |str j=>obtain ⟨t',rfl⟩:=ry;exact PySem.EqNone.eq_none_str (b9 I q (by simp))
  |_=>exact absurd (show false=true from hs) Zm
 |bl i =>
  cases rx;cases y with
  |non=>cases ry;exact PySem.EqNone.eq_bool_none (b9 I q (by simp))
  |bl j=>cases ry;exact eq_bool (b9 I q yC)
  |str j=>obtain ⟨t',rfl⟩:=ry;exact PySem.EqMixed.eq_bool_str (b9 I q (by simp))
  |_=>exact absurd (show false=true from hs) Zm
 |int i =>
  obtain ⟨t,rfl⟩:=rx;cases y with
  |non=>cases ry;exact PySem.EqNone.eq_int_none (b9 I q (by simp))
  |int j=>obtain ⟨t',rfl⟩:=ry;exact eq_int (b9 I q vB)
  |str j=>obtain ⟨t',rfl⟩:=ry;exact PySem.EqMixed.eq_int_str (b9 I q (by simp))
  |_=>exact absurd (show false=true from hs) Zm
 |str i =>
  obtain ⟨t,rfl⟩:=rx;cases y with
  |non=>cases ry;exact PySem.EqNone.eq_str_none (b9 I q (by simp))
  |bl j=>cases ry;exact PySem.EqMixed.eq_str_bool (b9 I q (by simp))
  |int j=>obtain ⟨t',rfl⟩:=ry;exact PySem.EqMixed.eq_str_int (b9 I q (by simp))
  |str j=>obtain ⟨t',rfl⟩:=ry;exact eq_str (b9 I q vK)
  |_=>exact absurd (show false=true from hs) Zm
 |byt i =>
  obtain ⟨t,rfl⟩:=rx;cases y with
  |byt j=>obtain ⟨t',rfl⟩:=ry;exact PySem.W.eq_bytes (b9 I q vz)
  |_=>exact absurd (show false=true from hs) Zm
 |_=>cases y <;> exact absurd (show false=true from hs) Zm
theorem Jd:OpR X (compareOp .NotEq) rNe:=by
 intro pins s σ H x y v u Q I rx ry h;obtain ⟨hs,q⟩:=h;cases x with
 |non =>
  cases rx;cases y with
  |non=>cases ry;exact PySem.EqNone.ne_none_none (b9 I q (by simp))
  |bl j=>cases ry;exact PySem.EqNone.ne_none_bool (b9 I q (by simp))
  |int j=>obtain ⟨t',rfl⟩:=ry;exact PySem.EqNone.ne_none_int (b9 I q (by simp))
  |str j=>obtain ⟨t',rfl⟩:=ry;exact PySem.EqNone.ne_none_str (b9 I q (by simp))
  |_=>exact absurd (show false=true from hs) Zm
 |bl i =>
  cases rx;cases y with
  |non=>cases ry;exact PySem.EqNone.ne_bool_none (b9 I q (by simp))
  |bl j=>cases ry;exact ne_bool (b9 I q (congrArg not yC))
  |str j=>obtain ⟨t',rfl⟩:=ry;exact PySem.EqMixed.ne_bool_str (b9 I q (by simp))
  |_=>exact absurd (show false=true from hs) Zm
 |int i =>
  obtain ⟨t,rfl⟩:=rx;cases y with
  |non=>cases ry;exact PySem.EqNone.ne_int_none (b9 I q (by simp))
  |int j=>obtain ⟨t',rfl⟩:=ry;exact ne_int (b9 I q (congrArg not vB))
  |str j=>obtain ⟨t',rfl⟩:=ry;exact PySem.EqMixed.ne_int_str (b9 I q (by simp))
  |_=>exact absurd (show false=true from hs) Zm
 |str i =>
  obtain ⟨t,rfl⟩:=rx;cases y with
  |non=>cases ry;exact PySem.EqNone.ne_str_none (b9 I q (by simp))
  |bl j=>cases ry;exact PySem.EqMixed.ne_str_bool (b9 I q (by simp))
  |int j=>obtain ⟨t',rfl⟩:=ry;exact PySem.EqMixed.ne_str_int (b9 I q (by simp))
  |str j=>obtain ⟨t',rfl⟩:=ry;exact ne_str (b9 I q (congrArg not vK))
  |_=>exact absurd (show false=true from hs) Zm
 |byt i =>
  obtain ⟨t,rfl⟩:=rx;cases y with
  |byt j=>obtain ⟨t',rfl⟩:=ry;exact PySem.W.ne_bytes (b9 I q (congrArg not vz))
  |_=>exact absurd (show false=true from hs) Zm
 |_=>cases y <;> exact absurd (show false=true from hs) Zm
theorem wq:OpR X (compareOp .Lt) (rI0 λi j=>.bl (decide (i<j))):=Gq λ_ _ _ _ _ _ _ q=>lt_int q
theorem l6:OpR X (compareOp .Gt) (rI0 λi j=>.bl (decide (j<i))):=Gq λ_ _ _ _ _ _ _ q=>gt_int q
theorem sN:OpR X (compareOp .GtE) (rI0 λi j=>.bl (decide (j<=i))):=Gq λ_ _ _ _ _ _ _ q=>ge_int q
theorem OpR.or {f:Value->Value->Sem Value} {r r':R2} (h:OpR X f r) (h':OpR X f r'):OpR X f (λx y H Q=>r x y H Q\/r' x y H Q):=by
 intro pins s σ H x y v u Q I rx ry q;rcases q with q | q
 ·exact h pins s σ H x y v u Q I rx ry q
 ·exact h' pins s σ H x y v u Q I rx ry q
theorem aS (b:Expr) {op:CmpOp} (h:op≠.In:=by decide) (h2:op≠.NotIn:=by decide):behindInMarks op b=false:=by
 have e1:(op == CmpOp.In)=false:=by cases op <;> first | rfl | exact absurd rfl h
 have e2:(op == CmpOp.NotIn)=false:=by cases op <;> first | rfl | exact absurd rfl h2
 cases b <;> simp [behindInMarks,e1,e2]
theorem An {op:CmpOp} {r:R2} (ho:OpR X (compareOp op) r) (ha:PE X a ta) (hb:PE X b tb) (hm:behindInMarks op b=false):PE X (.Compare a [op] [b] pos) (tOp r ta tb):=by
 intro pins s σ H Q I h;exact wpAny_Compare1 (EG ha hb I h λv u s2 x y H2 I2 rx ry q=>ho pins s2 σ H2 x y v u Q I2 rx ry q) hm
noncomputable def Cj (t:TE):TT:=fun σ H Q=>t σ H λx H'=>∃k,x=.bl k/\Q k H'
theorem AL {op:CmpOp} {r:R2} (ho:OpR X (compareOp op) r) (ha:PE X a ta) (hb:PE X b tb) (hm:behindInMarks op b=false):PT X (.Compare a [op] [b] pos) (Cj (tOp r ta tb)):=by
 intro pins s σ H Q I h;refine wpAny_isTrue_Compare1 (thn (ha pins s σ H _ I h) λv s1 ⟨x,H1,I1,r1,q1⟩=>thn (hb pins s1 σ H1 _ I1 q1) λu s2 ⟨y,H2,I2,r2,q2⟩ =>
  thn (ho pins s2 σ H2 x y v u _ I2 r1 r2 q2) λc s3 ⟨z,H3,I3,r3,k,e,q3⟩=>?_) hm
 subst e;cases r3;exact wpAny_truthy_bool ⟨H3,I3,q3⟩
theorem kn:(sizeLine:Nat)<2 ^ 63:=by rw [sizeLine_eq];decide
theorem uz:OpR X (binaryOp .Add) (λx y H Q=>∃i j,x=.str i/\y=.str j/\i.length+j.length<=sizeLine/\Q (.str (i++j)) H):=by
 intro pins s σ H x y v u Q I rx ry h;obtain ⟨i,j,rfl,rfl,hz,q⟩:=h;obtain ⟨t,rfl⟩:=rx;obtain ⟨t',rfl⟩:=ry;exact add_str (λt' tk=>⟨.str (i++j),H,I.tok _,⟨_,rfl⟩,q⟩) hz
theorem vals1 {x:V} {us:List Value} (r:Vals [x] us):∃u,us=[u]/\RelV x u:=by
 cases r with
 |cons r1 r2=>cases r2;exact ⟨_,rfl,r1⟩
theorem vals2 {x y:V} {us:List Value} (r:Vals [x,y] us):∃u w',us=[u,w']/\RelV x u/\RelV y w':=by
 cases r with
 |cons r1 r2 =>
  cases r2 with
  |cons r3 r4=>cases r4;exact ⟨_,_,rfl,r1,r3⟩
theorem qh (hc:X.calm=true):fg X (.builtin "max") (λxs H Q=>∃i j,xs=[.int i,.int j]/\Q (.int (if j > i then j else i)) H):=by
 intro pins s σ H xs us Q I r h;obtain ⟨i,j,rfl,q⟩:=h;obtain ⟨u,w',rfl,⟨t,rfl⟩,⟨t',rfl⟩⟩:=vals2 r;refine max_two_ints (I.ok.hd hc) λh' tk k=>⟨_,H,I.kept k,?_,q⟩
 by_cases hj:j > i
 ·rw [if_pos hj,if_pos hj];exact ⟨_,rfl⟩
 ·rw [if_neg hj,if_neg hj];exact ⟨_,rfl⟩
theorem mG (hc:X.calm=true):fg X (.builtin "min") (λxs H Q=>∃i j,xs=[.int i,.int j]/\Q (.int (if j<i then j else i)) H):=by
 intro pins s σ H xs us Q I r h;obtain ⟨i,j,rfl,q⟩:=h;obtain ⟨u,w',rfl,⟨t,rfl⟩,⟨t',rfl⟩⟩:=vals2 r;refine min_two_ints (I.ok.hd hc) λh' tk k=>⟨_,H,I.kept k,?_,q⟩
 by_cases hj:j<i
 ·rw [if_pos hj,if_pos hj];exact ⟨_,rfl⟩
 ·rw [if_neg hj,if_neg hj];exact ⟨_,rfl⟩
end
structure ObjM (h:Heap) (x dx C:Addr) (mA:Str->Option Value):Prop where
 obj:h.get? x=some (PySem.W.instObj C dx)
 ns:h.Ns1 dx mA
 ne:dx≠x
section
variable {prog:Program} {w:World} {A:Around} {E:Value->Shared->Prop} {s:Shared} {K:PySem.W.Frag} {x dx C f:Addr} {mA:Str->Option Value} {name:Str} {v:Value}
end
theorem pH.some_of {v:V} {o:Option Value} (r:pH (some v) o):∃u,o=some u/\RelV v u:=by
 cases o with
 |none=>exact (show False from r).elim
 |some u=>exact ⟨u,rfl,r⟩
section
variable {P:Program} {w:World} {H H':Hp} {h h':Heap} {a C dx:Addr} {fs fs':List (Str×V)}
end
structure Cls (K:PySem.W.Frag) (C:Addr):Prop where
 pg:PySem.W.plainGet K C Str.empty=true
 hd:PySem.W.hasDictIn K C=true
 po:PySem.W.plainOver K C=true
 sa:PySem.W.findIn K (.ref C) "__setattr__" = some (some (.builtin "object.__setattr__"))
structure Con (K:PySem.W.Frag) (C:Addr) (f:Str) (v:V) (u:Value):Prop where
 at_:PySem.W.findIn K (.ref C) f=some (some u)
 rel:RelV v u
 get:PySem.W.specialIn K u "__get__" = some none
 cp:PySem.W.copiedNames.contains f=false
structure Meth (K:PySem.W.Frag) (C:Addr) (m:Str) (f:Addr):Prop where
 at_:PySem.W.findIn K (.ref C) m=some (some (.ref f))
 fn:PySem.W.isFn K (.ref f)=true
 kp:PySem.W.keepIn K (.ref f)=true
section
variable {X:Cx} {pins:List (Addr×Obj)} {σ:St} {H:Hp} {s:Shared} {a C dx:Addr} {fs:List (Str×V)} {f:Str} {v:V} {A:Around} {E:Value->Shared->Prop}
end
section
variable {X:Cx} {o e value:Expr} {f:Str} {pos pos' tpos:Pos} {ta tv:TE}
end
section
variable {X:Cx} {pins:List (Addr×Obj)} {σ:St} {H:Hp} {s:Shared} {A:Around} {E:Value->Shared->Prop} {Q:Value->Shared->Prop} {c:Value} {b:Bool}
inductive TyOf (K:PySem.W.Frag) (H:Hp):V->Value->Prop where
 |non:TyOf K H .non (.type "NoneType")
 |bl (x:Bool):TyOf K H (.bl x) (.type "bool")
 |int (i:Int):TyOf K H (.int i) (.type "int")
 |str (x:Str):TyOf K H (.str x) (.type "str")
 |flt (x:UInt64):TyOf K H (.flt x) (.type "float")
 |lst {a:Addr} {xs:List V} (e:H a=some (.lst xs)):TyOf K H (.ref a) (.type "list")
 |frz {a:Addr} {o:Obj} {xs:List V} (e:H a=some (.frz o (.lst xs))):TyOf K H (.ref a) (.type "list")
 |tup {a:Addr} {xs:List V} (e:H a=some (.tup xs)):TyOf K H (.ref a) (.type "tuple")
 |dK {a:Addr} {kvs:List (Key×V)} (e:H a=some (.dK kvs)):TyOf K H (.ref a) (.type "dict")
 |dT {a:Addr} {kvs:List (List Key×V)} (e:H a=some (.dT kvs)):TyOf K H (.ref a) (.type "dict")
 |ins {a C dx:Addr} {fs:List (Str×V)} (e:H a=some (.ins C dx fs)) (cl:Cls K C) (ha:PySem.W.findIn K (.ref C) "__class__" = some (some (.builtin "object.__class__")))
   (hn:PySem.W.specialIn K (.builtin "object.__class__") "__get__" = some (some (.builtin "getset_descriptor.__get__"))) (htk:PySem.W.takesIn K (.builtin "object.__class__")=some true)
   (hm:PySem.W.mroIn K C (.type "object")=some true):TyOf K H (.ref a) (.ref C)
end
structure Room (k:Nat) (A:Around):Prop where
 hd:A.handled=none
 dp:A.depth+3 * k+5<recursionLimit
 un:A.units+16 * k+200<cLine
theorem Room.mono {j k:Nat} {A:Around} (r:Room k A) (h:j<=k):Room j A:=⟨r.hd,by have:=r.dp;lia,by have:=r.un;lia⟩
theorem Room.deeper {k:Nat} {A:Around} (r:Room (k+1) A) (env:Env):Room k (A.deeper env) :=
 ⟨r.hd,by have:=r.dp;show A.depth+1+3 * k+5<_;lia,by have:=r.un;show A.units+3+16 * k+200<_;lia⟩
theorem Room.depth {k:Nat} {A:Around} (r:Room k A):A.depth<recursionLimit:=by have:=r.dp;lia
theorem Room.units {k:Nat} {A:Around} (r:Room k A):A.units+64<cLine:=by have:=r.un;lia
noncomputable def vh:TA:=λ_ H Q=>Q [] H
noncomputable def mX (ta:TE) (tr:TA):TA:=fun σ H Q=>ta σ H λx H1=>tr σ H1 λxs H2=>Q (x :: xs) H2
section
variable {X:Cx} {e:Expr} {es:List Expr} {te:TE} {t:TA} {pos:Pos}
theorem rH:PA X [] vh:=λ_ _ _ _ H Q I h=>Calls.spliced_nil ⟨[],H,I,.nil,h⟩
theorem lS (ha:PE X e te) (hr:PA X es t) (hs:starEach (e :: es) X.env=(false,eval e X.env) :: starEach es X.env:=by rfl):PA X (e :: es) (mX te t):=by
 intro pos pins s σ H Q I h;rw [hs];show wpAny _ _ (spliced ((false,eval e X.env) :: backTo pos (starEach es X.env))) _ _ s
 refine Calls.spliced_cons (thn (ha pins s σ H _ I h) λu s1 ⟨x,H1,I1,r1,q1⟩=>?_)
 exact thn (hr pos pins s1 σ H1 _ I1 q1) λus s2 ⟨xs,H2,I2,r2,q2⟩=>⟨x :: xs,H2,I2,.cons r1 r2,q2⟩
noncomputable def HJ (t:TA):TE:=fun σ H Q=>t σ H λxs H1=>xs.length<=sizeLine/\∀p,H1 p=none->Q (.ref p) (upd H1 p (.tup xs))
noncomputable def Jb (t:TA):TE:=fun σ H Q=>t σ H λxs H1=>xs.length<=sizeLine/\∀p,H1 p=none->Q (.ref p) (upd H1 p (.lst xs))
theorem Ea {x1} (h:PA X es t):PE X (.Tuple es x1 pos) (HJ t):=by
 intro pins s σ H Q I hq;refine wpAny_Tuple_spliced (thn (h pos pins s σ H _ I hq) λus s1 ⟨xs,H1,I1,r,z,q⟩=>⟨by rw [<-r.length];exact z,?_⟩)
 have hf:H1 s1.heap.objs.size=none:=I1.hok.fresh (Zn _);refine ⟨.ref s1.heap.objs.size,upd H1 s1.heap.objs.size (.tup xs),I1.laid (t':=s1.toks) (λb u e=>Heap.get?_push_of_some _ e) (Zn _) ?_,rfl,q _ hf⟩
 exact ⟨z,us,r,⟨_,Heap.get?_push_size _ rfl,rfl,_,rfl⟩⟩
theorem CL (h:PA X es t):PE X (.List es pos) (Jb t):=by
 intro pins s σ H Q I hq;refine wpAny_List_spliced (thn (h pos pins s σ H _ I hq) λus s1 ⟨xs,H1,I1,r,z,q⟩=>⟨by rw [<-r.length];exact z,?_⟩)
 have hf:H1 s1.heap.objs.size=none:=I1.hok.fresh (Zn _);refine ⟨.ref s1.heap.objs.size,upd H1 s1.heap.objs.size (.lst xs),I1.laid (t':=s1.toks) (λb u e=>Heap.get?_push_of_some _ e) (Zn _) ?_,rfl,q _ hf⟩
 exact ⟨z,us,0,r,Heap.get?_push_size _ rfl⟩
end
noncomputable abbrev Sp:=List V->Hp->VK->XK->Prop
noncomputable abbrev CXT:=List Env->Hp->Shared->XK->Value->Shared->Prop
structure Env0 (P:Program) (w:World) (K:PySem.W.Frag) (mg:Str->Option Value) (base:Heap) (A:Around) (outer:List Env) (s:Shared) (H:Hp):Prop where
 frames:A.frames=some outer
 mod:Mod K mg base
 bs:∀b o,base.get? b=some o->s.heap.get? b=some o/\H b=none
 bsz:base.objs.size<=s.heap.objs.size
 funs:s.heap.FunFrames base outer
 frf:∀b∈frs outer,H b=none
 hok:HOk P w H s.heap
 bare:AllBare s.gens
noncomputable def CE (outer:List Env) (P:Program) (w:World) (H:Hp) (s:Shared) (Q:VK) (u:Value) (s':Shared):Prop :=
 ∃v H',s'.os=s.os/\AllBare s'.gens/\Un (frs outer) [] H H' s.heap s'.heap/\HOk P w H' s'.heap/\RelV v u/\Q v H'
noncomputable def CR (CX:CXT) (outer:List Env) (P:Program) (w:World) (H:Hp) (s:Shared) (Q:VK) (E:XK) (r:Result) (s':Shared):Prop :=
 match r with
 |.ok (.ret u)=>CE outer P w H s Q u s'
 |.ok _=>False
 |.error e=>CX outer H s E e s'
structure FnOk (P:Program) (w:World) (K:PySem.W.Frag) (mg:Str->Option Value) (base:Heap) (CX:CXT) (k:Nat) (f:Addr) (fd:FuncData) (ps:List Str) (sp:Sp):Prop where
 len:∀vs H Q E,sp vs H Q E->vs.length=ps.length
 run:∀(A:Around) (outer:List Env) (s:Shared) (H:Hp) (args:Args) (us:List Value) (vs:List V) (Q:VK) (E:XK),Room k A->Env0 P w K mg base A outer s H->BindsTo s fd args (ps.zip us)->Vals vs us->sp vs H Q E ->
  codeAny (model P w) A (.call (.ref f) args) (CR CX outer P w H s Q E) s
theorem FnOk.imp {P:Program} {w:World} {K:PySem.W.Frag} {mg:Str->Option Value} {base:Heap} {CX:CXT} {k:Nat} {f:Addr} {fd:FuncData} {ps:List Str} {sp sp':Sp} (F:FnOk P w K mg base CX k f fd ps sp)
  (h:∀vs H Q E,sp' vs H Q E->sp vs H Q E):FnOk P w K mg base CX k f fd ps sp' :=
 ⟨λvs H Q E q=>F.len vs H Q E (h _ _ _ _ q),λA outer s H args us vs Q E hr he hb hv hs=>F.run A outer s H args us vs Q E hr he hb hv (h _ _ _ _ hs)⟩
section
variable {X:Cx} {pins:List (Addr×Obj)} {σ:St} {H:Hp} {s s':Shared}
theorem Inv.m_ (I:Inv X pins σ H s):Env0 X.prog X.w X.K X.mg X.base X.A X.stack s H :=
 ⟨I.ok.frames,I.ok.mod,I.bs,ZG I.ok.bsz I.sz,I.stack,I.stkFree,I.hok,I.bare⟩
theorem Inv.after {Q:VK} {u:Value} (I:Inv X pins σ H s) (h:CE X.stack X.prog X.w H s Q u s'):EP X pins σ Q u s':=by
 obtain ⟨v,H',os,bare,un,hok,r,q⟩:=h;obtain ⟨hh,g,d,t,os'⟩:=s';obtain rfl:os'=s.os:=os;exact ⟨v,H',I.call (h':=hh) (g':=g) (d':=d) (t':=t) (ch:=[]) un hok bare (λb z=>absurd z (by simp)),r,q⟩
end
noncomputable def yI (sp:Sp) (dvs:List V) (E:XK) (t:TA):TE:=fun σ H Q=>t σ H λvs H1=>sp (vs++dvs) H1 Q E
noncomputable def Binds (K:PySem.W.Frag) (fd:FuncData) (ps:List Str) (ds:List Value):Prop :=
 ∀(s:Shared) (us:List Value),K.In s.heap->(us++ds).length=ps.length->BindsTo s fd ⟨us,[]⟩ (ps.zip (us++ds))
theorem Binds.all {K:PySem.W.Frag} {fd:FuncData} {ps:List Str} (h:∀us:List Value,us.length=ps.length->bindArgs fd ⟨us,[]⟩=pure (ps.zip us)):Binds K fd ps []:=λs us _ hl=>by
 rw [Zx]at hl ⊢;exact .of_eq (h us hl)
noncomputable def Passes (CX:CXT) (X:Cx) (E:XK):Prop:=∀(pins:List (Addr×Obj)) (σ:St) (H:Hp) (s:Shared) (e:Value) (s':Shared),Inv X pins σ H s->CX X.stack H s E e s'->X.xe e s'
section
variable {X:Cx} {CX:CXT} {k:Nat} {f C:Addr} {fd:FuncData} {ps:List Str} {sp:Sp} {dvs:List V} {ds:List Value} {E:XK} {x m:Str} {p pos apos:Pos} {e o:Expr} {es:List Expr} {ta:TE} {t:TA}
theorem D_ {pins:List (Addr×Obj)} {σ:St} {H:Hp} {s:Shared} {Q:VK} {us:List Value} {vs:List V} (F:FnOk X.prog X.w X.K X.mg X.base CX k f fd ps sp) (hr:Room k X.A) (hb:Binds X.K fd ps ds) (hd:Vals dvs ds) (hx:Passes CX X E)
  (I:Inv X pins σ H s) (r:Vals vs us) (h:sp (vs++dvs) H Q E):wpAny (model X.prog X.w) X.A (call (.ref f) us) (EP X pins σ Q) X.xe s:=by
 have r2:Vals (vs++dvs) (us++ds):=r.append hd;have hl:(us++ds).length=ps.length:=by rw [<-r2.length];exact F.len _ _ _ _ h
 refine wpAny_call (codeAny_mono (F.run X.A X.stack s H ⟨us,[]⟩ (us++ds) (vs++dvs) Q E hr I.m_ (hb s us I.kIn hl) r2 h) λr s' hq=>?_)
 cases r with
 |error e=>exact hx pins σ H s e s' I hq
 |ok fl =>
  cases fl with
  |ret u=>exact I.after hq
  |next=>exact False.elim hq
  |brk=>exact False.elim hq
  |cont=>exact False.elim hq
theorem vP (F:FnOk X.prog X.w X.K X.mg X.base CX k f fd ps sp) (hr:Room k X.A) (hg:Gl X x) (hm:X.mg x=some (.ref f)) (hk:PySem.W.keepIn X.K (.ref f)=true) (hb:Binds X.K fd ps ds) (hd:Vals dvs ds) (hx:Passes CX X E)
  (ha:PA X (e :: es) t) (hdb:(x == ("__debug__" : Str))=false:=by decide) (he:starEach (e :: es) X.env=(false,eval e X.env) :: starEach es X.env:=by rfl) (hpl:(backTo pos (starEach es X.env)).any (·.1)=false:=by rfl) :
  PE X (.Call (.Name x p) (e :: es) [] pos) (yI sp dvs E t):=by
 intro pins s σ H Q I h;refine wpAny_Call_Name_kw (A_ I hg hm ?_ hdb);refine PySem.W.callWith_K (h₀:=X.base) I.ok.mod.kin hk (thn (ha pos pins s σ H _ I h) λus s1 ⟨vs,H1,I1,r,q⟩=>⟨I1.kIn,?_⟩) he hpl
 exact D_ F hr hb hd hx I1 r q
structure Mk (K:PySem.W.Frag) (C f:Addr):Prop where
 makes:PySem.W.makesIn K C=true
 init:PySem.W.findIn K (.ref C) "__init__" = some (some (.ref f))
 fn:PySem.W.isFn K (.ref f)=true
 kp:PySem.W.keepIn K (.ref C)=true
end
section
variable {X:Cx} {CX:CXT} {k:Nat} {f C:Addr} {fd:FuncData} {ps ks:List Str} {sp:Sp} {E:XK} {x m:Str} {p pos apos kpos:Pos} {e o:Expr} {es:List Expr} {kws:List Keyword} {te ta:TE} {t tk:TA} {nm:Option Str}
structure KBinds (K:PySem.W.Frag) (fd:FuncData) (ps ks:List Str) (g:List Value->List Value->List Value) (gV:List V->List V->List V):Prop where
 to:∀(s:Shared) (us ws:List Value),K.In s.heap->(g us ws).length=ps.length->BindsTo s fd ⟨us,ks.zip ws⟩ (ps.zip (g us ws))
 rel:∀{vs:List V} {us:List Value} {zs:List V} {ws:List Value},Vals vs us->Vals zs ws->Vals (gV vs zs) (g us ws)
variable {g:List Value->List Value->List Value} {gV:List V->List V->List V}
end
structure FnScope (N P:List Str) (sc:Scope):Prop where
 kind:sc.kind=.function
 co:sc.isCoroutine=false
 gen:sc.isGenerator=false
 nd:N.Nodup
 pre:N.take P.length=P
 par:∀x∈P,sc.names.lookup x=some .local\/sc.names.lookup x=some .cell
 nofree:∀y∈sc.names,y.2≠.free
theorem p7 {kindOf:Str->Option NameKind} {x:Str}:∀{binds:List (Str×Value)} {m:Str->Option Value},(∀v,(x,v)∉binds)->bindL kindOf binds m x=m x
 |[],_,_=>rfl
 | (n,v) :: r,m,h=>by
  unfold bindL;rw [p7 λw hw=>h w (Ze _ hw)]
  split
  ·have:x≠n:=by rintro rfl;exact h v Zf
   simp [this]
  ·rfl
theorem qc {kindOf:Str->Option NameKind} {x:Str}:∀{binds:List (Str×Value)} {m:Str->Option Value},(∀v,(x,v)∉binds)->bindC kindOf binds m x=m x
 |[],_,_=>rfl
 | (n,v) :: r,m,h=>by
  unfold bindC;rw [qc λw hw=>h w (Ze _ hw)]
  split
  ·rfl
  ·have:x≠n:=by rintro rfl;exact h v Zf
   simp [this]
theorem qi {kindOf:Str->Option NameKind} {x:Str} {v:Value}:∀{P:List Str} {vs:List Value} {i:Nat} {m:Str->Option Value},P.Nodup->P[i]?=some x->vs[i]?=some v->kindOf x=some .local ->
  bindL kindOf (P.zip vs) m x=some v
 |[],_,_,_,_,h,_,_=>by simp at h
 |_ :: _,[],_,_,_,_,h,_=>by simp at h
 |p :: P,w :: vs,0,m,nd,h1,h2,hk=>by
  simp at h1 h2;subst h1;subst h2
  show bindL kindOf ((p,w) :: P.zip vs) m p=_
  unfold bindL;rw [p7 λv hv=>(List.nodup_cons.mp nd).1 (List.of_mem_zip hv).1,if_pos hk]
  simp
 |p :: P,w :: vs,i+1,m,nd,h1,h2,hk=>by
  show bindL kindOf ((p,w) :: P.zip vs) m x=_
  unfold bindL;exact qi (i:=i) (List.nodup_cons.mp nd).2 (by simpa using h1) (by simpa using h2) hk
theorem pV {kindOf:Str->Option NameKind} {x:Str} {v:Value}:∀{P:List Str} {vs:List Value} {i:Nat} {m:Str->Option Value},P.Nodup->P[i]?=some x->vs[i]?=some v->kindOf x≠some .local ->
  bindC kindOf (P.zip vs) m x=some v
 |[],_,_,_,_,h,_,_=>by simp at h
 |_ :: _,[],_,_,_,_,h,_=>by simp at h
 |p :: P,w :: vs,0,m,nd,h1,h2,hk=>by
  simp at h1 h2;subst h1;subst h2
  show bindC kindOf ((p,w) :: P.zip vs) m p=_
  unfold bindC;rw [qc λv hv=>(List.nodup_cons.mp nd).1 (List.of_mem_zip hv).1,if_neg hk]
  simp
 |p :: P,w :: vs,i+1,m,nd,h1,h2,hk=>by
  show bindC kindOf ((p,w) :: P.zip vs) m x=_
  unfold bindC;exact pV (i:=i) (List.nodup_cons.mp nd).2 (by simpa using h1) (by simpa using h2) hk
noncomputable def start (N:List Str) (vs:List V):St:=vs.map some++List.replicate (N.length-vs.length) none
noncomputable def pq (CX:CXT) (P:Program) (w:World) (K:PySem.W.Frag) (mg:Str->Option Value) (base:Heap) (N:List Str) (qual:Str) (scope:Scope) (f:Addr) (cd:Value) (A:Around) (outer:List Env) (s:Shared) (H:Hp) (E:XK):Cx where
 prog:=P
 w:=w
 K:=K
 mg:=mg
 base:=base
 A:=A.deeper (envOfC qual scope s.heap.objs.size f cd)
 N:=N
 s₀:=s
 H₀:=H
 env:=envOfC qual scope s.heap.objs.size f cd
 outer:=outer
 stack:=envOfC qual scope s.heap.objs.size f cd :: outer
 ex:=[]
 calm:=true
 fn:=λ_=>true
 pn:=[]
 xe:=λe s'=>wpAny (model P w) (A.deeper (envOfC qual scope s.heap.objs.size f cd)) (leaving (envOfC qual scope s.heap.objs.size f cd) e) (λ_ s''=>CX outer H s E e s'') (λe' s''=>CX outer H s E e' s'') s'
theorem sk {sc:Scope} {n:Nat} {x:Str} (h:sc.names.lookup x=some .cell):∃c,(cellsFrom n sc.names []).lookup x=some c:=by
 have q:=PySem.W.cellsFrom_some sc.names n [] (.inl h);exact Option.isSome_iff_exists.mp q
theorem wX {CX:CXT} {P:Program} {w:World} {K:PySem.W.Frag} {mg:Str->Option Value} {base:Heap} {N ps:List Str} {qual:Str} {scope:Scope} {f:Addr} {cd:Value} {A:Around} {outer:List Env} {s s1:Shared} {H:Hp} {E:XK} {us:List Value} {vs:List V}
  (S:FnScope N ps scope) (hd:A.handled=none) (e0:Env0 P w K mg base A outer s H) (hl:vs.length=ps.length) (r:Vals vs us)
  (x:InCallC s s.heap.objs.size (bindL (envOfC qual scope s.heap.objs.size f cd).kindOf (ps.zip us) λ_=>none) (cellsFrom (s.heap.objs.size+1) scope.names []) (bindC (envOfC qual scope s.heap.objs.size f cd).kindOf (ps.zip us) λ_=>none) s1) :
  Inv (pq CX P w K mg base N qual scope f cd A outer s H E) [] (start N vs) H s1:=by
 have hpl:ps.length<=N.length:=by have:=congrArg List.length S.pre;rw [ZE]at this;lia
 obtain ⟨h1,tk,rfl,hk⟩:=x.done;have noA:∀b:Addr,b∉(pq CX P w K mg base N qual scope f cd A outer s H E).ex:=λb z=>absurd (show b∈([]:List Addr) from z) (by simp)
 refine ⟨⟨e0.mod,S.kind,rfl,rfl,Zn _,λy z c h1 h2=>?_,λy hy=>?_,λy c _ h=>?_,λ_=>hd,Around.frames_deeper e0.frames,.inr ⟨rfl,rfl⟩,λb z=>absurd z (noA b),e0.bs,e0.bsz,λb _ _=>noA b,λb z=>absurd z (noA b),e0.funs,e0.frf⟩,
  rfl,e0.bare,Un.kept hk,⟨_,x.toInCall.ns,λi y v h1 h2 h3=>?_⟩,λy c h=>⟨_,x.cell y c h⟩,e0.hok.fresh (Zn _),λy c h=>?_,λp hp=>absurd (show p∈([]:List (Addr×Obj)) from hp) (by simp),e0.hok.kept hk,?_⟩
 ·exact name_of_addr x.apart (PySem.mem_of_lookup h1) (PySem.mem_of_lookup h2)
 ·have hy:scope.names.lookup y=some .cell\/scope.names.lookup y=some .free:=hy
  rcases hy with hy | hy
  ·exact sk hy
  ·exact absurd rfl (S.nofree _ (PySem.mem_of_lookup hy))
 ·exact Nat.le_of_lt (x.above y c (PySem.mem_of_lookup h))
 ·have hi:i<vs.length:=by
   unfold start at h2;by_cases hi:i<vs.length
   ·exact hi
   ·rw [List.getElem?_append_right (by simpa using hi)]at h2
    rw [List.getElem?_replicate]at h2;split at h2 <;> cases h2
  have ha:vs[i]?=some v:=by
   unfold start at h2;rw [List.getElem?_append_left (by simpa using hi),Za]at h2
   cases e:vs[i]? with
   |none=>rw [e]at h2;cases h2
   |some a=>rw [e]at h2;cases h2;rfl
  obtain ⟨u,hu,rv⟩:=r.get ha;have hp:ps[i]?=some y:=by
   rw [<-S.pre,List.getElem?_take_of_lt (by lia)];exact h1
  have ndP:ps.Nodup:=by rw [<-S.pre];exact S.nd.sublist (List.take_sublist _ _)
  refine ⟨u,rv,?_⟩;rcases S.par y (ZB hp) with k | k
  ·exact .inl ⟨k,qi ndP hp hu k⟩
  ·obtain ⟨c,e⟩:=sk (n:=s.heap.objs.size+1) k
   refine .inr ⟨.inl k,c,e,?_⟩;have q:=x.cell y c e;rw [pV ndP hp hu (by show scope.names.lookup y≠_;rw [k];decide)]at q
   exact q
 ·exact e0.hok.fresh (Nat.le_of_lt (x.above y c (PySem.mem_of_lookup h)))
 ·unfold start
  show _=N.length
  rw [Zd,Zc,List.length_replicate]
  lia
theorem BP {CX:CXT} {P:Program} {w:World} {K:PySem.W.Frag} {mg:Str->Option Value} {base:Heap} {k:Nat} {f:Addr} {name qual:Str} {params:Arguments} {body:List Stmt} {scope:Scope} {dV kV doc pm cdv ct oc:Value} {an od:Option Addr}
  {osl:Array (Option Value)} {N ps:List Str} {sp:Sp} (lk:K.lookup f=some ⟨oc,od,.func (PySem.W.fnOf name qual params body scope dV kV doc pm an cdv ct),osl⟩) (hcd:PySem.W.codeIn K cdv qual=true) (S:FnScope N ps scope)
  (len:∀vs H Q E,sp vs H Q E->vs.length=ps.length)
  (hbody:∀(A:Around) (outer:List Env) (s:Shared) (H:Hp) (vs:List V) (Q:VK) (E:XK),Room k (A.deeper (envOfC qual scope s.heap.objs.size f cdv))->sp vs H Q E ->
   ∃t,PSs (pq CX P w K mg base N qual scope f cdv A outer s H E) body t/\t { nx:=λ_ H'=>Q .non H',rt:=Q } (start N vs) H) :
  FnOk P w K mg base CX (k+1) f (PySem.W.fnOf name qual params body scope dV kV doc pm an cdv ct) ps sp:=by
 refine ⟨len,λA outer s H args us vs Q E hr e0 hb r hsp=>?_⟩
 have hl:=len _ _ _ _ hsp;have KX:K.In s.heap:=e0.mod.kin.keeps λb o e=>(e0.bs b o e).1
 have lim:s.heap.NoLimit:=e0.mod.nolimit.keeps λb o e=>(e0.bs b o e).1
 have hkind:∀y∈ps.zip us,scope.names.lookup y.1=some .local\/(scope.names.lookup y.1=some .cell/\((cellsFrom (s.heap.objs.size+1) scope.names []).lookup y.1).isSome=true):=λ⟨n,v⟩ hy=>by
  rcases S.par n (List.of_mem_zip hy).1 with q | q
  ·exact .inl q
  ·exact .inr ⟨q,PySem.W.cellsFrom_some _ _ _ (.inl q)⟩
 refine codeAny_call_function hr.depth (KX _ _ lk) rfl S.co S.gen rfl (PySem.W.codeRec_of KX hcd) (hb _ _ _ _ ?_);refine wpAny_newFunctionEnv_cells S.kind hkind λenv he s1 x=>?_
 subst he;refine ⟨lim.keeps x.toInCall.keep,codeAny_func ?_⟩;obtain ⟨t,ht,hq⟩:=hbody A outer s H vs Q E (hr.deeper _) hsp;have I:Inv (pq CX P w K mg base N qual scope f cdv A outer s H E) [] (start N vs) H s1:=wX S hr.hd e0 hl r x;refine wpAny_mono (ht [] s1 (start N vs) H _ I hq) (λfl s' hs=>?_) λe s' hs=>hs
 have fin:∀{σ':St} {H':Hp} {v:V} {u:Value},Inv (pq CX P w K mg base N qual scope f cdv A outer s H E) [] σ' H' s'->RelV v u->Q v H'->CE outer P w H s Q u s' :=
  fun {σ' H' v u} J rv q=>⟨v,H',J.os,J.bare,J.base,J.hok,rv,q⟩
 cases fl with
 |ret u =>
  obtain ⟨v,σ',H',J,rv,q⟩:=hs;exact fin J rv q
 |next =>
  obtain ⟨σ',H',J,q⟩:=hs;exact fin (v:=V.non) (u:=Value.none) J rfl q
 |brk =>
  obtain ⟨_,_,_,q⟩:=hs;exact False.elim q
 |cont =>
  obtain ⟨_,_,_,q⟩:=hs;exact False.elim q
section
variable {X:Cx} {x:Str} {p pos:Pos} {e:Expr} {es:List Expr} {t:TA} {id T:String} {r:List V->Hp->VK->Prop}
noncomputable def tCB (r:List V->Hp->VK->Prop) (t:TA):TE:=fun σ H Q=>t σ H λvs H1=>r vs H1 Q
theorem sv (hc:fg X (.builtin id) r) (hg:Gl X x) (hm:X.mg x=none) (hv:bootBuiltins x=some (.builtin id)) (ha:PA X (e :: es) t) (hn:x ≠ "__name__" := by decide) (hdb:(x == ("__debug__" : Str))=false:=by decide)
  (he:starEach (e :: es) X.env=(false,eval e X.env) :: starEach es X.env:=by rfl) (hpl:(backTo pos (starEach es X.env)).any (·.1)=false:=by rfl):PE X (.Call (.Name x p) (e :: es) [] pos) (tCB r t):=by
 intro pins s σ H Q I h;refine wpAny_Call_Name_kw (jX I hg hm hv ?_ hn hdb);exact PyProof.Rows.callWith_builtin1 (thn (ha pos pins s σ H _ I h) λus s1 ⟨vs,H1,I1,r1,q1⟩=>hc pins s1 σ H1 vs us Q I1 r1 q1) he hpl
theorem xa (hc:fg X (.type T) r) (hg:Gl X x) (hm:X.mg x=none) (hv:bootBuiltins x=some (.type T)) (ha:PA X (e :: es) t) (hn:x ≠ "__name__" := by decide) (hdb:(x == ("__debug__" : Str))=false:=by decide)
  (he:starEach (e :: es) X.env=(false,eval e X.env) :: starEach es X.env:=by rfl) (hpl:(backTo pos (starEach es X.env)).any (·.1)=false:=by rfl):PE X (.Call (.Name x p) (e :: es) [] pos) (tCB r t):=by
 intro pins s σ H Q I h;refine wpAny_Call_Name_kw (jX I hg hm hv ?_ hn hdb);exact PyProof.Rows.callWith_type1 (thn (ha pos pins s σ H _ I h) λus s1 ⟨vs,H1,I1,r1,q1⟩=>hc pins s1 σ H1 vs us Q I1 r1 q1) he hpl
end
end L2
namespace HT
open PySem PyProof.Rows
section
open PySem.SeqAt
open PySem.AutoSeq1 (wpAny_loadPart')
open PySem.MeetsSeq PySem.MeetsSeq2 PySem.MeetsSeq3
end
section
variable {prog:Program} {w:World} {A:Around} {E:Value->Shared->Prop} {s:Shared}
noncomputable def sIx (n d:Nat):Option Int->Nat
 |none=>d
 |some v=>if v<0 then (v+(n:Int)).toNat else min v.toNat n
theorem r9 (n d:Nat):sIx n d none=d:=rfl
theorem nu (n d k:Nat):sIx n d (some (k:Int))=min k n:=by
 show (if (k:Int)<0 then ((k:Int)+(n:Int)).toNat else min (k:Int).toNat n)=min k n
 rw [if_neg (by lia),Int.toNat_natCast]
end
end HT
namespace L2
open PySem PySem.Spec PyProof.Rows
noncomputable abbrev TO:=St->Hp->(Option Int->Hp->Prop)->Prop
noncomputable def PO (X:Cx) (e:Option Expr) (t:TO):Prop :=
 ∀(pins:List (Addr×Obj)) (s:Shared) (σ:St) (H:Hp) (Q:Option Int->Hp->Prop),Inv X pins σ H s->t σ H Q ->
  wpAny (model X.prog X.w) X.A (evalPart e X.env) (λu s'=>∃o H',Inv X pins σ H' s'/\IsPart u o/\Q o H') X.xe s
noncomputable def vq:TO:=λ_ H Q=>Q none H
noncomputable def Cv (t:TE):TO:=fun σ H Q=>t σ H λx H1=>∃i,x=.int i/\Q (some i) H1
theorem intsAre_of {ns:List Int}:∀{us:List Value},Vals (ns.map V.int) us->IntsAre us ns:=by
 induction ns with
 |nil=>intro us r;rw [List.map_nil]at r;cases r;exact .nil
 |cons n ns ih =>
  intro us r;rw [Zk]at r;cases r with
  |cons r1 r2 =>
   obtain ⟨t,e⟩:=r1;subst e;exact .cons n t (ih r2)
section
variable {X:Cx} {e:Expr} {te:TE} {lo hi:Option Expr} {tl th:TO} {pos p2:Pos}
theorem BB:PO X none vq:=by
 intro pins s σ H Q I h;rw [evalPart_none];exact wpAny_pure ⟨none,H,I,.none,h⟩
theorem AW (h:PE X e te):PO X (some e) (Cv te):=by
 intro pins s σ H Q I hw;rw [evalPart_some];refine thn (h pins s σ H _ I hw) λu s1 ⟨x,H1,I1,r1,q1⟩=>?_
 obtain ⟨i,rfl,q⟩:=q1;obtain ⟨t,rfl⟩:=r1;exact ⟨some i,H1,I1,.int i t,q⟩
noncomputable def SlR (X:Cx) (r:V->Option Int->Option Int->Hp->VK->Prop):Prop :=
 ∀(pins:List (Addr×Obj)) (s:Shared) (σ:St) (H:Hp) (x:V) (v vl vu:Value) (lo hi:Option Int) (sl:Addr) (Q:VK),Inv X pins σ H s->RelV x v->s.heap.IsSliceOf sl vl vu .none->IsPart vl lo->IsPart vu hi->r x lo hi H Q ->
  ∃T id,typeLookup (.type T) "__getitem__" = pure (some (.builtin id))/\s.TypeIs v T/\wpAny (model X.prog X.w) X.A (getItem v (.ref sl)) (EP X pins σ Q) X.xe s
noncomputable def tSl (r:V->Option Int->Option Int->Hp->VK->Prop) (te:TE) (tl th:TO):TE:=fun σ H Q=>te σ H λx H1=>tl σ H1 λl H2=>th σ H2 λu H3=>r x l u H3 Q
theorem zt {r:V->Option Int->Option Int->Hp->VK->Prop} (hr:SlR X r) (he:PE X e te) (hl:PO X lo tl) (hu:PO X hi th):PE X (.Subscript e (.Slice lo hi none p2) pos) (tSl r te tl th):=by
 intro pins s σ H Q I h;refine Subscript_ (thn (he pins s σ H _ I h) λv s1 ⟨x,H1,I1,r1,q1⟩=>?_)
 refine wpAny_Slice (thn (hl pins s1 σ H1 _ I1 q1) λvl s2 ⟨l,H2,I2,pl,q2⟩=>thn (hu pins s2 σ H2 _ I2 q2) λvu s3 ⟨u,H3,I3,pu,q3⟩=>?_)
 rw [evalPart_none];refine wpAny_pure ?_;have I4:Inv X pins σ H3 { s3 with heap:=s3.heap.push { cls:=.type "slice",data:=.fields #[vl,vu,.none] } }:=I3.kept (t':=s3.toks) λb ob q=>Heap.get?_push_of_some _ q
 obtain ⟨T,id,hT,ht,hg⟩:=hr pins { s3 with heap:=s3.heap.push { cls:=.type "slice",data:=.fields #[vl,vu,.none] } } σ H3 x v vl vu l u s3.heap.objs.size Q I4 r1 (Heap.IsSliceOf.new ..) pl pu q3
 show wpAny (model X.prog X.w) X.A (subscriptTail e (.Slice lo hi none p2) v (.ref s3.heap.objs.size)) (EP X pins σ Q) X.xe { s3 with heap:=s3.heap.push { cls:=.type "slice",data:=.fields #[vl,vu,.none] } }
 exact tail_any (ops:=[.ref s3.heap.objs.size,v]) ht hT hg (by with_unfolding_all rfl)
noncomputable def yT (xs:List V) (lo hi:Option Int):List V:=(xs.drop (HT.sIx xs.length 0 lo)).take (HT.sIx xs.length xs.length hi-HT.sIx xs.length 0 lo)
theorem sD (xs:List V) (lo hi:Option Int):(yT xs lo hi).length<=xs.length:=by
 unfold yT;rw [ZE,ZF]
 lia
end
noncomputable def ixN (n:Nat) (i:Int):Option Nat:=if 0<=i then (if i<n then some i.toNat else none) else if -(n:Int)<=i then some (i+n).toNat else none
noncomputable def atI {α:Type} (xs:List α) (i:Int):Option α:=(ixN xs.length i).bind λj=>xs[j]?
theorem vj {n:Nat} {i:Int} {j:Nat} (h:ixN n i=some j):seqIndex? i n=some j/\j<n/\-(n:Int)<=i/\i<n:=by
 unfold ixN at h;by_cases h0:0<=i
 ·rw [if_pos h0]at h
  by_cases h1:i<n
  ·rw [if_pos h1]at h
   have e:i.toNat=j:=Zz h;exact ⟨by rw [seqIndex_of h0 h1,e],by lia,by lia,h1⟩
  ·rw [if_neg h1]at h;cases h
 ·rw [if_neg h0]at h
  by_cases h1:-(n:Int)<=i
  ·rw [if_pos h1]at h
   have e:(i+n).toNat=j:=Zz h;exact ⟨by rw [seqIndex_neg (by lia) h1,e],by lia,h1,by lia⟩
  ·rw [if_neg h1]at h;cases h
theorem nt {α:Type} {xs:List α} {i:Int} {v:α} (h:atI xs i=some v):∃j,seqIndex? i xs.length=some j/\xs[j]?=some v/\j<xs.length/\-(xs.length:Int)<=i/\i<xs.length:=by
 unfold atI at h;cases e:ixN xs.length i with
 |none=>rw [e]at h;cases h
 |some j =>
  rw [e]at h;obtain ⟨h1,h2,h3,h4⟩:=vj e;exact ⟨j,h1,h,h2,h3,h4⟩
theorem fJ {α:Type} {xs:List α} {j:Nat} {v:α} (h:xs[j]?=some v):atI xs (j:Int)=some v:=by
 have hj:j<xs.length:=(Zb.mp h).1;have e:ixN xs.length (j:Int)=some j:=by
  unfold ixN;rw [if_pos (by lia),if_pos (by lia)];simp
 unfold atI;rw [e];exact h
theorem sf {α:Type} (xs:List α) (v:α):atI (xs++[v]) (-1)=some v:=by
 have hl:(xs++[v]).length=xs.length+1:=by simp
 have e:ixN (xs++[v]).length (-1)=some xs.length:=by
  unfold ixN;rw [hl,if_neg (by decide),if_pos (by lia)]
  congr 1
  lia
 unfold atI;rw [e];show (xs++[v])[xs.length]?=some v
 simp
noncomputable def rL (b:Expr):Prop:=∀o i,subscripted b false o i=operate [o,i] (getItem o i)
noncomputable def IxR (X:Cx) (r:R2):Prop :=
 ∀(value slice:Expr) (pins:List (Addr×Obj)) (s:Shared) (σ:St) (H:Hp) (x y:V) (v u:Value) (Q:VK),Inv X pins σ H s->RelV x v->RelV y u->r x y H Q ->
  subscripted slice false v u=operate [v,u] (getItem v u)->wpAny (model X.prog X.w) X.A (subscriptTail value slice v u) (EP X pins σ Q) X.xe s
noncomputable def MtR (X:Cx) (id:String) (r:V->List V->Hp->VK->Prop):Prop :=
 ∀(pins:List (Addr×Obj)) (s:Shared) (σ:St) (H:Hp) (x:V) (xs:List V) (v:Value) (us:List Value) (Q:VK),Inv X pins σ H s->RelV x v->Vals xs us->r x xs H Q ->
  wpAny (model X.prog X.w) X.A (call (.builtin id) (v :: us)) (EP X pins σ Q) X.xe s
section
variable {X:Cx} {a b:Expr} {ta tb:TE} {pos:Pos}
theorem IxR.or {r r':R2} (h:IxR X r) (h':IxR X r'):IxR X (λx y H Q=>r x y H Q\/r' x y H Q):=by
 intro value slice pins s σ H x y v u Q I rx ry q hs;rcases q with q | q
 ·exact h value slice pins s σ H x y v u Q I rx ry q hs
 ·exact h' value slice pins s σ H x y v u Q I rx ry q hs
theorem Cq {r:R2} (hr:IxR X r) (ha:PE X a ta) (hb:PE X b tb) (hs:rL b):PE X (.Subscript a b pos) (tOp r ta tb):=by
 intro pins s σ H Q I h;exact Subscript_ (EG ha hb I h λv u s2 x y H2 I2 rx ry q=>hr a b pins s2 σ H2 x y v u Q I2 rx ry q (hs _ _))
noncomputable def wA (K:PySem.W.Frag):R2:=λx y H Q=>∃p xs i v,x=.ref p/\y=.int i/\SqL K H p xs/\atI xs i=some v/\Q v H
noncomputable def Gy (K:PySem.W.Frag):R2:=λx y H Q=>∃p xs i v,x=.ref p/\y=.int i/\SqT K H p xs/\atI xs i=some v/\Q v H
noncomputable def Jx:R2:=λx y H Q=>∃z i c,x=.str z/\y=.int i/\z.length<=sizeLine/\atI z.cps.toList i=some c/\Q (.str ⟨#[c]⟩) H
theorem vw:IxR X (wA X.K):=by
 intro value slice pins s σ H x y v u Q I rx ry h hs;obtain ⟨p,xs,i,z,rfl,rfl,hq,he,q⟩:=h;cases rx;obtain ⟨t,rfl⟩:=ry;obtain ⟨its,r,pl,hz⟩:=I.list hq;obtain ⟨j,h1,h2,h3,h4,h5⟩:=nt he;obtain ⟨w,ew,rw'⟩:=r.get h2;have hl:=r.length;have hn:=kn;have fin:EP X pins σ Q w s:=⟨z,H,I,rw',q⟩;by_cases h0:0<=i
 ·have hj:i.toNat=j:=by
   rw [seqIndex_of h0 h5]at h1;exact Zz h1
  exact item_listR pl.isList h0 (by lia) (by rw [hj];simpa using ew) fin hs
 ·have hj:(i+(its.toArray.size:Int)).toNat=j:=by
   rw [seqIndex_neg (by lia) h4]at h1
   rw [ZA,<-hl];exact Zz h1
  exact subscriptTail_builtinR (x:=w) pl.isList.typeIs slot_list_getitem.lookup
   (wpAny_getItem_list_neg (Q:=λr s'=>r=w/\EP X pins σ Q r s') pl.isList (by lia) (by rw [ZA] <;> lia) (by lia) (by rw [hj];simpa using ew) ⟨rfl,fin⟩) hs
theorem FZ:IxR X (Gy X.K):=by
 intro value slice pins s σ H x y v u Q I rx ry h hs;obtain ⟨p,xs,i,z,rfl,rfl,hq,he,q⟩:=h;cases rx;obtain ⟨t,rfl⟩:=ry;obtain ⟨its,r,pl,hz⟩:=I.tuple hq;obtain ⟨j,h1,h2,h3,h4,h5⟩:=nt he;obtain ⟨w,ew,rw'⟩:=r.get h2;have hl:=r.length;have hn:=kn;have fin:EP X pins σ Q w s:=⟨z,H,I,rw',q⟩;exact subscriptTail_builtinR (x:=w) pl.typeIs slot_tuple_getitem.lookup
  (getItem_tuple (j:=j) (Q:=λr s'=>r=w/\EP X pins σ Q r s') pl (by lia) (by lia) (by rw [ZA,<-hl];exact h1) (by simpa using ew) ⟨rfl,fin⟩) hs
theorem Di:IxR X Jx:=by
 intro value slice pins s σ H x y v u Q I rx ry h hs;obtain ⟨z,i,c,rfl,rfl,hz,he,q⟩:=h;obtain ⟨t,rfl⟩:=rx;obtain ⟨t',rfl⟩:=ry;obtain ⟨j,h1,h2,h3,h4,h5⟩:=nt he;have hl:z.cps.toList.length=z.length:=by simp [Str.length]
 rw [hl]at h1 h4 h5;have hn:=kn;exact tail_any (typeIs_str s z t) slot_str_getitem.lookup (getItem_str (c:=c) (by
  have e1:decide (i < -(2 ^ 63:Int))=false:=decide_eq_false (by lia)
  have e2:decide (i ≥ 2 ^ 63)=false:=decide_eq_false (by lia)
  rw [e1,e2,Bool.or_false]) (by rw [h1];simpa using h2) ⟨.str ⟨#[c]⟩,H,I.tok _,⟨_,rfl⟩,q⟩) hs
noncomputable def rIx (K:PySem.W.Frag):R2:=λx y H Q=>wA K x y H Q\/Gy K x y H Q\/Jx x y H Q
theorem ax:IxR X (rIx X.K):=vw.or (FZ.or Di)
theorem u7 (its:List Value) (n j:Nat) (u:Value):Obj.mapSeq (·.setIfInBounds j u) { cls:=.type "list",data:=.seq its.toArray n }={ cls:=.type "list",data:=.seq (its.set j u).toArray n }:=by
 simp [Obj.mapSeq]
theorem Inv.lst {pins:List (Addr×Obj)} {σ:St} {H:Hp} {s:Shared} {p:Addr} {xs:List V} (I:Inv X pins σ H s) (h:H p=some (.lst xs)) :
  ∃(its:List Value) (n:Nat),Vals xs its/\s.heap.get? p=some { cls:=.type "list",data:=.seq its.toArray n }/\xs.length<=sizeLine:=by
 obtain ⟨z,its,n,r,e⟩:=I.hok p _ h;exact ⟨its,n,r,e,z⟩
theorem Inv.lstUpd {pins:List (Addr×Obj)} {σ:St} {H:Hp} {s:Shared} {p:Addr} {xs ys:List V} {its its':List Value} {n n':Nat} {f:Obj->Obj} (I:Inv X pins σ H s) (h:H p=some (.lst xs))
  (ho:s.heap.get? p=some { cls:=.type "list",data:=.seq its.toArray n }) (hf:f { cls:=.type "list",data:=.seq its.toArray n }={ cls:=.type "list",data:=.seq its'.toArray n' }) (r:Vals ys its') (hz:ys.length<=sizeLine) (t:Nat) :
  Inv X pins σ (upd H p (.lst ys)) { s with heap:=s.heap.update p f,toks:=t }:=by
 have e:(s.heap.update p f).get? p=some { cls:=.type "list",data:=.seq its'.toArray n' }:=by
  rw [Heap.get?_update_self f ho (by rw [hf] <;> rfl),hf]
 refine I.write (x:=p) (e:=p) (by rw [h];trivial) (.inl rfl) (λb u hb q=>(Heap.get?_update_other _ _ (Ne.symm hb)).trans q) ⟨_,e⟩ ?_
 exact ⟨hz,its',n',r,e⟩
noncomputable def y8:V->V->V->Hp->(Hp->Prop)->Prop:=λo i v H Q=>∃p xs k j,o=.ref p/\i=.int k/\H p=some (.lst xs)/\ixN xs.length k=some j/\Q (upd H p (.lst (xs.set j v)))
theorem set_list:Fc X y8:=by
 intro pins s σ H o i v ov iv u Q I ro ri rv h;obtain ⟨p,xs,k,j,rfl,rfl,hp,hj,q⟩:=h;cases ro;obtain ⟨t,rfl⟩:=ri;obtain ⟨its,n,r,ho,hz⟩:=I.lst hp;obtain ⟨h1,h2,h3,h4⟩:=vj hj;have hl:=r.length;have hn:=kn;have I':Inv X pins σ (upd H p (.lst (xs.set j v))) { s with heap:=s.heap.update p (Obj.mapSeq (·.setIfInBounds j u)) } :=
  I.lstUpd hp ho (u7 its n j u) (r.set rv j) (by rw [ZJ];exact hz) s.toks
 by_cases h0:0<=k
 ·have hk:k.toNat=j:=by
   rw [seqIndex_of h0 h4]at h1;exact Zz h1
  exact PySem.W.ki_setAt ho h0 (by lia) (by rw [ZA,<-hl];exact h4) (by rw [hk];exact ⟨_,I',q⟩)
 ·have hk:(k+(its.toArray.size:Int)).toNat=j:=by
   rw [seqIndex_neg (by lia) h3]at h1
   rw [ZA,<-hl];exact Zz h1
  exact PySem.W.ki_setBack ho (by lia) (by rw [ZA,<-hl];exact h3) (by lia) (by rw [hk];exact ⟨_,I',q⟩)
theorem q8 (lo hi:Option Int) (n:Nat):(sliceBounds lo hi none n).1=((HT.sIx n 0 lo:Nat):Int)/\(sliceBounds lo hi none n).2.1=((HT.sIx n n hi:Nat):Int)/\(sliceBounds lo hi none n).2.2=1:=by
 refine ⟨?_,?_,rfl⟩
 ·cases lo with
  |none=>simp [sliceBounds,HT.sIx]
  |some i =>
   simp only [sliceBounds,HT.sIx,Option.getD_none,show (1:Int) > 0 by decide,if_true]
   by_cases h:i<0
   ·simp only [h,if_true] <;> lia
   ·simp only [h,if_false] <;> lia
 ·cases hi with
  |none=>simp [sliceBounds,HT.sIx]
  |some i =>
   simp only [sliceBounds,HT.sIx,Option.getD_none,show (1:Int) > 0 by decide,if_true]
   by_cases h:i<0
   ·simp only [h,if_true] <;> lia
   ·simp only [h,if_false] <;> lia
theorem pK (its:List Value) (lo hi:Option Int):slicePick its.toArray lo hi none=((its.drop (HT.sIx its.length 0 lo)).take (HT.sIx its.length its.length hi-HT.sIx its.length 0 lo)).toArray:=by
 obtain ⟨h1,h2,h3⟩:=q8 lo hi its.toArray.size;unfold slicePick;rw [h1,h2,h3];simp only [sliceRange_one,pick_run,ZA] <;> rfl
noncomputable def Jq (K:PySem.W.Frag):V->Option Int->Option Int->Hp->VK->Prop:=λx lo hi H Q=>∃a xs,x=.ref a/\SqL K H a xs/\∀p,H p=none->Q (.ref p) (upd H p (.lst (yT xs lo hi)))
theorem gQ:SlR X (Jq X.K):=by
 intro pins s σ H x v vl vu lo hi sl Q I rx hs pl pu h;obtain ⟨a,xs,rfl,hx,q⟩:=h;cases rx;obtain ⟨its,r,ht,hz⟩:=I.list hx;have hlen:=r.length;refine ⟨"list",_,slot_list_getitem.lookup,ht.isList.typeIs,?_⟩;refine wpAny_getItem_list_slice ht.isList hs pl pu .none (by simp) ?_ (by rw [ZA] <;> lia)
 rw [pK,<-hlen];refine ⟨.ref s.heap.objs.size,_,I.laid (t':=s.toks) (o:=.lst (yT xs lo hi)) (λb ob q=>Heap.get?_push_of_some _ q) (Zn _) ?_,rfl,q _ (I.hok.fresh (Zn _))⟩
 exact ⟨ZG (sD xs lo hi) hz,_,0,(r.drop (HT.sIx xs.length 0 lo)).take (HT.sIx xs.length xs.length hi-HT.sIx xs.length 0 lo),Heap.get?_push_size _ rfl⟩
noncomputable def my:V->Bool
 |.non=>true
 |.bl _=>true
 |.int _=>true
 |.str _=>true
 |_=>false
noncomputable def eqV:V->V->Bool
 |.non,.non=>true
 |.bl a,.bl b=>a == b
 |.bl a,.int b=>(if a then 1 else 0) == b
 |.int a,.bl b=>a == (if b then 1 else 0)
 |.int a,.int b=>a == b
 |.str a,.str b=>a == b
 |_,_=>false
theorem FY {A:Around} {s:Shared} {y x:V} {u v:Value} (ry:RelV y u) (rx:RelV x v) (fy:my y=true) (fx:my x=true):SeqAt.EqAt A s u v (eqV y x):=by
 cases y with
 |non =>
  cases ry;cases x with
  |non=>cases rx;exact SeqAt.EqAt.same _
  |bl b=>cases rx;exact SeqAt.EqAt.none_bool b
  |int b=>obtain ⟨t,rfl⟩:=rx;exact SeqAt.EqAt.none_int b t
  |str b=>obtain ⟨t,rfl⟩:=rx;exact SeqAt.EqAt.none_str b t
  |_=>exact absurd (show false=true from fx) Zm
 |bl a =>
  cases ry;cases x with
  |non=>cases rx;exact SeqAt.EqAt.bool_none a
  |bl b=>cases rx;exact SeqAt.EqAt.bool_bool a b
  |int b=>obtain ⟨t,rfl⟩:=rx;exact SeqAt.EqAt.bool_int a b t
  |str b=>obtain ⟨t,rfl⟩:=rx;exact SeqAt.EqAt.bool_str a b t
  |_=>exact absurd (show false=true from fx) Zm
 |int a =>
  obtain ⟨t',rfl⟩:=ry;cases x with
  |non=>cases rx;exact SeqAt.EqAt.int_none a t'
  |bl b=>cases rx;exact SeqAt.EqAt.int_bool a t' b
  |int b=>obtain ⟨t,rfl⟩:=rx;exact SeqAt.EqAt.int_int a t' b t
  |str b=>obtain ⟨t,rfl⟩:=rx;exact SeqAt.EqAt.int_str a t' b t
  |_=>exact absurd (show false=true from fx) Zm
 |str a =>
  obtain ⟨t',rfl⟩:=ry;cases x with
  |non=>cases rx;exact SeqAt.EqAt.str_none a t'
  |bl b=>cases rx;exact SeqAt.EqAt.str_bool a t' b
  |int b=>obtain ⟨t,rfl⟩:=rx;exact SeqAt.EqAt.str_int a t' b t
  |str b=>obtain ⟨t,rfl⟩:=rx;exact SeqAt.EqAt.str_str a t' b t
  |_=>exact absurd (show false=true from fx) Zm
 |_=>exact absurd (show false=true from fy) Zm
noncomputable def eqU (x:V) (u:Value):Bool:=match u with
 |.none=>eqV .non x
 |.bool b=>eqV (.bl b) x
 |.int i _=>eqV (.int i) x
 |.str z _=>eqV (.str z) x
 |_=>false
theorem za {x y:V} {u:Value} (r:RelV y u) (f:my y=true):eqU x u=eqV y x:=by
 cases y with
 |non=>cases r;rfl
 |bl b=>cases r;rfl
 |int i=>obtain ⟨t,rfl⟩:=r;rfl
 |str z=>obtain ⟨t,rfl⟩:=r;rfl
 |_=>exact absurd (show false=true from f) Zm
theorem q_ {x:V}:∀{xs:List V} {us:List Value},Vals xs us->xs.all my=true->us.any (eqU x)=xs.any λy=>eqV y x
 |_,_,.nil,_=>rfl
 |y :: xs,u :: us,.cons r t,f=>by
  rw [List.all_cons,Zv]at f;rw [List.any_cons,List.any_cons,za r f.1,q_ t f.2]
theorem oT {A:Around} {s:Shared} {x:V} {v:Value} (rx:RelV x v) (fx:my x=true):∀{xs:List V} {us:List Value},Vals xs us->xs.all my=true->∀u∈us,SeqAt.EqAt A s u v (eqU x u)
 |_,_,.nil,_=>λu hu=>by cases hu
 |y :: xs,u :: us,.cons r t,f=>λu' hu=>by
  rw [List.all_cons,Zv]at f;rcases Zo.mp hu with rfl | hu
  ·rw [za r f.1];exact FY r rx f.1 fx
  ·exact oT rx fx t f.2 u' hu
noncomputable def inV (x:V) (xs:List V):Bool:=xs.any λy=>eqV y x
noncomputable def rIn (K:PySem.W.Frag) (neg:Bool):R2:=λx y H Q=>∃p xs,y=.ref p/\(SqL K H p xs\/SqT K H p xs)/\my x=true/\xs.all my=true/\Q (.bl (if neg then !inV x xs else inV x xs)) H
theorem qS:OpR X (compareOp .NotIn) (rIn X.K true):=by
 intro pins s σ H x y v u Q I rx ry h;obtain ⟨p,xs,rfl,hq,fx,fs,q⟩:=h;cases ry;rcases hq with hq | hq
 ·obtain ⟨its,r,pl,hz⟩:=I.list hq
  refine SeqAt.notIn_listAt (eqU x) pl.isList (λw hw=>oT rx fx r fs w (by simpa using hw)) ⟨.bl _,H,I,rfl,?_⟩
  rw [show its.toArray.any (eqU x)=its.any (eqU x) by simp,q_ r fs]
  exact q
 ·obtain ⟨its,r,pl,hz⟩:=I.tuple hq
  refine SeqAt.notIn_tupleAt (eqU x) pl (λw hw=>oT rx fx r fs w (by simpa using hw)) ⟨.bl _,H,I,rfl,?_⟩
  rw [show its.toArray.any (eqU x)=its.any (eqU x) by simp,q_ r fs]
  exact q
theorem qH:fg X (.builtin "len") (λxs H Q=>∃p ys,xs=[.ref p]/\(SqL X.K H p ys\/SqT X.K H p ys)/\Q (.int ys.length) H):=by
 intro pins s σ H xs us Q I r h;obtain ⟨p,ys,rfl,hq,q⟩:=h;obtain ⟨u,rfl,rx⟩:=vals1 r;cases rx;have hn:=kn;rcases hq with hq | hq
 ·obtain ⟨its,r',pl,hz⟩:=I.list hq
  have hlen:=r'.length;exact Calls.call_len_list pl.isList (by simp only [ZA] <;> lia) ⟨.int ys.length,H,I.tok _,⟨s.toks+1,by rw [ZA,hlen]⟩,q⟩
 ·obtain ⟨its,r',pl,hz⟩:=I.tuple hq
  have hlen:=r'.length;exact len_tuple pl (by simp only [ZA] <;> lia) ⟨.int ys.length,H,I.tok _,⟨s.toks+1,by rw [ZA,hlen]⟩,q⟩
theorem rb:fg X (.builtin "len") (λxs H Q=>∃z,xs=[.str z]/\z.length<=sizeLine/\Q (.int z.length) H):=by
 intro pins s σ H xs us Q I r h;obtain ⟨z,rfl,hz,q⟩:=h;obtain ⟨u,rfl,t,rfl⟩:=vals1 r;have hn:=kn;exact len_str (by lia) ⟨.int z.length,H,I.tok _,⟨_,rfl⟩,q⟩
theorem fg.or {f:Value} {r r':List V->Hp->VK->Prop} (h:fg X f r) (h':fg X f r'):fg X f (λxs H Q=>r xs H Q\/r' xs H Q):=by
 intro pins s σ H xs us Q I rs q;rcases q with q | q
 ·exact h pins s σ H xs us Q I rs q
 ·exact h' pins s σ H xs us Q I rs q
theorem rJ:fg X (.type "list") (λxs H Q=>∃p ys,xs=[.ref p]/\(SqL X.K H p ys\/SqT X.K H p ys)/\∀l,H l=none->Q (.ref l) (upd H l (.lst ys))):=by
 intro pins s σ H xs us Q I r h;obtain ⟨p,ys,rfl,hq,q⟩:=h;obtain ⟨u,rfl,rx⟩:=vals1 r;cases rx;have fin:∀(its:List Value),Vals ys its->ys.length<=sizeLine->∀(h':Heap) (c':Nat),(∀b o',s.heap.get? b=some o'->h'.get? b=some o') ->
   h'.get? s.heap.objs.size=some { cls:=.type "list",dict:=none,data:=.seq its.toArray c',slots:=#[] }->EP X pins σ Q (.ref s.heap.objs.size) { s with heap:=h' }:=λits r' hz h' c' kp e =>
  ⟨.ref s.heap.objs.size,_,I.laid (t':=s.toks) kp (Zn _) (show eY X.prog X.w _ h' _ (.lst ys) from ⟨hz,its,c',r',e⟩),rfl,q _ (I.hok.fresh (Zn _))⟩
 rcases hq with hq | hq
 ·obtain ⟨its,r',pl,hz⟩:=I.list hq
  have hlen:=r'.length;obtain ⟨o,ho,hc,n,hd⟩:=pl.isList;exact call_list_seq p (.inl rfl) ho hc hd (λh' c' kp e=>fin its r' hz h' c' kp e) (by simp only [ZA] <;> lia)
 ·obtain ⟨its,r',pl,hz⟩:=I.tuple hq
  have hlen:=r'.length;obtain ⟨o,ho,hc,n,hd⟩:=pl;exact call_list_seq p (.inr rfl) ho hc hd (λh' c' kp e=>fin its r' hz h' c' kp e) (by simp only [ZA] <;> lia)
noncomputable def tyV (K:PySem.W.Frag) (T:String) (x:V) (H:Hp):Prop:=match x with
 |.str _=>T = "str"
 |.int _=>T = "int"
 |.ref p=>(T = "list" /\ ∃xs,SqL K H p xs)\/(T = "tuple" /\ ∃o,K.lookup p=some o/\o.cls=.type "tuple" /\ o.dict=none) \/
   (T = "dict" /\ ((∃kvs,H p=some (.dK kvs))\/∃kvs,H p=some (.dT kvs)))\/(T = "set" /\ ∃S n,H p=some (.set S n))
 |_=>False
theorem zw {pins:List (Addr×Obj)} {σ:St} {H:Hp} {s:Shared} {T:String} {x:V} {v:Value} (I:Inv X pins σ H s) (r:RelV x v) (ty:tyV X.K T x H) :
  s.TypeIs v T/\∀a,v=.ref a->∃ob,s.heap.get? a=some ob/\ob.dict=none:=by
 cases x with
 |str z =>
  obtain ⟨t,rfl⟩:=r;cases (show T = "str" from ty)
  exact ⟨typeIs_str s z t,λ_ e=>nomatch e⟩
 |int i =>
  obtain ⟨t,rfl⟩:=r;cases (show T = "int" from ty)
  exact ⟨typeIs_int s i t,λ_ e=>nomatch e⟩
 |ref p =>
  cases r;rcases ty with ⟨rfl,xs,hq⟩ | ⟨rfl,o,hk,hc,hd⟩ | ⟨rfl,hk⟩ | ⟨rfl,S,n,hk⟩
  ·obtain ⟨its,_,pl,_⟩:=I.list hq
   refine ⟨pl.isList.typeIs,λa e=>?_⟩
   cases e;obtain ⟨o,n,e,c,hd,_⟩:=pl;exact ⟨o,e,hd⟩
  ·refine ⟨⟨o,I.kIn p o hk,hc⟩,λa e=>?_⟩
   cases e;exact ⟨o,I.kIn _ o hk,hd⟩
  ·have z:∃o,s.heap.get? p=some o/\o.ExactDict:=by
    rcases hk with ⟨kvs,hk⟩ | ⟨kvs,hk⟩
    ·obtain ⟨_,_,_,_,o,_,_,e,ex,_⟩:=I.hok p _ hk
     exact ⟨o,e,ex⟩
    ·obtain ⟨_,_,_,_,o,_,_,e,ex,_⟩:=I.hok p _ hk
     exact ⟨o,e,ex⟩
   obtain ⟨o,e,ex⟩:=z;refine ⟨⟨o,e,ex.1⟩,λa e2=>?_⟩
   cases e2;exact ⟨o,e,ex.2.1⟩
  ·obtain ⟨o,_,_,_,e,ex,_⟩:=I.hok p _ hk
   refine ⟨⟨o,e,ex.1⟩,λa e2=>?_⟩
   cases e2;exact ⟨o,e,ex.2.1⟩
 |_=>exact False.elim ty
noncomputable def AM (K:PySem.W.Frag) (T:String) (r:V->List V->Hp->VK->Prop) (to:TE):TE:=fun σ H Q=>to σ H λx H1=>tyV K T x H1/\r x [] H1 Q
noncomputable def tBM (K:PySem.W.Frag) (T:String) (r:V->List V->Hp->VK->Prop) (to:TE) (t:TA):TE:=fun σ H Q=>to σ H λx H1=>tyV K T x H1/\t σ H1 λxs H2=>r x xs H2 Q
variable {o e:Expr} {es:List Expr} {to:TE} {t:TA} {name:Str} {apos cpos:Pos} {T id:String} {r:V->List V->Hp->VK->Prop}
theorem ze (pa:PlainAttrs T) (slot:Slot T name id) (hty:typeOf (.builtin id)=pure (.type "method_descriptor")) (hm:MtR X id r) (ho:PE X o to)
  (hbase:attributeBase o name X.env (eval o X.env)=eval o X.env:=by rfl) (hline:(apos.endLine == cpos.line)=true:=by rfl):PE X (.Call (.Attribute o name apos) [] [] cpos) (AM X.K T r to):=by
 intro pins s σ H Q I h;refine wpAny_Call_method0_late hbase hline (thn (ho pins s σ H _ I h) λv s1 ⟨x,H1,I1,r1,ty,q1⟩=>?_)
 obtain ⟨h1,h2⟩:=zw I1 r1 ty;exact ⟨T,id,pa,slot,hty,h1,h2,Calls.callWith_builtin rfl (PySem.evalArgs_none (hm pins s1 σ H1 x [] v [] Q I1 r1 .nil q1))⟩
theorem Cu (pa:PlainAttrs T) (slot:Slot T name id) (hty:typeOf (.builtin id)=pure (.type "method_descriptor")) (hm:MtR X id r) (ho:PE X o to) (ha:PA X (e :: es) t)
  (hbase:attributeBase o name X.env (eval o X.env)=eval o X.env:=by rfl)
  (hfew:((backTo cpos (starEach (e :: es) X.env)).all (λx=>!x.1) && (backToKw cpos (keywordEach [] X.env)).all (λx=>x.1.isSome)
   && decide ((e :: es).length+([]:List Keyword).length+(if ([]:List Keyword).isEmpty then 0 else 1)<30))=true:=by rfl)
  (hline:(apos.endLine == cpos.line)=true:=by rfl) (hs:starEach (e :: es) X.env=(false,eval e X.env) :: starEach es X.env:=by rfl) (hplain:(backTo cpos (starEach es X.env)).any (·.1)=false:=by rfl) :
  PE X (.Call (.Attribute o name apos) (e :: es) [] cpos) (tBM X.K T r to t):=by
 intro pins s σ H Q I h;refine wpAny_Call_method_late hbase hfew hline rfl (thn (ho pins s σ H _ I h) λv s1 ⟨x,H1,I1,r1,ty,q1⟩=>?_)
 obtain ⟨h1,h2⟩:=zw I1 r1 ty;refine ⟨T,id,pa,slot,hty,h1,h2,?_⟩;have hA:=ha cpos pins s1 σ H1 _ I1 q1;rw [hs]at hA ⊢;refine Calls.callWith_builtin (by show (false || (backTo cpos (starEach es X.env)).any (·.1))=false;rw [hplain] <;> rfl) (Calls.evalArgs_plain ?_)
 exact thn hA λus s2 ⟨vs,H2,I2,r2,q2⟩=>hm pins s2 σ H2 x vs v us Q I2 r1 r2 q2
end
noncomputable def MtM (X:Cx) (id:String) (r:V->List V->Hp->VK->Prop):Prop :=
 ∀(pins:List (Addr×Obj)) (s:Shared) (σ:St) (H:Hp) (x:V) (xs:List V) (v:Value) (us:List Value) (Q:VK),Inv X pins σ H s->RelV x v->Vals xs us->r x xs H Q ->
  wpAny (model X.prog X.w) X.A (call (.builtin id) (v :: us)) (EP X pins σ Q) X.xe s
theorem Vals.one {x:V} {us:List Value} (h:Vals [x] us):∃u,us=[u]/\RelV x u:=by
 cases h with
 |cons r t=>cases t;exact ⟨_,rfl,r⟩
theorem Vals.two {x y:V} {us:List Value} (h:Vals [x,y] us):∃u v,us=[u,v]/\RelV x u/\RelV y v:=by
 cases h with
 |cons r t=>obtain ⟨v,rfl,q⟩:=Vals.one t;exact ⟨_,v,rfl,r,q⟩
theorem Vals.zero:∀{us:List Value},Vals [] us->us=[]
 |_,.nil=>rfl
theorem Vals.dropLast {xs:List V} {us:List Value} (h:Vals xs us):Vals xs.dropLast us.dropLast:=by
 induction h with
 |nil=>exact .nil
 |cons r t ih =>
  cases t with
  |nil=>exact .nil
  |cons q t'=>exact .cons r ih
theorem Vals.reverse {xs:List V} {us:List Value} (h:Vals xs us):Vals xs.reverse us.reverse:=by
 induction h with
 |nil=>exact .nil
 |cons r t ih=>rw [List.reverse_cons,List.reverse_cons];exact Vals.append ih (.cons r .nil)
theorem Vals.rep {xs:List V} {us:List Value} (h:Vals xs us):∀k:Nat,Vals (List.replicate k xs).flatten (List.replicate k us).flatten
 |0=>.nil
 |k+1=>by
  rw [List.replicate_succ,List.replicate_succ,List.flatten_cons,List.flatten_cons];exact Vals.append h (Vals.rep h k)
theorem uk {α:Type} (l:List α):l.eraseIdx (l.length-1)=l.dropLast:=by
 induction l with
 |nil=>rfl
 |cons a r ih =>
  cases r with
  |nil=>rfl
  |cons b r =>
   have e:(a :: b :: r).length-1=((b :: r).length-1)+1:=by
    have h1:(a :: b :: r).length=r.length+2:=rfl;have h2:(b :: r).length=r.length+1:=rfl
    lia
   rw [e,List.eraseIdx_cons_succ,ih]
   all_goals rfl
theorem foldl_rep (its:List Value):∀(k:Nat) (acc:List Value),
  List.foldl (λx1 x2=>x1++x2) acc.toArray (List.replicate k its.toArray)=(acc++(List.replicate k its).flatten).toArray
 |0,acc=>by simp
 |k+1,acc=>by
  have e:acc.toArray++its.toArray=(acc++its).toArray:=by simp
  have e2:(acc++its)++(List.replicate k its).flatten=acc++(List.replicate (k+1) its).flatten:=by
   rw [List.replicate_succ,List.flatten_cons,ZD]
  rw [<-e2,<-foldl_rep its k (acc++its),<-e,List.replicate_succ,List.foldl_cons]
section
variable {X:Cx} {pins:List (Addr×Obj)} {σ:St} {H:Hp} {s:Shared} {l b:Addr} {xs ys zs:List V}
theorem Inv.lset {its its':List Value} {n:Nat} {f:Array Value->Array Value} {t':Nat} (I:Inv X pins σ H s) (hH:H l=some (.lst xs))
  (e:s.heap.get? l=some { cls:=.type "list",data:=.seq its.toArray n }) (hf:f its.toArray=its'.toArray) (hv:Vals ys its') (hz:ys.length<=sizeLine) :
  Inv X pins σ (upd H l (.lst ys)) { s with heap:=s.heap.update l (Obj.mapSeq f),toks:=t' }:=by
 have q:=PySem.IsL.update e f;rw [hf]at q;refine I.write (x:=l) (e:=l) (by rw [hH];exact trivial) (.inl rfl) (λb' u hb hu=>(Heap.get?_update_other s.heap (Obj.mapSeq f) (Ne.symm hb)).trans hu) ⟨_,q⟩ ?_
 exact ⟨hz,its',_,hv,q⟩
theorem Inv.lnew {its:List Value} {t':Nat} (I:Inv X pins σ H s) (hv:Vals ys its) (hz:ys.length<=sizeLine) :
  Inv X pins σ (upd H s.heap.objs.size (.lst ys)) { s with heap:=s.heap.push { cls:=.type "list",data:=.seq its.toArray },toks:=t' } :=
 I.laid (λ_ _ q=>Heap.get?_push_of_some _ q) (Zn _) ⟨hz,its,0,hv,Heap.get?_push_size _ rfl⟩
theorem Inv.fresh (I:Inv X pins σ H s):H s.heap.objs.size=none:=I.hok.fresh (Zn _)
theorem Inv.lstM (I:Inv X pins σ H s) (hH:H l=some (.lst xs)):xs.length<=sizeLine/\∃(its:List Value) (n:Nat),Vals xs its/\xs.length=its.length/\s.heap.get? l=some { cls:=.type "list",data:=.seq its.toArray n }:=by
 obtain ⟨z,its,n,r,e⟩:=I.hok l _ hH;exact ⟨z,its,n,r,r.length,e⟩
theorem si {n:Nat} (h:n<=sizeLine):Builtin.List.listTooLong n=false:=by
 unfold Builtin.List.listTooLong;exact decide_eq_false (by lia)
end
section
variable {X:Cx}
noncomputable def qF:V->List V->Hp->VK->Prop:=λx vs H Q=>∃l xs y,x=.ref l/\vs=[y]/\H l=some (.lst xs)/\xs.length<sizeLine/\Q .non (upd H l (.lst (xs++[y])))
theorem k7:MtM X "list.append" qF:=by
 intro pins s σ H x vs v us Q I rx rv h;obtain ⟨l,xs,y,rfl,rfl,hH,hz,q⟩:=h;cases rx;obtain ⟨u,rfl,ru⟩:=rv.one;obtain ⟨z,its,n,r,hl,e⟩:=I.lstM hH;refine call_meets F.slot_list_append ⟨_,e,rfl⟩ F.entry_list_append (F.args_list_append_2 _ _) (PySem.list_append l its.toArray n u (by rw [ZA];lia)) ⟨e,?_⟩
 refine ⟨.non,_,I.lset (its':=its++[u]) hH e (by simp) (r.append (.cons ru .nil)) ?_,rfl,q⟩
 rw [Zd,List.length_singleton]
 lia
noncomputable def we:V->List V->Hp->VK->Prop:=λx vs H Q=>∃l b xs zs,x=.ref l/\vs=[.ref b]/\H l=some (.lst xs)/\H b=some (.lst zs)/\xs.length+zs.length<=sizeLine/\Q .non (upd H l (.lst (xs++zs)))
theorem xf:MtM X "list.extend" we:=by
 intro pins s σ H x vs v us Q I rx rv h;obtain ⟨l,b,xs,zs,rfl,rfl,hH,hB,hz,q⟩:=h;cases rx;obtain ⟨u,rfl,ru⟩:=rv.one;cases ru;obtain ⟨z,its,n,r,hl,e⟩:=I.lstM hH;obtain ⟨z2,its2,n2,r2,hl2,e2⟩:=I.lstM hB;have hsz:its.toArray.size+its2.toArray.size<=sizeLine:=by rw [ZA,ZA];lia
 have hlong:¬(!its.toArray.isEmpty && Builtin.List.listTooLong (its.toArray.size+its2.toArray.size))=true:=by
  rw [si hsz,Bool.and_false];exact Zm
 refine call_meets F.slot_list_extend ⟨_,e,rfl⟩ F.entry_list_extend (F.args_list_extend_2 _ _)
  (AutoSeq1.list_extend_list_list_0 l its.toArray n b its2.toArray n2 hlong (by rw [ZA];lia) (by lia)) ⟨e,e2,?_⟩
 refine ⟨.non,_,I.lset (its':=its++its2) hH e (by simp) (r.append r2) ?_,rfl,q⟩
 rw [Zd]
 lia
noncomputable def F7:V->List V->Hp->VK->Prop:=λx vs H Q=>∃l xs y,x=.ref l/\vs=[]/\H l=some (.lst xs)/\xs[xs.length-1]?=some y/\Q y (upd H l (.lst xs.dropLast))
theorem yV:MtM X "list.pop" F7:=by
 intro pins s σ H x vs v us Q I rx rv h;obtain ⟨l,xs,y,rfl,rfl,hH,hy,q⟩:=h;cases rx;have hus:=rv.zero;subst hus;obtain ⟨z,its,n,r,hl,e⟩:=I.lstM hH;obtain ⟨u,hu,ru⟩:=r.get hy;have hy':its.toArray[its.toArray.size-1]?=some u:=by
  show its.toArray[its.length-1]?=some u
  rw [<-Array.getElem?_toList,<-hl];exact hu
 refine call_meets F.slot_list_pop ⟨_,e,rfl⟩ F.entry_list_pop (F.args_list_pop_1 _) (MeetsSeq.list_pop_last l its.toArray n u hy' (by rw [ZA];lia)) ⟨e,?_⟩
 refine ⟨y,_,I.lset (its':=its.dropLast) hH e ?_ r.dropLast ?_,ru,q⟩
 ·show its.toArray.eraseIdxIfInBounds (its.toArray.size-1)=its.dropLast.toArray
  rw [ZA,List.eraseIdxIfInBounds_toArray,uk]
 ·rw [List.length_dropLast]
  lia
theorem len_rep {α:Type} (xs:List α) (k:Nat):(List.replicate k xs).flatten.length=k * xs.length:=by
 induction k with
 |zero=>simp
 |succ k ih=>rw [List.replicate_succ,List.flatten_cons,Zd,ih,Nat.succ_mul,Nat.add_comm]
end
section
variable {prog:Program} {w:World} {A:Around} {E:Value->Shared->Prop} {s:Shared}
set_option maxRecDepth 100000 in
end
section
variable {X:Cx}
end
end L2
namespace Att
open PySem PySem.W PySem.Calls PyProof.Rows
theorem nj {P:Params} {h:Heap}:∀(ns:List Int) (vs:List Value),WellAll P h vs (ns.map WData.int)->IntsAre vs ns:=by
 intro ns
 induction ns with
 |nil =>
  intro vs w;rw [List.map_nil]at w;cases w;exact .nil
 |cons n ns ih =>
  intro vs w;rw [Zk]at w;cases w with
  |cons a b =>
   cases a;exact .cons _ _ (ih _ b)
theorem xg {l:OpenLaw} {n:Nat} (hn:l.most=some n) {P:Params} {h:Heap} {args:List WData} {vals:List Value}
  (hpre:l.row.toRowW.claim.pre args=true) (hwl:WellAll P h vals args) :
  ∃a vs ns,vals=[Value.ref a]/\args=[WData.list (ns.map WData.int)]/\h.get? a=some { cls:=.type "list",data:=.seq vs.toArray }/\IntsAre vs ns/\ns.length<=n:=by
 have hsh:WShape.hasAll [] args [.list .int]=true:=(pre_splitW hpre).1;have hc:l.pre.holds [] { args:=args }=true:=(pre_splitW hpre).2;obtain ⟨d,r,rfl,h1,h2⟩:=hasAllW_cons hsh;obtain rfl:=hasAllW_nil h2;obtain ⟨xs,rfl,h3⟩:=hasW_list h1;obtain ⟨ns,rfl⟩:=items_int h3;have hlen:ns.length<=n:=by
  unfold OpenLaw.pre at hc;have h4:(WTm.not (.lt (.lit (.int (n:Int))) (.len (.arg 0)))).holds [] { args:=[.list (ns.map .int)] }=true:=by
   have h4:=(holds_andW hc).1;rw [hn]at h4;exact h4
  have h5:=condW_of h4 (w_not (w_lt w_lit (w_len_list (w_arg rfl))));rw [Zc]at h5;refine Nat.le_of_not_lt λq=>?_
  have q':(n:Int)<((ns.length:Nat):Int):=by lia
  first
   | (rw [decide_eq_true q']at h5;exact absurd h5 (by decide))
   | (simp at h5;lia)
 cases hwl with
 |cons w1 w2 =>
  cases w2;cases w1 with
  |list ho hall=>exact ⟨_,_,ns,rfl,rfl,ho,nj ns _ hall,hlen⟩
theorem xk (l:OpenLaw) (args:List WData):l.row.toRowW.claim.post args (.bool true) args=true :=
 postW_of (r:=l.row.toRowW) (X:=(true == true))
  (show WShape.has [] (.bool true) .bool=true by first | rfl | decide | simp [WShape.has,WShape.arms,WShape.armsAll])
  (show (WTm.eq .res (.lit (.bool true))).value [] { args:=args,res:=some (.bool true),after:=args }=some (.bool (true == true)) from w_eq_bool (w_res rfl) w_lit) rfl
theorem m8 {l:OpenLaw} {n:Nat} {q:Program} {loose:List Str} {XP:(Str->Option Value)->Heap->Prop} {YP:World->Heap->Prop} {d:DefRec}
  (hn:l.most=some n) (hdf:d.params.defaults=[])
  (call:∀(w:World) (s₀ s₁:Shared) (mg mb:Str->Option Value) (fa:Addr) (o:Obj) (pm cd doc:Value) (a:Addr) (vs:List Value) (ns:List Int),
   Ground q loose [] XP w s₀ mg mb s₁.heap->YP w s₁.heap ->
   s₁.heap.get? fa=some o->o.data=.func (docDef d.name d.params d.body d.scope pm cd doc)->s₁.heap.CodeRec cd d.name->mg d.name=some (.ref fa) ->
   s₁.heap.get? a=some { cls:=.type "list",data:=.seq vs.toArray }->IntsAre vs ns->ns.length<=n->s₁.gens=#[] ->
   codeAny (model l.prog w) callerA (.call (.ref fa) ⟨[.ref a],[]⟩) (λr s'=>r=.ok (.ret (.bool true))/\OldK s₁.heap s'.heap/\s'.os=s₁.os/\AllBare s'.gens) s₁) :
  WalkO q loose XP YP l.row.toRowW d [] (λf vs=>PySem.call f vs):=by
 intro w s₀ s₁ mg mb G Y fa o pm cd doc dV kV ho hd hcd hD hmg hg args vals as hpre hlay hrd hwl hlo;obtain rfl:dV=.none:=Dflts.none hD hdf;obtain rfl:kV=.none:=Dflts.noKw hD;obtain ⟨a,vs,ns,rfl,rfl,hobj,hints,hlen⟩:=xg hn hpre hwl;refine enter_call (codeAny_mono (call w s₀ s₁ mg mb fa o pm cd doc a vs ns G Y ho (fd_plain hd) hcd hmg hobj hints hlen hg) λr s' hq=>?_)
 obtain ⟨rfl,h2,h3,h4⟩:=hq;exact ⟨.inl ⟨.bool true,.bool true,[],rfl,λ_=>rfl,.bool true,xk l _,λ_=>⟨List.Pairwise.nil,λ_ hm=>(nomatch hm)⟩⟩,h2,h3,h4⟩
section
variable {prog:Program} {w:World} {A:Around} {E:Value->Shared->Prop} {s:Shared} {K:Frag}
noncomputable def ledger (h:Heap) (L d:Addr):List (Addr×Obj):=(List.range h.objs.size).filterMap λa=>if a=L\/a=d then none else (h.get? a).map λo=>(a,o)
end
end Att
namespace L2
open PySem PySem.Spec PyProof.Rows
theorem jE:∀{vs:List Value} {ns:List Int},IntsAre vs ns->Vals (ns.map V.int) vs
 |_,_,.nil=>.nil
 |_,_,.cons n t h=>.cons ⟨t,rfl⟩ (jE h)
noncomputable def w8 (H:Hp):Prop:=∀b,H b=none\/∃o xs,H b=some (.frz o (.lst xs))
theorem ya {P:Program} {w:World} {K:PySem.W.Frag} {mg mb:Str->Option Value} {CX:CXT} {k:Nat} {fa a:Addr} {fd:FuncData} {x:Str} {sp:Sp} {s₁:Shared} {vs:List Value} {ns:List Int}
  (KX:K.In s₁.heap) (hns:s₁.heap.Ns mainGlobals mg) (hb:s₁.heap.Ns builtinsNs mb) (hbb:∀x:Str,x ≠ "__name__" -> mb x=bootBuiltins x) (hlim:s₁.heap.NoLimit) (hg:s₁.gens=#[])
  (ha:s₁.heap.get? a=some { cls:=.type "list",data:=.seq vs.toArray }) (hi:IntsAre vs ns) (hl:ns.length<=sizeLine) (hr:Room k callerA)
  (F:∀base:Heap,K.In base->base.Ns mainGlobals mg->FnOk P w K mg base CX k fa fd [x] sp) (hbind:∀(s:Shared) (u:Value),BindsTo s fd ⟨[u],[]⟩ [(x,u)])
  (hsp:∀H:Hp,w8 H->SqL K H a (ns.map V.int)->sp [.ref a] H (λv _=>v=.bl true) λ_ _ _=>False)
  (hCX:∀H e s',CX [] H s₁ (λ_ _ _=>False) e s'->False) :
  codeAny (model P w) callerA (.call (.ref fa) ⟨[.ref a],[]⟩) (λr s'=>r=.ok (.ret (.bool true))/\OldK s₁.heap s'.heap/\s'.os=s₁.os/\AllBare s'.gens) s₁:=by
 have rv:=jE hi;have lenV:=hi.length;have core:∀H:Hp,w8 H->SqL K H a (ns.map V.int)->HOk P w H s₁.heap->(∀b,H b≠none->b=a)->(H a≠none->K.lookup a=none) ->
   codeAny (model P w) callerA (.call (.ref fa) ⟨[.ref a],[]⟩) (λr s'=>r=.ok (.ret (.bool true))/\OldK s₁.heap s'.heap/\s'.os=s₁.os/\AllBare s'.gens) s₁:=by
  intro H hO hS hok hA hK;have base_of:∀{b:Addr} {o:Obj},s₁.heap.get? b=some o->H b=none->(me s₁.heap H).get? b=some o:=λe n=>rX e n
  have noA:∀{b:Addr} {o:Obj} {es:Array DictEntry} {ep:Nat},s₁.heap.get? b=some o->o.data=.dict es ep->H b=none:=fun {b o es ep} e d=>by
   cases q:H b with
   |none=>rfl
   |some u =>
    have e':b=a:=hA b (by rw [q];simp)
    subst e';rw [ha]at e;cases e;have d':Data.seq vs.toArray _=Data.dict es ep:=d;cases d'
  have nsK:∀{b:Addr} {m:Str->Option Value},s₁.heap.Ns b m->(me s₁.heap H).Ns b m:=fun {b m} ⟨o,es,ep,e,d,r⟩=>⟨o,es,ep,base_of e (noA e d),d,r⟩
  have hKb:K.In (me s₁.heap H):=λb o e=>base_of (KX b o e) (by
   cases q:H b with
   |none=>rfl
   |some u =>
    have e':b=a:=hA b (by rw [q];simp)
    subst e';rw [hK (by rw [q];simp)]at e;cases e)
  have hM:Mod K mg (me s₁.heap H):=⟨hKb,nsK hns,⟨mb,nsK hb,hbb⟩,let ⟨mc,h1,h2⟩:=hlim;⟨mc,nsK h1,h2⟩⟩;have e0:Env0 P w K mg (me s₁.heap H) callerA [] s₁ H:=⟨rfl,hM,λb o e=>vD e,Nat.le_of_eq (qa _ _),trivial,λb hb=>absurd (show b∈([]:List Addr) from hb) (by simp),hok,.of_eq hg⟩
  refine codeAny_mono ((F _ hKb (nsK hns)).run callerA [] s₁ H ⟨[.ref a],[]⟩ [.ref a] [.ref a] _ _ hr e0 (hbind s₁ (.ref a)) (.cons rfl .nil) (hsp H hO hS)) λr s' h=>?_
  cases r with
  |error e=>exact (hCX H e s' h).elim
  |ok fl =>
   cases fl with
   |next=>exact False.elim h
   |brk=>exact False.elim h
   |cont=>exact False.elim h
   |ret u =>
    obtain ⟨v,H',os,bare,un,hok',r',q⟩:=h;have q':v=.bl true:=q;subst q';obtain rfl:u=Value.bool true:=r';refine ⟨rfl,OldK.of_keep λb o e=>?_,os,bare⟩
    cases q:H b with
    |none=>exact un.keep b o e q (by intro z;exact absurd (show b∈([]:List Addr) from z) (by simp)) (by simp)
    |some u =>
     rcases hO b with z | ⟨ob,xs,z⟩
     ·rw [q]at z;cases z
     ·have z2:=un.frzs b ob _ z
      obtain ⟨e1,_⟩:=hok b _ z;obtain ⟨e2,_⟩:=hok' b _ z2;rw [e]at e1;cases e1;exact e2
 cases hk:K.lookup a with
 |some o =>
  have e:=KX a o hk;rw [ha]at e;cases e;refine core (λ_=>none) (λ_=>.inl rfl) (.inr ⟨_,vs.toArray,_,hk,rfl,rfl,rfl,by rw [ZA,lenV];exact hl,by simpa using rv⟩) (λb u z=>by have z':(none:Option HO)=some u:=z;cases z') (λb z=>absurd rfl z) λz=>absurd rfl z
 |none =>
  refine core (λb=>if b=a then some (.frz { cls:=.type "list",data:=.seq vs.toArray } (.lst (ns.map V.int))) else none) (λb=>?_) (.inl (.inr ⟨{ cls:=.type "list",data:=.seq vs.toArray },if_pos rfl⟩)) (λb u z=>?_) (λb z=>?_) λ_=>hk
  ·by_cases hb:b=a
   ·exact .inr ⟨_,_,if_pos hb⟩
   ·exact .inl (if_neg hb)
  ·by_cases hb:b=a
   ·have z':=(if_pos hb).symm.trans z
    cases z';subst hb;exact ⟨ha,by rw [Zc];exact hl,vs,_,rv,ha⟩
   ·have z':=(if_neg hb).symm.trans z
    cases z'
  ·by_cases hb:b=a
   ·exact hb
   ·exact absurd (if_neg hb) z
noncomputable abbrev KOf {K:PySem.W.Frag} {h:Heap} (_:K.In h):PySem.W.Frag:=K
theorem JR {l:PySem.W.OpenLaw} {n k:Nat} {q:Program} {loose:List Str} {XP:(Str->Option Value)->Heap->Prop} {YP:World->Heap->Prop} {d:DefRec} {K:Params->PySem.W.Frag} {CX:World->CXT} {sp:World->Sp} {x:Str}
  (hn:l.most=some n) (hn2:n<=sizeLine) (hdf:d.params.defaults=[]) (hr:Room k callerA)
  (hY:∀(w:World) (h:Heap),YP w h->(K w.params).In h)
  (F:∀(w:World) (mg:Str->Option Value) (fa:Addr) (h:Heap),(K w.params).In h->h.Ns mainGlobals mg->mg d.name=some (.ref fa) ->
   ∃fd:FuncData,(∀(s:Shared) (u:Value),BindsTo s fd ⟨[u],[]⟩ [(x,u)]) /\
    ∀base:Heap,(K w.params).In base->base.Ns mainGlobals mg->FnOk l.prog w (K w.params) mg base (CX w) k fa fd [x] (sp w))
  (hsp:∀(w:World) (H:Hp) (a:Addr) (ns:List Int),ns.length<=n->w8 H->SqL (K w.params) H a (ns.map V.int)->sp w [.ref a] H (λv _=>v=.bl true) λ_ _ _=>False)
  (hCX:∀(w:World) (H:Hp) (s:Shared) (e:Value) (s':Shared),CX w [] H s (λ_ _ _=>False) e s'->False) :
  PySem.W.WalkO q loose XP YP l.row.toRowW d [] (λf vs=>PySem.call f vs):=by
 refine Att.m8 hn hdf λw s₀ s₁ mg mb fa o pm cd doc a vs ns G Y ho hd hcd hmg hobj hints hlen hg=>?_
 have KX:=hY w _ Y;obtain ⟨fd,hb,hF⟩:=F w mg fa _ KX G.T.g hmg;exact ya KX G.T.g G.T.b G.T.builtins G.T.nolimit hg hobj hints (ZG hlen hn2) hr hF hb (λH hO hS=>hsp w H a ns hlen hO hS) λH e s'=>hCX w H s₁ e s'
noncomputable def aJ (s:Stmt):Arguments:=match s with
 |.FunctionDef _ a _ _ _ _ _ _ _ _=>a
 |_=>{ posonlyargs:=[],args:=[],vararg:=none,kwonlyargs:=[],kw_defaults:=[],kwarg:=none,defaults:=[] }
noncomputable def aI (s:Stmt):List Stmt:=match s with
 |.FunctionDef _ _ b _ _ _ _ _ _ _=>b
 |_=>[]
noncomputable def aj (s:Stmt):Scope:=match s with
 |.FunctionDef _ _ _ _ _ _ sc _ _ _=>sc
 |_=>{ kind:=.function,names:=[],isGenerator:=false,isCoroutine:=false }
noncomputable abbrev CX0:CXT:=λ_ _ _ _ _ _=>False
structure Fun (K:PySem.W.Frag) (x qual:Str) (st:Stmt) (f:Addr) (fd:FuncData):Prop where
 ex:∃(oc:Value) (od:Option Addr) (kV doc pm:Value) (an:Option Addr) (cdv ct:Value) (osl:Array (Option Value)),
  fd=PySem.W.fnOf x qual (aJ st) (aI st) (aj st) .none kV doc pm an cdv ct/\K.lookup f=some ⟨oc,od,.func fd,osl⟩/\PySem.W.codeIn K cdv qual=true
 kp:PySem.W.keepIn K (.ref f)=true
section
variable {P:Program} {w:World} {K:PySem.W.Frag} {mg:Str->Option Value} {base:Heap}
theorem Fun.ok {x qual:Str} {st:Stmt} {f:Addr} {fd:FuncData} {N ps:List Str} {k:Nat} {sp:Sp} (F:Fun K x qual st f fd) (S:FnScope N ps (aj st)) (len:∀vs H Q E,sp vs H Q E->vs.length=ps.length)
  (hbody:∀(cdv:Value) (A:Around) (outer:List Env) (s:Shared) (H:Hp) (vs:List V) (Q:VK) (E:XK),Room k (A.deeper (envOfC qual (aj st) s.heap.objs.size f cdv))->sp vs H Q E ->
   ∃t,PSs (pq CX0 P w K mg base N qual (aj st) f cdv A outer s H E).nox (aI st) t/\t { nx:=λ_ H'=>Q .non H',rt:=Q } (start N vs) H):FnOk P w K mg base CX0 (k+1) f fd ps sp:=by
 obtain ⟨oc,od,kV,doc,pm,an,cdv,ct,osl,rfl,lk,hcd⟩:=F.ex;refine BP lk hcd S len λA outer s H vs Q E hr hsp=>?_
 obtain ⟨t,h,q⟩:=hbody cdv A outer s H vs Q E hr hsp;exact ⟨t,h.nox,q⟩
theorem Fun.binds {x qual:Str} {st:Stmt} {f:Addr} {fd:FuncData} {ps:List Str} (F:Fun K x qual st f fd)
  (h:∀(kV doc pm:Value) (an:Option Addr) (cdv ct:Value) (us:List Value),us.length=ps.length->bindArgs (PySem.W.fnOf x qual (aJ st) (aI st) (aj st) .none kV doc pm an cdv ct) ⟨us,[]⟩=pure (ps.zip us)):Binds K fd ps []:=by
 obtain ⟨oc,od,kV,doc,pm,an,cdv,ct,osl,rfl,lk,hcd⟩:=F.ex;exact .all (h kV doc pm an cdv ct)
theorem bj {x qual:Str} {st:Stmt} {f:Addr} {oc:Value} {od an:Option Addr} {osl:Array (Option Value)} {kV doc pm cdv ct:Value} (l:K.lookup f=some ⟨oc,od,.func (PySem.W.fnOf x qual (aJ st) (aI st) (aj st) .none kV doc pm an cdv ct),osl⟩)
  (c:PySem.W.codeIn K cdv qual=true) (k:PySem.W.keepIn K (.ref f)=true):Fun K x qual st f (PySem.W.fnOf x qual (aJ st) (aI st) (aj st) .none kV doc pm an cdv ct):=⟨⟨oc,od,kV,doc,pm,an,cdv,ct,osl,rfl,l,c⟩,k⟩
end
section
variable {X:Cx}
end
noncomputable def bb (H H':Hp):Prop:=∀b o,H b=some o->H' b=some o
theorem bb.refl (H:Hp):bb H H:=λ_ _ h=>h
theorem bb.trans {H H1 H2:Hp} (a:bb H H1) (b:bb H1 H2):bb H H2:=λc o h=>b c o (a c o h)
theorem bb.free {H H':Hp} (e:bb H H') {l:Addr} (h:H' l=Option.none):H l=Option.none:=by
 cases q:H l with
 |none=>rfl
 |some o =>
  rw [e l o q]at h;cases h
theorem bb.seq {K:PySem.W.Frag} {H H':Hp} {a:Addr} {xs:List V} (e:bb H H') (h:SqL K H a xs):SqL K H' a xs:=by
 rcases h with (h | ⟨o,h⟩) | h
 ·exact .inl (.inl (e _ _ h))
 ·exact .inl (.inr ⟨o,e _ _ h⟩)
 ·exact .inr h
end L2
set_option maxHeartbeats 4000000
namespace L2
open PySem PySem.Spec PyProof.Rows
noncomputable def frees (env:Env):List (Str×NameKind)->List (Str×Addr)->List (Str×Addr)
 |[],cs=>cs
 | (n,k) :: r,cs=>if (k == NameKind.free)=true then frees env r ((n,(env.cells.lookup n).getD 0) :: cs) else frees env r cs
theorem k5 {env:Env} {x:Str} {c:Addr}:∀(l:List (Str×NameKind)) (cs:List (Str×Addr)),(∀y∈l,y.2=.free->∃c,env.cells.lookup y.1=some c) ->
  (∀c,cs.lookup x=some c->env.cells.lookup x=some c)->(frees env l cs).lookup x=some c->env.cells.lookup x=some c
 |[],cs,_,hc,e=>hc c e
 | (n,k) :: r,cs,hl,hc,e=>by
  unfold frees at e;by_cases hk:(k == NameKind.free)=true
  ·rw [if_pos hk]at e
   obtain ⟨d,hd⟩:=hl (n,k) Zf (by simpa using hk)
   have hd':env.cells.lookup n=some d:=hd;refine k5 r _ (λy hy=>hl y (Ze _ hy)) (λc' e'=>?_) e
   rw [List.lookup_cons]at e';cases hx:x == n with
   |true =>
    rw [hx]at e';have hxn:x=n:=by simpa using hx
    rw [hd']at e';rw [hxn,hd'];exact e'
   |false =>
    rw [hx]at e';exact hc c' e'
  ·rw [if_neg hk]at e
   exact k5 r cs (λy hy=>hl y (Ze _ hy)) hc e
theorem iT {env:Env} {x:Str}:∀(l:List (Str×NameKind)) (cs:List (Str×Addr)),((x,NameKind.free)∈l\/∃c,cs.lookup x=some c)->∃c,(frees env l cs).lookup x=some c
 |[],cs,h=>by
  rcases h with h | h
  ·cases h
  ·exact h
 | (n,k) :: r,cs,h=>by
  unfold frees;by_cases hk:(k == NameKind.free)=true
  ·rw [if_pos hk]
   refine iT r _ ?_;rcases h with h | ⟨c,h⟩
   ·rcases Zo.mp h with e | e
    ·cases e
     exact .inr ⟨(env.cells.lookup x).getD 0,by rw [List.lookup_cons,beq_self_eq_true]⟩
    ·exact .inl e
   ·refine .inr ?_
    rw [List.lookup_cons];cases hx:x == n with
    |true=>exact ⟨_,rfl⟩
    |false=>exact ⟨c,h⟩
  ·rw [if_neg hk]
   refine iT r _ ?_;rcases h with h | h
   ·rcases Zo.mp h with e | e
    ·cases e
     exact absurd rfl hk
    ·exact .inl e
   ·exact .inr h
theorem p_ {env:Env} {x:Str} {k':NameKind}:∀{names:List (Str×NameKind)},((names.map λ(n,k)=>if (k == NameKind.free && env.scope.kind == .function && env.kindOf n == some .cell) then (n,NameKind.cell) else (n,k)).lookup x=some k') ->
  ∃k,names.lookup x=some k/\(k'=k\/(k=.free/\k'=.cell))
 |[],h=>by simp at h
 | (n,k) :: r,h=>by
  rw [Zk]at h
  dsimp only at h
  rw [List.lookup_cons];by_cases hc:(k == NameKind.free && env.scope.kind == .function && env.kindOf n == some .cell)=true
  ·rw [if_pos hc,List.lookup_cons]at h
   cases hx:x == n with
   |true =>
    rw [hx]at h;cases h;have hk:k=.free:=by
     rw [Zv,Zv]at hc
     simpa using hc.1.1
    exact ⟨k,rfl,.inr ⟨hk,rfl⟩⟩
   |false =>
    rw [hx]at h;exact p_ h
  ·rw [if_neg hc,List.lookup_cons]at h
   cases hx:x == n with
   |true =>
    rw [hx]at h;cases h;exact ⟨_,rfl,.inl rfl⟩
   |false =>
    rw [hx]at h;exact p_ h
theorem iX {env:Env} {x:Str}:∀{names:List (Str×NameKind)},names.lookup x=some .free ->
  (names.map λ(n,k)=>if (k == NameKind.free && env.scope.kind == .function && env.kindOf n == some .cell) then (n,NameKind.cell) else (n,k)).lookup x=some .cell \/
  (names.map λ(n,k)=>if (k == NameKind.free && env.scope.kind == .function && env.kindOf n == some .cell) then (n,NameKind.cell) else (n,k)).lookup x=some .free
 |[],h=>by simp at h
 | (n,k) :: r,h=>by
  rw [Zk]
  dsimp only
  rw [List.lookup_cons]at h;by_cases hc:(k == NameKind.free && env.scope.kind == .function && env.kindOf n == some .cell)=true
  ·rw [if_pos hc,List.lookup_cons]
   cases hx:x == n with
   |true=>exact .inl rfl
   |false =>
    rw [hx]at h;exact iX h
  ·rw [if_neg hc,List.lookup_cons]
   cases hx:x == n with
   |true =>
    rw [hx]at h;cases h;exact .inr rfl
   |false =>
    rw [hx]at h;exact iX h
theorem eG {x:Str} {k:NameKind}:∀{l:List (Str×NameKind)},l.lookup x=some k->(x,k)∈l
 | (n,j) :: r,h=>by
  rw [List.lookup_cons]at h;cases hx:x == n with
  |true =>
   rw [hx]at h;cases h;have:x=n:=by simpa using hx
   rw [this];exact Zf
  |false =>
   rw [hx]at h;exact Ze _ (eG h)
theorem lG {scope:Scope} {env:Env} (h:∀x∈scope.names,x.2=.free->∃c,env.cells.lookup x.1=some c):closureFor scope env=pure (frees env scope.names []):=by
 unfold closureFor;have key:∀(l:List (Str×NameKind)) (cs:List (Str×Addr)),(∀x∈l,x.2=.free->∃c,env.cells.lookup x.1=some c) ->
  (forIn l cs λ(x:Str×NameKind) (r:List (Str×Addr))=>if (x.2 == NameKind.free)=true then do let a <-cellOf env x.1;pure (ForInStep.yield ((x.1,a) :: r)) else pure (ForInStep.yield r):Sem (List (Str×Addr)))=pure (frees env l cs):=by
  intro l
  induction l with
  |nil=>intro cs _;rfl
  |cons x r ih =>
   intro cs hx;obtain ⟨n,k⟩:=x;rw [List.forIn_cons]
   dsimp only
   have hr:=λcs=>ih cs λy hy=>hx y (Ze _ hy)
   by_cases hk:(k == NameKind.free)=true
   ·obtain ⟨c,hc⟩:=hx (n,k) Zf (by simpa using hk)
    have hc':env.cells.lookup n=some c:=hc;rw [if_pos hk];unfold frees;rw [if_pos hk];have e1:cellOf env n=pure c:=by unfold cellOf;rw [hc']
    rw [e1,hc',<-hr];rfl
   ·rw [if_neg hk]
    unfold frees;rw [if_neg hk,<-hr];rfl
 have:=key scope.names [] h;simp only [bind_pure];exact this
section
variable {prog:Program} {w:World} {A:Around} {R:Result->Shared->Prop} {s:Shared}
noncomputable def zR (ifs:List Expr) (env:Env):Sem Bool:=forIn ifs true λc r=>if r=true then do let ok <-isTrue c env (eval c env);pure (ForInStep.yield ok) else pure (ForInStep.yield r)
theorem lN {elt tg iter:Expr} {ifs:List Expr} {scope:Scope} {pos:Pos} {it acc:Value} {env:Env} (J:Nat->Shared->Prop)
  (turn:∀n s,J n s->wpAny (model prog w) A (pyNext it) (λr s1=>match r with
   |none=>R (.ok .next) s1
   |some v=>wpAny (model prog w) A (letOwnedTupleGo tg it v) (λ_ s2=>wpAny (model prog w) A (assign tg env v) (λ_ s3=>wpAny (model prog w) A (zR ifs env) (λok s4 =>
     if ok=true then wpAny (model prog w) A (eval elt env) (λx s5=>wpAny (model prog w) A (call (.builtin "list.append") [acc,x]) (λ_ s6=>∃m,m<n/\J m s6) (λ_ _=>False) s5) (λ_ _=>False) s4
     else ∃m,m<n/\J m s4) (λ_ _=>False) s3) (λ_ _=>False) s2) (λ_ _=>False) s1) (λ_ _=>False) s)
  (n:Nat) (h:J n s):codeAny (model prog w) A (.compLoop (.ListComp elt [⟨tg,iter,ifs,0⟩] scope pos) 0 it acc env) R s:=by
 refine codeAny_loop rfl J (λn s hJ=>?_) n h
 have no:∀(P:Value->Shared->Prop) (e:Value) (s':Shared),False->P e s':=λ_ _ _ f=>f.elim
 show wpAny _ A ((compTurn (.ListComp elt [⟨tg,iter,ifs,0⟩] scope pos) 0 it acc env).onRaise (λx=>do noteFrame x env;theTreesLotGoes x)) _ _ s
 refine wpAny_noted ?_;rw [compTurn_list];refine wpAny_bind (wpAny_standAt (wpAny_bind (wpAny_mono (turn n s hJ) (λr s1 h1=>?_) λe s' f=>f.elim)))
 cases r with
 |none=>exact wpAny_pure h1
 |some v =>
  refine wpAny_bind (wpAny_mono h1 (λ_ s2 h2=>?_) λe s' f=>f.elim)
  refine wpAny_bind (wpAny_mono h2 (λ_ s3 h3=>?_) λe s' f=>f.elim)
  refine wpAny_bind (wpAny_mono h3 (λok s4 h4=>?_) λe s' f=>f.elim)
  cases ok with
  |false=>exact wpAny_pure ⟨rfl,h4⟩
  |true =>
   refine wpAny_bind (wpAny_bind (wpAny_mono h4 (λx s5 h5=>?_) λe s' f=>f.elim))
   exact wpAny_bind (wpAny_mono h5 (λ_ s6 h6=>wpAny_pure (wpAny_pure ⟨rfl,h6⟩)) λe s' f=>f.elim)
end
noncomputable def cxB (X:Cx) (N:List Str) (scope:Scope) (s:Shared) (H:Hp) (C:Addr) (ex:List Addr) (pins:List (Addr×Obj)):Cx :=
 { X with N:=N,s₀:=s,H₀:=H,env:=compEnvC scope (frees X.env scope.names []) C X.env,outer:=X.stack,ex:=ex,fn:=λ_=>false,pn:=X.pn++pins,xe:=λ_ _=>False }
noncomputable def jw (X:Cx) (scope:Scope):List (Nat×Str)->Prop
 |[]=>True
 |p :: r=>(X.N[p.1]?=some p.2/\scope.names.lookup p.2=some .free)/\jw X scope r
theorem jw.get {X:Cx} {scope:Scope}:∀{outs:List (Nat×Str)} {j:Nat} {p:Nat×Str},jw X scope outs->outs[j]?=some p->X.N[p.1]?=some p.2/\scope.names.lookup p.2=some .free
 |[],_,_,_,e=>by simp at e
 |q :: r,0,p,h,e=>by
  simp at e
  subst e;exact h.1
 |q :: r,j+1,p,h,e=>jw.get (j:=j) h.2 (by simpa using e)
structure Blk (X:Cx) (sc scope:Scope) (outs:List (Nat×Str)):Prop where
 hsc:X.env.scope=sc
 kind:scope.kind=.function
 loc:∀x∈scope.names,x.2=.local->scope.names.lookup x.1=some .local
 nocell:∀x∈scope.names,x.2≠.cell
 fr:∀x∈scope.names,x.2=.free->sc.names.lookup x.1=some .cell\/sc.names.lookup x.1=some .free
 out:jw X scope outs
noncomputable def slots (k:Nat) (outs:List (Nat×Str)) (σ:St):St:=List.replicate k none++outs.map λp=>(σ[p.1]?).join
noncomputable def i_:St->St->Prop
 |[],[]=>True
 |none :: r,_ :: r'=>i_ r r'
 |some v :: r,w :: r'=>w=some v/\i_ r r'
 |_,_=>False
theorem i_.len:∀{σ σ':St},i_ σ σ'->σ.length=σ'.length
 |[],[],_=>rfl
 |none :: r,_ :: r',h=>by
  have:=i_.len (σ:=r) (σ':=r') h;simp [this]
 |some v :: r,w :: r',h=>by
  have:=i_.len (σ:=r) (σ':=r') h.2;simp [this]
theorem i_.get:∀{σ σ':St} {i:Nat} {v:V},i_ σ σ'->σ[i]?=some (some v)->σ'[i]?=some (some v)
 |[],_,_,_,_,e=>by simp at e
 |none :: r,w :: r',0,v,_,e=>by simp at e
 |none :: r,w :: r',i+1,v,h,e=>by
  have:=i_.get (σ:=r) (σ':=r') (i:=i) (v:=v) h (by simpa using e)
  simpa using this
 |some u :: r,w :: r',0,v,h,e=>by
  simp at e
  rw [h.1];simp [e]
 |some u :: r,w :: r',i+1,v,h,e=>by
  have:=i_.get (σ:=r) (σ':=r') (i:=i) (v:=v) h.2 (by simpa using e)
  simpa using this
noncomputable def PF (X:Cx) (ifs:List Expr) (t:TT):Prop :=
 ∀(pins:List (Addr×Obj)) (s:Shared) (σ:St) (H:Hp) (Q:Bool->Hp->Prop),Inv X pins σ H s->t σ H Q->wpAny (model X.prog X.w) X.A (zR ifs X.env) (TP X pins σ Q) X.xe s
noncomputable def Kv:TT:=λ_ H Q=>Q true H
theorem Dw {X:Cx}:PF X [] Kv:=λ_ _ _ H _ I h=>wpAny_tests_nil ⟨H,I,h⟩
theorem EX {X:Cx} {c:Expr} {t:TT} (h:PT X c t):PF X [c] t:=λpins s σ H Q I q=>wpAny_tests_one (h pins s σ H Q I q)
noncomputable abbrev J_ (tc:TT) (te:TE) (σ0:St) (D:Addr) (acc:List V) (N:List V->Hp->Prop):St->Hp->Prop:=fun σ2 H3=>i_ σ0 σ2/\tc σ2 H3 λb H4 =>
 if b=true then te σ2 H4 λy H5=>H5 D=some (.lst acc)/\acc.length<sizeLine/\N (acc++[y]) (upd H5 D (.lst (acc++[y]))) else N acc H4
noncomputable def Dq (J:It) (g:TG) (tc:TT) (te:TE) (σ0:St) (D:Addr) (H1:Hp) (Q:Hp->Prop):Prop :=
 ∃W:Nat->Nat->List V->Hp->Prop,(∃m,W 0 m [] (upd H1 D (.lst [])))/\∀i m acc H',W i m acc H' ->
  (J.stop i H'/\Q H')\/(J.go i H'/\∃N:List V->Hp->Prop,(∀acc' H2,N acc' H2->∃m',m'<m/\W (i+1) m' acc' H2)/\∀x H2,J.yld i H' x H2->g x σ0 H2 (J_ tc te σ0 D acc N))
section
variable {X:Cx} {sc scope:Scope} {own:List Str} {outs:List (Nat×Str)} {elt tg iter:Expr} {ifs:List Expr} {pos:Pos} {g:TG} {tc:TT} {te:TE}
theorem oW (B:Blk X sc scope outs) {pins:List (Addr×Obj)} {σ:St} {H:Hp} {s:Shared} (I:Inv X pins σ H s):∀x∈scope.names,x.2=.free->∃c,X.env.cells.lookup x.1=some c:=λx hx hf=>by
 refine I.ok.has x.1 ?_;show X.env.scope.names.lookup x.1=_\/X.env.scope.names.lookup x.1=_
 rw [B.hsc];exact B.fr x hx hf
theorem Aq (B:Blk X sc scope outs) {pins:List (Addr×Obj)} {σ:St} {H:Hp} {s:Shared} {fp:List Addr} (I:Inv X pins σ H s) (f2:∀b∈fp,lj X pins H b) (fo:∀b∈fp,∃o,s.heap.get? b=some o)
  {h1:Heap} {m:Str->Option Value} {tk:Nat} (hn:h1.Ns (s.heap.objs.size+1) m) (old:∀b o,s.heap.get? b=some o->h1.get? b=some o)
  (hD:h1.get? s.heap.objs.size=some { cls:=.type "list",data:=.seq #[] 0 }) :
  Inv (cxB X (own++outs.map (·.2)) scope s H (s.heap.objs.size+1) fp pins) [] (slots own.length outs σ) (upd H s.heap.objs.size (.lst [])) { s with heap:=h1,toks:=tk }:=by
 have bf:=oW B I;have sub:∀x c,(frees X.env scope.names []).lookup x=some c->X.env.cells.lookup x=some c:=λx c e=>k5 _ _ bf (λc' e'=>by simp at e') e
 have clt:∀x c,X.env.cells.lookup x=some c->c<s.heap.objs.size:=λx c e=>(let ⟨v,q⟩:=I.cell x c e;q.lt)
 have flt:∀b∈fp,b<s.heap.objs.size:=λb hb=>(let ⟨o,e⟩:=fo b hb;Heap.lt_size e)
 have un:Un (cxB X (own++outs.map (·.2)) scope s H (s.heap.objs.size+1) fp pins).fs (cxB X (own++outs.map (·.2)) scope s H (s.heap.objs.size+1) fp pins).ex H (upd H s.heap.objs.size (.lst [])) s.heap h1:=Un.laid old (Zn _) I.fresh;have hok:HOk X.prog X.w (upd H s.heap.objs.size (.lst [])) h1:=I.hok.laid old (Zn _) ⟨Nat.zero_le _,[],0,.nil,hD⟩;refine ⟨⟨I.ok.mod,B.kind,I.ok.glob,I.ok.blt,Nat.le_succ _,λx y c e1 e2=>I.ok.inj x y c (sub x c e1) (sub y c e2),λx hx=>?_,λx c hf=>?_,I.ok.hd,I.ok.frames,.inl rfl,λb hb=>⟨?_,λx c e=>?_⟩,I.bs,?_,λb o e hb=>?_,λb hb z=>?_,I.stack,I.stkFree⟩,
  rfl,I.bare,un,⟨m,hn,λi x v e1 e2 e3=>?_⟩,λx c e=>?_,?_,λx c e=>?_,λp hp=>?_,hok,?_⟩
 ·obtain ⟨k,e,hk⟩:∃k,scope.names.lookup x=some k/\k=.free:=by
   rcases hx with hx | hx
   ·obtain ⟨k,e,hk⟩:=p_ (show ((scope.names.map _).lookup x=some .cell) from hx)
    rcases hk with hk | hk
    ·exact absurd hk.symm (B.nocell _ (eG e))
    ·exact ⟨k,e,hk.1⟩
   ·obtain ⟨k,e,hk⟩:=p_ (show ((scope.names.map _).lookup x=some .free) from hx)
    rcases hk with hk | hk
    ·exact ⟨k,e,hk.symm⟩
    ·exact ⟨k,e,hk.1⟩
  subst hk;exact iT _ _ (.inl (eG e))
 ·cases hf
 ·exact Nat.ne_of_lt (Nat.lt_succ_of_lt (flt b hb))
 ·exact (f2 b hb).2.2.2.2.1 x c (sub x c e)
 ·exact ZG I.ok.bsz I.sz
 ·rcases (f2 b hb).2.2.2.1 with z | z
  ·exact I.ok.noex b o e z
  ·exact absurd (ZI (Heap.lt_size e) (ZG I.ok.bsz z)) (Nat.lt_irrefl _)
 ·rcases Zo.mp (I.stkSub b z) with q | q
  ·exact (f2 b hb).2.1 q
  ·exact (f2 b hb).2.2.1 q
 ·
  have hi:own.length<=i:=by
   by_cases hi:own.length<=i
   ·exact hi
   ·have e2':(slots own.length outs σ)[i]?=some (some v):=e2
    unfold slots at e2';rw [List.getElem?_append_left (by simpa using Nat.lt_of_not_le hi),List.getElem?_replicate]at e2'
    split at e2' <;> cases e2'
  have e1':(own++outs.map (·.2))[i]?=some x:=e1;have e2':(slots own.length outs σ)[i]?=some (some v):=e2;unfold slots at e2';rw [List.getElem?_append_right hi,Za]at e1';rw [List.getElem?_append_right (by simpa using hi),List.length_replicate,Za]at e2'
  cases ep:outs[i-own.length]? with
  |none =>
   rw [ep]at e1';cases e1'
  |some p =>
   rw [ep]at e1' e2';have ex:p.2=x:=Zz e1';have ev:(σ[p.1]?).join=some v:=Zz e2';obtain ⟨o1,o2⟩:=B.out.get ep;have es:σ[p.1]?=some (some v):=by
    cases q:σ[p.1]? with
    |none =>
     rw [q]at ev;cases ev
    |some w =>
     rw [q]at ev;have ew:w=some v:=ev;rw [ew]
   rw [ex]at o1 o2;have hk:X.env.scope.names.lookup x=some .cell\/X.env.scope.names.lookup x=some .free:=by
    rw [B.hsc];exact B.fr (x,.free) (eG o2) rfl
   obtain ⟨m0,hn0,hl0⟩:=I.loc;obtain ⟨u,r,l⟩:=hl0 p.1 x v o1 es (hk.elim (λz=>.inr (.inl z)) λz=>.inr (.inr z))
   refine ⟨u,r,.inr ?_⟩;rcases l with ⟨hl,_⟩ | ⟨_,c,ec,hc⟩
   ·have hl':X.env.scope.names.lookup x=some .local:=hl
    rcases hk with z | z <;> (rw [z]at hl';cases hl')
   ·obtain ⟨c',ec'⟩:=iT (env:=X.env) (x:=x) scope.names [] (.inl (eG o2))
    have e3:=sub x c' ec';rw [ec]at e3;cases e3;obtain ⟨oc,q1,q2⟩:=hc;exact ⟨iX o2,c,ec',⟨oc,old _ _ q1,q2⟩⟩
 ·obtain ⟨v,oc,q1,q2⟩:=I.cell x c (sub x c e)
  exact ⟨v,oc,old _ _ q1,q2⟩
 ·show upd H s.heap.objs.size (.lst []) (s.heap.objs.size+1)=none
  rw [aM (Nat.succ_ne_self _)];exact I.hok.fresh (Nat.le_succ _)
 ·rw [aM (Nat.ne_of_lt (clt x c (sub x c e)))]
  exact I.freeC x c (sub x c e)
 ·have hp':p∈X.pn++pins:=by
   have:p∈(X.pn++pins)++[]:=hp
   simpa using this
  obtain ⟨q1,q2,q3,q4,q5⟩:=I.pin p hp';refine ⟨old _ _ q1,?_,Nat.ne_of_lt (Nat.lt_succ_of_lt (Heap.lt_size q1)),λz=>?_,q5⟩
  ·rw [aM (Nat.ne_of_lt (Heap.lt_size q1))]
   exact q2
  ·rcases Zo.mp (I.stkSub p.1 z) with q | q
   ·exact q3 q
   ·exact q4 q
 ·show (slots own.length outs σ).length=(own++outs.map (·.2)).length
  unfold slots;simp
theorem vX (B:Blk X sc scope outs) (hcalm:X.calm=true)
  (hg:∀s H C ex pins,PG (cxB X (own++outs.map (·.2)) scope s H C ex pins) tg g) (hc:∀s H C ex pins,PF (cxB X (own++outs.map (·.2)) scope s H C ex pins) ifs tc) (he:∀s H C ex pins,PE (cxB X (own++outs.map (·.2)) scope s H C ex pins) elt te)
  {pins:List (Addr×Obj)} {σ:St} {H:Hp} {s:Shared} {it:Addr} {fp:List Addr} {tn:Nat->Heap->Prop} {J:It} (I:Inv X pins σ H s) (T:Turn X.prog X.w X.K tg J fp it tn) (st:tn 0 s.heap) (f2:∀b∈fp,lj X pins H b)
  {R0:Addr->Hp->Prop} (hW:∀D,H D=none->Dq J g tc te (slots own.length outs σ) D H (R0 D)) {RR:Value->Addr->Result->Shared->Prop} {E:Value->Shared->Prop}
  (fin:∀D C H' s' m,Inv X pins σ H' s'->lj X pins H' C->s'.heap.Ns C m->R0 D H'->RR (.ref D) C (.ok .next) s') :
  wpAny (model X.prog X.w) X.A (newList []) (λacc s3=>wpAny (model X.prog X.w) X.A (newFunctionEnv scope X.env.globals (frees X.env scope.names []) [] X.env.qual none .none (some X.env)) (λcenv s4 =>
   codeAny (model X.prog X.w) X.A (.compStart (.ListComp elt [⟨tg,iter,ifs,0⟩] scope pos) 0 (.ref it) acc { cenv with scope:=relabel scope X.env }) (RR acc cenv.locals) s4) E s3) E s:=by
 refine wpAny_newObj_type (wpAny_newFunctionEnv B.nocell (by intro y hy;simp at hy) (λh1 hn1 hs1=>?_) B.kind)
 dsimp only at hn1 hs1 ⊢
 have hz:(s.heap.push { cls:=.type "list",dict:=none,data:=.seq ([]:List Value).toArray }).objs.size=s.heap.objs.size+1:=Heap.size_push ..;rw [hz]at hn1 hs1;simp only [hz];have fo:∀b∈fp,∃o,s.heap.get? b=some o:=λb hb=>(let ⟨o,e,_⟩:=T.obj 0 _ st b hb;⟨o,e⟩)
 have old:∀b o,s.heap.get? b=some o->h1.get? b=some o:=λb o e =>
  hs1.extBut b o (Nat.ne_of_lt (Nat.lt_succ_of_lt (Heap.lt_size e))) (Heap.get?_push_of_some _ (Heap.get?_push_of_some _ e))
 have hD:h1.get? s.heap.objs.size=some { cls:=.type "list",data:=.seq #[] 0 }:=hs1.extBut _ _ (Nat.ne_of_lt (Nat.lt_succ_self _)) (Heap.get?_push_of_some _ (Heap.get?_push_size _ rfl));have I1:=Aq (own:=own) (tk:=s.toks+([]:List (Str×Value)).length) B I f2 fo hn1 old hD;have st1:tn 0 h1:=T.keep _ _ _ st λb _ o e=>old b o e
 obtain ⟨W,⟨m0,w0⟩,turn⟩:=hW _ I.fresh;have fpB:∀{H':Hp},(∀b∈fp,H' b=none)->∀b∈fp,lj (cxB X (own++outs.map (·.2)) scope s H (s.heap.objs.size+1) fp pins) [] H' b:=λhn b hb=>by
  obtain ⟨o,eo⟩:=fo b hb;refine ⟨hn b hb,Nat.ne_of_lt (Nat.lt_succ_of_lt (Heap.lt_size eo)),I1.ok.exfs b hb,.inl hb,λx c e=>(I1.ok.exf b hb).2 x c e,λp hp=>?_⟩
  have hp':p∈X.pn++pins:=by
   have:p∈(X.pn++pins)++[]:=hp
   simpa using this
  exact (f2 b hb).2.2.2.2.2 p hp'
 have loop:∀s0:Shared,s0={ s with heap:=h1,toks:=s.toks+([]:List (Str×Value)).length } ->
   codeAny (model X.prog X.w) X.A (.compLoop (.ListComp elt [⟨tg,iter,ifs,0⟩] scope pos) 0 (.ref it) (.ref s.heap.objs.size) (compEnvC scope (frees X.env scope.names []) (s.heap.objs.size+1) X.env)) (RR (.ref s.heap.objs.size) (s.heap.objs.size+1)) s0:=by
  rintro s0 rfl;refine lN (λn s'=>∃i acc H',Inv (cxB X (own++outs.map (·.2)) scope s H (s.heap.objs.size+1) fp pins) [] (slots own.length outs σ) H' s'/\tn i s'.heap/\(∀b∈fp,H' b=none)/\W i n acc H') ?_ m0
   ⟨0,[],_,I1,st1,λb hb=>?_,w0⟩
  ·rintro n s3 ⟨i,acc,H3,I3,st3,fr3,w3⟩
   rcases turn i n acc H3 w3 with ⟨stop,q⟩ | ⟨go,N,hN,step⟩
   ·refine thn (T.done (cxB X (own++outs.map (·.2)) scope s H (s.heap.objs.size+1) fp pins) rfl rfl rfl hcalm i [] s3 _ H3 (λ_ _=>False) I3 (fpB fr3) st3 stop) λr s4 ⟨hr,I4⟩=>?_
    subst hr;have IX:Inv X pins σ H3 s4:=I.call' (ch:=fp) I4.os I4.base I4.hok I4.bare λb hb=>⟨(f2 b hb).2.2.2.1,(f2 b hb).2.1,(f2 b hb).2.2.2.2.1,(f2 b hb).2.2.2.2.2⟩
    obtain ⟨m4,hn4,_⟩:=I4.loc;exact fin _ _ H3 s4 m4 IX (I.fpOk (Nat.le_succ _) I4.free) hn4 q
   ·refine thn (T.item (cxB X (own++outs.map (·.2)) scope s H (s.heap.objs.size+1) fp pins) rfl rfl rfl hcalm i [] s3 _ H3 (λ_ _=>False) I3 (fpB fr3) st3 go) λr s4 ⟨u,hr,h4⟩=>?_
    subst hr;refine thn h4 λ_ s5 ⟨x,H5,I5,r5,y5,st5,fr5⟩=>?_
    have I5':=I5.pinned (fpB fr5) (T.obj _ _ st5);have back:∀{σ6:St} {H6:Hp} {s6:Shared} {acc':List V},Inv (cxB X (own++outs.map (·.2)) scope s H (s.heap.objs.size+1) fp pins) ([]++mP fp s5.heap) σ6 H6 s6->i_ (slots own.length outs σ) σ6->N acc' H6 ->
      ∃m,m<n/\∃i acc H',Inv (cxB X (own++outs.map (·.2)) scope s H (s.heap.objs.size+1) fp pins) [] (slots own.length outs σ) H' s6/\tn i s6.heap/\(∀b∈fp,H' b=none)/\W i m acc H':=fun {σ6 H6 s6 acc'} I6 hs hn6=>by
     obtain ⟨m',hm,hw⟩:=hN acc' H6 hn6;refine ⟨m',hm,i+1,acc',H6,I6.unpinned.weak hs.len λj v e=>hs.get e,T.keep _ _ _ st5 λb hb o e=>(I6.pin (b,o) (Zq _ (Zq _ (g9 hb e)))).1,λb hb=>?_,hw⟩
     obtain ⟨o,e,_⟩:=T.obj _ _ st5 b hb;exact (I6.pin (b,o) (Zq _ (Zq _ (g9 hb e)))).2.1
    refine thn (hg s H _ fp pins _ s5 _ H5 x u _ I5' r5 (step x H5 y5)) λ_ s6 ⟨σ6,H6,I6,hs6,q6⟩=>?_
    refine thn (hc s H _ fp pins _ s6 σ6 H6 _ I6 q6) λb s7 ⟨H7,I7,q7⟩=>?_
    cases b with
    |false =>
     exact back I7 hs6 q7
    |true =>
     refine thn (he s H _ fp pins _ s7 σ6 H7 _ I7 q7) λyv s8 ⟨y,H8,I8,r8,hd8,hl8,hw⟩=>?_
     refine thn (k7 _ s8 σ6 H8 (.ref s.heap.objs.size) [y] (.ref s.heap.objs.size) [yv] (λ_ H9=>H9=upd H8 s.heap.objs.size (.lst (acc++[y]))) I8 rfl (.cons r8 .nil) ⟨_,acc,y,rfl,rfl,hd8,hl8,rfl⟩) λz s9 ⟨zv,H9,I9,_,q9⟩=>?_
     subst q9;exact back I9 hs6 hw
  ·obtain ⟨o,eo⟩:=fo b hb
   rw [aM (Nat.ne_of_lt (Heap.lt_size eo))];exact (f2 b hb).1
 exact codeAny_compStart_list (loop _ rfl) (T.self X.A 0 _ _ _ st1 (loop _ rfl))
noncomputable def vy (wi:TI) (g:TG) (tc:TT) (te:TE) (k:Nat) (outs:List (Nat×Str)):TE:=fun σ H Q=>wi σ H λJ H1=>∀D,H1 D=none->Dq J g tc te (slots k outs σ) D H1 λH'=>Q (.ref D) H'
theorem Am {wi:TI} (own:List Str) (B:Blk X sc scope outs) (hcalm:X.calm=true) (hi:PI X tg iter wi)
  (hg:∀s H C ex pins,PG (cxB X (own++outs.map (·.2)) scope s H C ex pins) tg g) (hc:∀s H C ex pins,PF (cxB X (own++outs.map (·.2)) scope s H C ex pins) ifs tc) (he:∀s H C ex pins,PE (cxB X (own++outs.map (·.2)) scope s H C ex pins) elt te)
  (hs:∀x,foldedSetIterable iter X.env x=pure x:=by intro _;rfl):PE X (.ListComp elt [⟨tg,iter,ifs,0⟩] scope pos) (vy wi g tc te own.length outs):=by
 intro pins s σ H Q I h;rw [eval_ListComp];refine wpAny_comprehension_free (use:=none) rfl hs (lG (oW B I)) B.kind B.loc ?_;refine thn (hi pins s σ H _ I h) λv s1 h1=>thn h1 λitv s2 h2=>?_
 obtain ⟨it,fp,tn,J,H2,e,I2,T,st2,f2,hW⟩:=h2;subst e;refine vX (RR:=λacc C=>compPost (model X.prog X.w) X.A X.xe none (EP X pins σ Q) acc C) B hcalm hg hc he I2 T st2 f2 hW ?_
 intro D C H' s' m I' hC hn q;refine ⟨m,hn,λh' hs'=>?_⟩
 obtain ⟨c0,c1,c2,c3,c4,c5⟩:=hC;exact ⟨.ref D,H',I'.turned (t':=s'.toks) (λb o hb e=>(hs'.2 b hb).trans e) c0 c1 c3 c4 c5,rfl,q⟩
theorem AN {wi:TI} {i:Nat} {x:Str} {pos' spos:Pos} (own:List Str) (hN:X.N.Nodup) (hix:X.N[i]?=some x) (hx:Loc X.env.scope x) (B:Blk X sc scope outs) (hcalm:X.calm=true) (hi:PI X tg iter wi)
  (hg:∀s H C ex pins,PG (cxB X (own++outs.map (·.2)) scope s H C ex pins) tg g) (hc:∀s H C ex pins,PF (cxB X (own++outs.map (·.2)) scope s H C ex pins) ifs tc) (he:∀s H C ex pins,PE (cxB X (own++outs.map (·.2)) scope s H C ex pins) elt te)
  (hsw:swapsWith (.ListComp elt [⟨tg,iter,ifs,0⟩] scope pos) (some (.Name x pos')) spos.line X.env=pure true:=by rfl)
  (hs:∀x,foldedSetIterable iter X.env x=pure x:=by intro _;rfl) (hf:X.fn x=true\/X.env.scope.names.lookup x=some .local:=by first | exact .inl rfl | exact .inr rfl | assumption) :
  PS X (.Assign [.Name x pos'] (.ListComp elt [⟨tg,iter,ifs,0⟩] scope pos) spos) (uV (vy wi g tc te own.length outs) (sr i)):=by
 intro pins s σ H D0 I h;rw [exec_Assign_Name_used _ _ _ _ hsw];refine wpAny_bind (wpAny_standAt (wpAny_bind ?_));show wpAny _ X.A (do let _ <-comprehension (.ListComp elt [⟨tg,iter,ifs,0⟩] scope pos) scope X.env _ (newList []) false (eval iter X.env) (some (assign (.Name x pos') X.env))) _ _ s
 refine wpAny_bind (thn (wpAny_comprehension_free (use:=some (assign (.Name x pos') X.env)) (Q:=λ_ s'=>SP X pins D0 .next s') rfl hs (lG (oW B I)) B.kind B.loc ?_) λ_ s' hq=>wpAny_pure (wpAny_pure hq))
 refine thn (hi pins s σ H _ I h) λv s1 h1=>thn h1 λitv s2 h2=>?_
 obtain ⟨it,fp,tn,J,H2,e,I2,T,st2,f2,hW⟩:=h2;subst e;refine vX (RR:=λacc C=>compPost (model X.prog X.w) X.A X.xe (some (assign (.Name x pos') X.env)) (λ_ s'=>SP X pins D0 .next s') acc C) B hcalm hg hc he I2 T st2 f2 hW ?_
 intro D C H' s' m I' hC hn q;obtain ⟨c0,c1,c2,c3,c4,c5⟩:=hC;obtain ⟨oC,es,ep,hoC,hdC,hr⟩:=id hn;have IC:Inv X (pins++[(C,oC)]) σ H' s':=I'.pins_of λp hp=>(Zs.mp hp).elim (λz=>I'.pin p (Zq _ z)) λz=>by
  have ep:p=(C,oC):=by simpa using z
  subst ep;exact ⟨hoC,c0,c1,c2,λv z=>by rw [hdC]at z;cases z⟩
 show wpAny _ X.A (assign (.Name x pos') X.env (.ref D)) _ _ s'
 refine wpAny_assign_Name (lY (v:=.ref D) IC hN hix hx rfl (λs3 I3=>?_) hf)
 have hC3:s3.heap.get? C=some oC:=(I3.pin (C,oC) (Zq _ (Zq _ (by simp)))).1
 refine ⟨m,⟨oC,es,ep,hC3,hdC,hr⟩,λh' hs'=>?_⟩
 exact ⟨_,H',I3.unpinned.turned (t':=s3.toks) (λb o hb e=>(hs'.2 b hb).trans e) c0 c1 c3 c4 c5,q⟩
end
theorem n_ {X:Cx} {pins:List (Addr×Obj)} {σ:St} {H:Hp} {s:Shared} {ch:List Addr} {T:Addr} {o:HO} {h':Heap} {t':Nat} (I:Inv X pins σ H s) (hch:∀b∈ch,lj X pins H b) (k:∀b u,b∉ch->s.heap.get? b=some u->h'.get? b=some u)
  (hT:s.heap.objs.size<=T) (new:eY X.prog X.w (upd H T o) h' T o):Inv X pins σ (upd H T o) { s with heap:=h',toks:=t' }:=by
 have hn:H T=none:=I.hok.fresh hT;have nch:∀b u,H b=some u->b∉ch:=λb u e z=>by
  rw [(hch b z).1]at e;cases e
 have lt:∀b u,s.heap.get? b=some u->b≠T:=λb u e=>Nat.ne_of_lt (ZI (Heap.lt_size e) hT)
 refine I.step (g':=s.gens) (d':=s.drawn) (ch:=ch) (λb hb=>?_) (λb u _ _ hc e _=>k b u hc e) (λb u _ _ hc e _=>⟨u.slots,k b u hc e⟩) (λb u _ e n=>by rw [aM (lt b u e)];exact n)
  (λb u hc e=>⟨u,k b u hc e⟩) (λb xs e=>by rw [aM (bG e hn)];exact e) (λb u v e=>by rw [aM (bG e hn)];exact e) (λb ps e=>⟨#[],by rw [aM (bG e hn),e];simp⟩) (λm hm=>?_) (λb u e=>?_) I.bare
 ·obtain ⟨f0,f1,f2,f3,f4,f5⟩:=hch b hb
  exact ⟨f3,f1,f4,f5⟩
 ·obtain ⟨oL,es,ep,ho,r⟩:=hm
  exact ⟨oL,es,ep,k _ oL (λz=>(hch _ z).2.1 rfl) ho,r⟩
 ·by_cases hb:b=T
  ·subst hb
   rw [cA]at e;cases e;exact new
  ·rw [aM hb]at e
   refine (I.hok b u e).stay (λc v hc q=>k c v ?_ q) (λc q=>by rw [aM (bG q hn)];exact q) λc xs q=>by rw [aM (bG q hn)];exact q
   rcases hc with z | z
   ·rw [z]
    exact nch b u e
   ·exact nch c _ z
theorem qy {X:Cx} {pins:List (Addr×Obj)} {σ:St} {H:Hp} {s:Shared} {ch:List Addr} {h':Heap} {t':Nat} (I:Inv X pins σ H s) (hch:∀b∈ch,lj X pins H b) (k:∀b u,b∉ch->s.heap.get? b=some u->h'.get? b=some u) :
  Inv X pins σ H { s with heap:=h',toks:=t' }:=by
 have nch:∀b u,H b=some u->b∉ch:=λb u e z=>by
  rw [(hch b z).1]at e;cases e
 refine I.step (g':=s.gens) (d':=s.drawn) (ch:=ch) (λb hb=>?_) (λb u _ _ hc e _=>k b u hc e) (λb u _ _ hc e _=>⟨u.slots,k b u hc e⟩) (λ_ _ _ _ n=>n)
  (λb u hc e=>⟨u,k b u hc e⟩) (λ_ _ e=>e) (λ_ _ _ e=>e) (λb ps e=>⟨#[],by rw [e];simp⟩) (λm hm=>?_) (λb u e=>?_) I.bare
 ·obtain ⟨f0,f1,f2,f3,f4,f5⟩:=hch b hb
  exact ⟨f3,f1,f4,f5⟩
 ·obtain ⟨oL,es,ep,ho,r⟩:=hm
  exact ⟨oL,es,ep,k _ oL (λz=>(hch _ z).2.1 rfl) ho,r⟩
 ·refine (I.hok b u e).stay (λc v hc q=>k c v ?_ q) (λ_ q=>q) λ_ _ q=>q
  rcases hc with z | z
  ·rw [z]
   exact nch b u e
  ·exact nch c _ z
noncomputable def Ite (K:PySem.W.Frag) (a:Addr):It :=
 ⟨λi H=>∃xs x,SqL K H a xs/\xs[i]?=some x,λi H x H'=>∃T y,H T=none/\x=.ref T/\H'=upd H T (.tup [.int i,y])/\∀xs,SqL K H a xs->xs[i]?=some y,λi H=>∃xs,SqL K H a xs/\xs.length<=i⟩
theorem xv {P:Program} {w:World} {K:PySem.W.Frag} {es:List Expr} {k:Nat} {pos:Pos} (a e it:Addr) (hne:e≠it) :
  Turn P w K (.Tuple es k pos) (Ite K a) [e,it] e (λi h=>(∃old,IsEnum h e it i old)/\h.IsListIter it a i) where
 mem:=by simp
 obj:=λi h st b hb=>by
  obtain ⟨⟨old,he⟩,o,eo,c,d⟩:=st;have hb':b=e\/b=it:=by simpa using hb
  rcases hb' with z | z
  ·subst z
   exact ⟨_,he,λv z=>by cases z⟩
  ·subst z
   exact ⟨o,eo,λv z=>by rw [d]at z;cases z⟩
 keep:=λi h h' st kp=>⟨(let ⟨old,he⟩:=st.1;⟨old,kp e (by simp) _ he⟩),st.2.at λo eo=>kp it (by simp) o eo⟩
 item:=by
  intro X hP hw hK hc i pins s σ H E I hf st hg;subst hP hw hK;obtain ⟨xs,x,hq,hx⟩:=hg;obtain ⟨⟨old,he⟩,hit⟩:=st;obtain ⟨its,rv,p,hz⟩:=I.list hq;obtain ⟨u,hu,ru⟩:=rv.get hx;have elt:e<s.heap.objs.size:=Heap.lt_size he;refine wpAny_pyNext_enum_item he hit p.isList (x:=u) (by simpa using hu) hne λh1 ho hit1 hT hsz hk=>?_
  refine ⟨_,rfl,wpAny_letOwnedTupleGo_enum ho λh2 he2 hs2=>?_⟩
  have kk:∀b v,b∉[e,it]->s.heap.get? b=some v->h2.get? b=some v:=λb v hb q=>by
   have h1':b≠e:=λz=>hb (by simp [z])
   have h2':b≠it:=λz=>hb (by simp [z])
   exact (hs2.2 b h1').trans (hk b v h1' h2' q)
  have hT2:h2.get? s.heap.objs.size=some { cls:=.type "tuple",data:=.seq #[.int i s.toks,u] }:=(hs2.2 _ (Nat.ne_of_gt elt)).trans hT;refine ⟨.ref s.heap.objs.size,upd H s.heap.objs.size (.tup [.int i,x]),n_ (s:=s) (h':=h2) (t':=s.toks+1) I hf kk (Zn _) ?_,rfl,⟨_,x,I.fresh,rfl,rfl,λys hy=>by rw [I.list_inj hy hq];exact hx⟩,⟨⟨_,he2⟩,?_⟩,λb hb=>?_⟩
  ·exact ⟨by show 2<=sizeLine;decide,[.int i s.toks,u],.cons ⟨_,rfl⟩ (.cons ru .nil),_,hT2,rfl,_,rfl⟩
  ·exact hit1.at λo eo=>(hs2.2 it (Ne.symm hne)).trans eo
  ·obtain ⟨f0,f1,f2,f3,f4,f5⟩:=hf b hb
   have hb':b=e\/b=it:=by simpa using hb
   obtain ⟨oi,eoi,_⟩:=hit;have:b<s.heap.objs.size:=by
    rcases hb' with z | z
    ·rw [z];exact elt
    ·rw [z];exact Heap.lt_size eoi
   rw [aM (Nat.ne_of_lt this)];exact f0
 done:=by
  intro X hP hw hK hc i pins s σ H E I hf st hg;subst hP hw hK;obtain ⟨xs,hq,hx⟩:=hg;obtain ⟨⟨old,he⟩,hit⟩:=st;obtain ⟨its,rv,p,hz⟩:=I.list hq;have hl:=rv.length;refine wpAny_pyNext_enum_end (I.ok.hd hc) he hit p.isList (by simp;lia) λh1 eb=>⟨rfl,qy (t':=s.toks) I hf λb v hb q=>eb b v (λz=>hb (by simp [z])) q⟩
 self:=λ_ _ _ _ _ st h=>(let ⟨old,he⟩:=st.1;wpAny_pyIter_enum he h)
noncomputable def BO (K:PySem.W.Frag) (ta:TA):TI:=fun σ H R=>ta σ H λvs H1=>∃a,vs=[.ref a]/\(∃xs,SqL K H1 a xs)/\R (Ite K a) H1
theorem nh:bootBuiltins "enumerate" = some (.type "enumerate"):=by decide +kernel
theorem pU:bootBuiltins "zip" = some (.type "zip"):=by decide +kernel
theorem BI {X:Cx} {es:List Expr} {k:Nat} {a:Expr} {ta:TA} {p pos tpos:Pos} (hg:Gl X "enumerate") (hm:X.mg "enumerate" = none) (ha:PA X [a] ta) (hs:starEach [a] X.env=[(false,eval a X.env)]:=by rfl) :
  PI X (.Tuple es k tpos) (.Call (.Name "enumerate" p) [a] [] pos) (BO X.K ta):=by
 intro pins s σ H R I h;refine Call_ (jX I hg hm nh (PyProof.Rows.callWith_type1 (thn (ha pos pins s σ H _ I h) λus s1 ⟨vs,H1,I1,r1,q1⟩=>?_) hs rfl))
 obtain ⟨l,e,⟨xs,hq⟩,q⟩:=q1;subst e;obtain ⟨u,rfl,ru⟩:=Vals.one r1;cases ru;obtain ⟨its,rv,pl,hz⟩:=I1.list hq;refine call_enumerate_list pl.isList λh1 he hit hsz hk=>?_
 refine wpAny_pyIter_enum he ?_;have I2:Inv X pins σ H1 { s1 with heap:=h1 }:=I1.kept (t':=s1.toks) hk
 refine ⟨s1.heap.objs.size+1,[s1.heap.objs.size+1,s1.heap.objs.size],_,Ite X.K l,H1,rfl,I2,xv l _ _ (Nat.succ_ne_self _),⟨⟨_,he⟩,hit⟩,λb hb=>?_,q⟩
 have hb':b=s1.heap.objs.size+1\/b=s1.heap.objs.size:=by simpa using hb
 rcases hb' with z | z
 ·subst z
  exact I1.fpOk (Nat.le_succ _) (I1.hok.fresh (Nat.le_succ _))
 ·subst z
  exact I1.fpOk (Zn _) (I1.hok.fresh (Zn _))
noncomputable def Itz (K:PySem.W.Frag) (a b:Addr):It :=
 ⟨λi H=>∃xs x ys y,SqL K H a xs/\xs[i]?=some x/\SqL K H b ys/\ys[i]?=some y,λi H v H'=>∃T x y,H T=none/\v=.ref T/\H'=upd H T (.tup [x,y])/\(∀xs,SqL K H a xs->xs[i]?=some x)/\∀ys,SqL K H b ys->ys[i]?=some y,
  λi H=>∃xs ys,SqL K H a xs/\SqL K H b ys/\(xs.length<=i\/ys.length<=i)⟩
theorem zH {P:Program} {w:World} {K:PySem.W.Frag} {es:List Expr} {k:Nat} {pos:Pos} (a b z TI TO i1 i2:Addr) (z1:z≠TI/\z≠TO/\z≠i1/\z≠i2) (z2:TI≠TO/\TI≠i1/\TI≠i2) (z3:TO≠i1/\TO≠i2) (z4:i1≠i2)
  (z5:a≠z/\a≠TO/\a≠i1/\a≠i2) (z6:b≠z/\b≠TO/\b≠i1/\b≠i2) :
  Turn P w K (.Tuple es k pos) (Itz K a b) [z,TI,TO,i1,i2] z (λi h=>IsZip h z TI TO .none/\IsPair h TI (.ref i1) (.ref i2)/\(∃u v,IsPair h TO u v)/\h.IsListIter i1 a i/\h.IsListIter i2 b i):=by
 have D:ZipApart z TI TO i1 i2 a b:=⟨Ne.symm z1.1,Ne.symm z1.2.1,Ne.symm z1.2.2.1,Ne.symm z1.2.2.2,z2.1,z2.2.1,z2.2.2,z3.1,z3.2,z4,z5.1,z5.2.1,z5.2.2.1,z5.2.2.2,z6.1,z6.2.1,z6.2.2.1,z6.2.2.2⟩;have mem5:∀c,c∈[z,TI,TO,i1,i2]->c=z\/c=TI\/c=TO\/c=i1\/c=i2:=λc hc=>by simpa using hc
 constructor
 ·simp
 ·intro i h st c hc
  obtain ⟨hz,hTI,⟨u,v,hTO⟩,⟨o1,e1,c1,d1⟩,o2,e2,c2,d2⟩:=st;rcases mem5 c hc with rfl | rfl | rfl | rfl | rfl
  ·exact ⟨_,hz,λv z=>by cases z⟩
  ·exact ⟨_,hTI,λv z=>by cases z⟩
  ·exact ⟨_,hTO,λv z=>by cases z⟩
  ·exact ⟨o1,e1,λv z=>by rw [d1]at z;cases z⟩
  ·exact ⟨o2,e2,λv z=>by rw [d2]at z;cases z⟩
 ·intro i h h' st kp
  obtain ⟨hz,hTI,⟨u,v,hTO⟩,h1,h2⟩:=st;exact ⟨kp z (by simp) _ hz,kp TI (by simp) _ hTI,⟨u,v,kp TO (by simp) _ hTO⟩,h1.at λo e=>kp i1 (by simp) o e,h2.at λo e=>kp i2 (by simp) o e⟩
 ·intro X hP hw hK hc i pins s σ H E I hf st hg
  subst hP hw hK;obtain ⟨xs,x,ys,y,hq,hx,hr,hy⟩:=hg;obtain ⟨hz,hTI,⟨u,v,hTO⟩,h1,h2⟩:=st;obtain ⟨its,rv,p,_⟩:=I.list hq;obtain ⟨its2,rv2,p2,_⟩:=I.list hr;obtain ⟨ux,hux,rux⟩:=rv.get hx;obtain ⟨uy,huy,ruy⟩:=rv2.get hy;refine wpAny_pyNext_zip_item D hz hTI hTO h1 h2 p.isList p2.isList (x:=ux) (y:=uy) (by simpa using hux) (by simpa using huy) λh3 a1 a2 a3 a4 a5 a6 hk=>?_
  have zlt:z<s.heap.objs.size:=Heap.lt_size hz;refine ⟨_,rfl,wpAny_letOwnedTupleGo_zip a1 λh4 hz4 hs4=>?_⟩
  have kk:∀c w',c∉[z,TI,TO,i1,i2]->s.heap.get? c=some w'->h4.get? c=some w':=λc w' hc q=>by
   have n1:c≠z:=λe=>hc (by simp [e])
   have n2:c≠TO:=λe=>hc (by simp [e])
   have n3:c≠i1:=λe=>hc (by simp [e])
   have n4:c≠i2:=λe=>hc (by simp [e])
   exact (hs4.2 c n1).trans (hk c w' n1 n2 n3 n4 q)
  have hT4:IsPair h4 s.heap.objs.size ux uy:=(hs4.2 _ (Nat.ne_of_gt zlt)).trans a5;have hTI4:IsPair h4 TI (.ref i1) (.ref i2):=(hs4.2 _ (Ne.symm z1.1)).trans (hk _ _ (Ne.symm z1.1) z2.1 z2.2.1 z2.2.2 hTI);refine ⟨.ref s.heap.objs.size,upd H s.heap.objs.size (.tup [x,y]),n_ (s:=s) (h':=h4) (t':=s.toks) I hf kk (Zn _) ?_,rfl,⟨_,x,y,I.fresh,rfl,rfl,λzs hzs=>by rw [I.list_inj hzs hq];exact hx,λzs hzs=>by rw [I.list_inj hzs hr];exact hy⟩,
   ⟨hz4,hTI4,⟨ux,uy,(hs4.2 _ (Ne.symm z1.2.1)).trans a2⟩,a3.at λo e=>(hs4.2 _ (Ne.symm z1.2.2.1)).trans e,a4.at λo e=>(hs4.2 _ (Ne.symm z1.2.2.2)).trans e⟩,λc hc=>?_⟩
  ·exact ⟨by show 2<=sizeLine;decide,[ux,uy],.cons rux (.cons ruy .nil),_,hT4,rfl,_,rfl⟩
  ·have clt:c<s.heap.objs.size:=by
    obtain ⟨o1,e1,_⟩:=h1;obtain ⟨o2,e2,_⟩:=h2;rcases mem5 c hc with rfl | rfl | rfl | rfl | rfl
    ·exact zlt
    ·exact Heap.lt_size hTI
    ·exact Heap.lt_size hTO
    ·exact Heap.lt_size e1
    ·exact Heap.lt_size e2
   rw [aM (Nat.ne_of_lt clt)];exact (hf c hc).1
 ·intro X hP hw hK hc i pins s σ H E I hf st hg
  subst hP hw hK;obtain ⟨xs,ys,hq,hr,hx⟩:=hg;obtain ⟨hz,hTI,⟨u,v,hTO⟩,h1,h2⟩:=st;obtain ⟨its,rv,p,_⟩:=I.list hq;obtain ⟨its2,rv2,p2,_⟩:=I.list hr;have l1:=rv.length;have l2:=rv2.length;refine wpAny_pyNext_zip_end (I.ok.hd hc) D hz hTI hTO h1 h2 p.isList p2.isList (by simp;lia) λh3 hk=>⟨rfl,qy (t':=s.toks) I hf λc w' hc q=>hk c w' (λe=>hc (by simp [e])) (λe=>hc (by simp [e])) (λe=>hc (by simp [e])) (λe=>hc (by simp [e])) q⟩
 ·intro A i s Q E st h
  exact wpAny_pyIter_zip st.1 h
theorem neA {a b:Nat} (h:a≠b):@Ne Addr a b:=h
noncomputable def Ht (K:PySem.W.Frag) (ta:TA):TI:=fun σ H R=>ta σ H λvs H1=>∃a b,vs=[.ref a,.ref b]/\(∃xs,SqL K H1 a xs)/\(∃ys,SqL K H1 b ys)/\R (Itz K a b) H1
theorem Dt {X:Cx} {es:List Expr} {k:Nat} {a b:Expr} {ta:TA} {p pos tpos:Pos} (hg:Gl X "zip") (hm:X.mg "zip" = none) (ha:PA X [a,b] ta) (hs:starEach [a,b] X.env=[(false,eval a X.env),(false,eval b X.env)]:=by rfl) (hs2:starEach [b] X.env=[(false,eval b X.env)]:=by rfl) :
  PI X (.Tuple es k tpos) (.Call (.Name "zip" p) [a,b] [] pos) (Ht X.K ta):=by
 intro pins s σ H R I h;refine Call_ (jX I hg hm pU (PyProof.Rows.callWith_type1 (thn (ha pos pins s σ H _ I h) λus s1 ⟨vs,H1,I1,r1,q1⟩=>?_) (by rw [hs,hs2]) (by rw [hs2];rfl)))
 obtain ⟨l,l',e,⟨xs,hq⟩,⟨ys,hr⟩,q⟩:=q1;subst e;obtain ⟨u,v,rfl,ru,rv'⟩:=Vals.two r1;cases ru;cases rv';obtain ⟨its,rv,pl,hz⟩:=I1.list hq;obtain ⟨its2,rv2,pl2,hz2⟩:=I1.list hr;have lt1:@LT.lt Nat instLTNat l s1.heap.objs.size:=(let ⟨o,e,_⟩:=pl.isList;Heap.lt_size e);have lt2:@LT.lt Nat instLTNat l' s1.heap.objs.size:=(let ⟨o,e,_⟩:=pl2.isList;Heap.lt_size e);refine call_zip_2 pl.isList pl2.isList λh1 a1 a2 a3 a4 a5 a6 hk=>?_
 refine wpAny_pyIter_zip a1 ?_;have I2:Inv X pins σ H1 { s1 with heap:=h1 }:=I1.kept (t':=s1.toks) hk
 refine ⟨s1.heap.objs.size+4,[s1.heap.objs.size+4,s1.heap.objs.size+2,s1.heap.objs.size+3,s1.heap.objs.size,s1.heap.objs.size+1],_,Itz X.K l l',H1,rfl,I2,
  zH l l' (s1.heap.objs.size+4) (s1.heap.objs.size+2) (s1.heap.objs.size+3) s1.heap.objs.size (s1.heap.objs.size+1) ⟨neA (by lia),neA (by lia),neA (by lia),neA (by lia)⟩ ⟨neA (by lia),neA (by lia),neA (by lia)⟩ ⟨neA (by lia),neA (by lia)⟩ (neA (by lia)) ⟨neA (by lia),neA (by lia),neA (by lia),neA (by lia)⟩ ⟨neA (by lia),neA (by lia),neA (by lia),neA (by lia)⟩,⟨a1,a2,⟨_,_,a3⟩,a4,a5⟩,λc hc=>?_,q⟩
 have hc':@LE.le Nat instLENat s1.heap.objs.size c:=by
  have hc2:@Eq Nat c (s1.heap.objs.size+4)\/@Eq Nat c (s1.heap.objs.size+2)\/@Eq Nat c (s1.heap.objs.size+3)\/@Eq Nat c s1.heap.objs.size\/@Eq Nat c (s1.heap.objs.size+1):=by simpa using hc
  lia
 exact I1.fpOk hc' (I1.hok.fresh hc')
mutual
inductive Rep (K:PySem.W.Frag) (H:Hp):V->PyData->Prop
 |non:Rep K H .non .none
 |bl (b:Bool):Rep K H (.bl b) (.bool b)
 |int (i:Int):Rep K H (.int i) (.int i)
 |str (x:Str):Rep K H (.str x) (.str x)
 |lst {a:Addr} {xs:List V} {ds:List PyData}:SqL K H a xs->RepAll K H xs ds->Rep K H (.ref a) (.list ds)
 |tup {a:Addr} {xs:List V} {ds:List PyData}:SqT K H a xs->RepAll K H xs ds->Rep K H (.ref a) (.tuple ds)
inductive RepAll (K:PySem.W.Frag) (H:Hp):List V->List PyData->Prop
 |nil:RepAll K H [] []
 |cons {v:V} {vs:List V} {d:PyData} {ds:List PyData}:Rep K H v d->RepAll K H vs ds->RepAll K H (v :: vs) (d :: ds)
end
theorem GB {K:PySem.W.Frag} {H H':Hp} {a:Addr} {xs:List V} (e:bb H H') (h:SqT K H a xs):SqT K H' a xs:=by
 rcases h with (h | ⟨o,h⟩) | h
 ·exact .inl (.inl (e _ _ h))
 ·exact .inl (.inr ⟨o,e _ _ h⟩)
 ·exact .inr h
mutual
theorem Rep.same {K:PySem.W.Frag} {H H':Hp} (e:bb H H') {v:V} {d:PyData}:Rep K H v d->Rep K H' v d
 |.non=>.non
 |.bl b=>.bl b
 |.int i=>.int i
 |.str x=>.str x
 |.lst h r=>.lst (e.seq h) (RepAll.same e r)
 |.tup h r=>.tup (GB e h) (RepAll.same e r)
theorem RepAll.same {K:PySem.W.Frag} {H H':Hp} (e:bb H H') {vs:List V} {ds:List PyData}:RepAll K H vs ds->RepAll K H' vs ds
 |.nil=>.nil
 |.cons h r=>.cons (Rep.same e h) (RepAll.same e r)
end
mutual
theorem Rep.reads {X:Cx} {pins:List (Addr×Obj)} {σ:St} {H:Hp} {s:Shared} (I:Inv X pins σ H s) {v:V} {d:PyData}:∀{u:Value},Rep X.K H v d->RelV v u->∃as,Reads s.heap u d as
 |_,.non,r=>by
  cases r;exact ⟨_,.none⟩
 |_,.bl b,r=>by
  cases r;exact ⟨_,.bool b⟩
 |_,.int i,r=>by
  obtain ⟨t,rfl⟩:=r;exact ⟨_,.int i t⟩
 |_,.str x,r=>by
  obtain ⟨t,rfl⟩:=r;exact ⟨_,.str x t⟩
 |_,.lst h ra,r=>by
  cases r;obtain ⟨its,rv,pl,hz⟩:=I.list h;obtain ⟨as,ha⟩:=RepAll.reads I ra rv;obtain ⟨o,e,c,n,dd⟩:=pl.isList;exact ⟨_,.list e c dd (by simpa using ha)⟩
 |_,.tup h ra,r=>by
  cases r;obtain ⟨its,rv,pl,hz⟩:=I.tuple h;obtain ⟨as,ha⟩:=RepAll.reads I ra rv;obtain ⟨o,e,c,n,dd⟩:=(show s.heap.IsTuple _ its.toArray from pl)
  exact ⟨_,.tuple e c dd (by simpa using ha)⟩
theorem RepAll.reads {X:Cx} {pins:List (Addr×Obj)} {σ:St} {H:Hp} {s:Shared} (I:Inv X pins σ H s) {vs:List V} {ds:List PyData}:∀{us:List Value},RepAll X.K H vs ds->Vals vs us->∃as,ReadsAll s.heap us ds as
 |_,.nil,.nil=>⟨_,.nil⟩
 |_,.cons h r,.cons q t=>by
  obtain ⟨as,ha⟩:=Rep.reads I h q;obtain ⟨bs,hb⟩:=RepAll.reads I r t;exact ⟨_,.cons ha hb⟩
end
noncomputable def JC (K:PySem.W.Frag):R2:=λx y H Q=>∃d e,Rep K H x d/\Rep K H y e/\SeqAt.shaped d=true/\SeqAt.shaped e=true/\Q (.bl (PyData.eqv d e)) H
noncomputable def JL (K:PySem.W.Frag):R2:=λx y H Q=>∃d e,Rep K H x d/\Rep K H y e/\SeqAt.shaped d=true/\SeqAt.shaped e=true/\Q (.bl (!PyData.eqv d e)) H
theorem Dk {X:Cx} (hu:X.A.units+64<cLine):OpR X (compareOp .Eq) (JC X.K):=by
 intro pins s σ H x y v u Q I rx ry h;obtain ⟨d,e,h1,h2,s1,s2,q⟩:=h;obtain ⟨as,r1⟩:=h1.reads I rx;obtain ⟨bs,r2⟩:=h2.reads I ry;exact eq_dataH r1 r2 s1 s2 hu ⟨.bl _,H,I,rfl,q⟩
theorem Ep {X:Cx} (hu:X.A.units+64<cLine):OpR X (compareOp .NotEq) (JL X.K):=by
 intro pins s σ H x y v u Q I rx ry h;obtain ⟨d,e,h1,h2,s1,s2,q⟩:=h;obtain ⟨as,r1⟩:=h1.reads I rx;obtain ⟨bs,r2⟩:=h2.reads I ry;exact ne_dataH r1 r2 s1 s2 hu ⟨.bl _,H,I,rfl,q⟩
theorem mV:bootBuiltins "isinstance" = some (.builtin "isinstance"):=by decide +kernel
theorem wK {X:Cx} (hc:X.calm=true):fg X (.builtin "max") (λxs H Q=>∃(a:Addr) (ns:List Int),xs=[.ref a]/\SqL X.K H a (ns.map V.int)/\0<ns.length/\∀M,M∈ns->(∀z,z∈ns->z<=M)->Q (.int M) H):=by
 intro pins s σ H xs us Q I r h;obtain ⟨a,ns,rfl,hq,hl,q⟩:=h;obtain ⟨u,rfl,ru⟩:=Vals.one r;cases ru;obtain ⟨its,rv,pl,hz⟩:=I.list hq;have hi:IntsAre its ns:=intsAre_of rv;obtain ⟨ys,e⟩:=hi.allInts.items;have hns:ns=ys.toList.map (·.1):=by
  rw [<-hi.numsOf,<-nums_intItems,<-e]
 have hsz:0<ys.size:=by
  have h3:=hl;rw [hns,Zc,Array.length_toList]at h3;exact h3
 have hL:=pl.isList;rw [e]at hL;refine max_intList (I.ok.hd hc) hL hsz λv h' tk hv hk=>?_
 obtain ⟨t,rfl⟩:=intItems_at hv;obtain ⟨h1,h2⟩:=argBest_gt (numAt ys) (ys.size-1);refine ⟨.int _,H,I.kept hk,⟨t,rfl⟩,q _ ?_ λz hzz=>?_⟩
 ·rw [hns,numAt_eq]
  exact getD_mem (by rw [Zc,Array.length_toList];lia)
 ·rw [hns]at hzz
  obtain ⟨j,hj,rfl⟩:=mem_getD hzz;rw [Zc,Array.length_toList]at hj;rw [<-numAt_eq];exact h2 j (by lia)
theorem xj {X:Cx} (hc:X.calm=true):fg X (.builtin "min") (λxs H Q=>∃(a:Addr) (ns:List Int),xs=[.ref a]/\SqL X.K H a (ns.map V.int)/\0<ns.length/\∀M,M∈ns->(∀z,z∈ns->M<=z)->Q (.int M) H):=by
 intro pins s σ H xs us Q I r h;obtain ⟨a,ns,rfl,hq,hl,q⟩:=h;obtain ⟨u,rfl,ru⟩:=Vals.one r;cases ru;obtain ⟨its,rv,pl,hz⟩:=I.list hq;have hi:IntsAre its ns:=intsAre_of rv;obtain ⟨ys,e⟩:=hi.allInts.items;have hns:ns=ys.toList.map (·.1):=by
  rw [<-hi.numsOf,<-nums_intItems,<-e]
 have hsz:0<ys.size:=by
  have h3:=hl;rw [hns,Zc,Array.length_toList]at h3;exact h3
 have hL:=pl.isList;rw [e]at hL;refine min_intList (I.ok.hd hc) hL hsz λv h' tk hv hk=>?_
 obtain ⟨t,rfl⟩:=intItems_at hv;obtain ⟨h1,h2⟩:=argBest_lt (numAt ys) (ys.size-1);refine ⟨.int _,H,I.kept hk,⟨t,rfl⟩,q _ ?_ λz hzz=>?_⟩
 ·rw [hns,numAt_eq]
  exact getD_mem (by rw [Zc,Array.length_toList];lia)
 ·rw [hns]at hzz
  obtain ⟨j,hj,rfl⟩:=mem_getD hzz;rw [Zc,Array.length_toList]at hj;rw [<-numAt_eq];exact h2 j (by lia)
theorem wQ {X:Cx} (hc:X.calm=true):fg X (.builtin "sum") (λxs H Q=>∃(a:Addr) (ns:List Int),xs=[.ref a]/\SqL X.K H a (ns.map V.int)/\Q (.int ns.sum) H):=by
 intro pins s σ H xs us Q I r h;obtain ⟨a,ns,rfl,hq,q⟩:=h;obtain ⟨u,rfl,ru⟩:=Vals.one r;cases ru;obtain ⟨its,rv,pl,hz⟩:=I.list hq;have hi:IntsAre its ns:=intsAre_of rv;obtain ⟨ys,e⟩:=hi.allInts.items;have hns:ns=ys.toList.map (·.1):=by
  rw [<-hi.numsOf,<-nums_intItems,<-e]
 have hL:=pl.isList;rw [e]at hL;refine sum_intListG (I.ok.hd hc) hL λh' tk t' hk=>?_
 refine ⟨.int _,H,I.kept hk,⟨t',?_⟩,q⟩;rw [preSum_eq,List.take_of_length_le (by simp),hns]
theorem yL {X:Cx}:MtR X "list.index" (λx vs H Q=>∃(a:Addr) (ns:List Int) (z:Int),x=.ref a/\vs=[.int z]/\SqL X.K H a (ns.map V.int)/\z∈ns/\Q (.int (ns.idxOf z:Nat)) H):=by
 intro pins s σ H x vs v us Q I rx rv h;obtain ⟨a,ns,z,rfl,rfl,hq,hm,q⟩:=h;cases rx;obtain ⟨u,rfl,t,rfl⟩:=Vals.one rv;obtain ⟨its,rs,pl,hz⟩:=I.list hq;have hi:IntsAre its ns:=intsAre_of rs;obtain ⟨⟨cls,dd,data,sl⟩,ho,hc,n,hd⟩:=pl.isList;simp only at hc hd;subst hc hd;have hlen:=hi.length;have hj:ns.idxOf z<ns.length:=List.idxOf_lt_length_iff.mpr hm;have hn:=kn;have hb:ns.length<=sizeLine:=by simpa using hz
 refine call_meets PySem.F.slot_list_index ⟨_,ho,rfl⟩ PySem.F.entry_list_index (PySem.F.args_list_index_2 _ _)
  (SeqAt.list_indexAt a its.toArray n dd sl (.int z t) (isInt z) (ns.idxOf z) (by simpa [hlen]using hj) (by lia) ?_ ?_) ⟨ho,λy hy=>(eq_isInt z t hi y (by simpa using hy)).at _ _,⟨.int _,H,I.tok _,⟨_,rfl⟩,q⟩⟩
 ·show isInt z its[ns.idxOf z]=true
  rw [isInt_at z hi _ (by lia) hj]
  simpa using List.getElem_idxOf hj
 ·intro j hjs hlt
  show isInt z its[j]=false
  rw [isInt_at z hi j (by simpa using hjs) (by lia)]
  exact ne_of_lt_idxOf hlt _
section
variable {g:TG} {tc:TT} {te:TE} {σ0:St} {D:Addr} {H1:Hp} {Q:Hp->Prop}
end
structure Def (K:PySem.W.Frag) (mg:Str->Option Value) (x:Str) (st:Stmt) (ps:List Str) (f:Addr) (fd:FuncData):Prop where
 F:Fun K x x st f fd
 g:mg x=some (.ref f)
 b:Binds K fd ps []
theorem bb.upd {H H':Hp} {a:Addr} {o:HO} (e:bb H H') (h:H a=none):bb H (L2.upd H' a o):=λb u q=>by
 rw [aM (bG q h)];exact e b u q
section
variable {X:Cx}
theorem zP (K:PySem.W.Frag) (h:X.K=K):IxR X (wA K):=by
 subst h;exact vw
noncomputable def IT (K:PySem.W.Frag):List V->Hp->VK->Prop:=λxs H Q=>∃p ys,xs=[.ref p]/\(SqL K H p ys\/SqT K H p ys)/\∀l,H l=none->Q (.ref l) (upd H l (.lst ys))
theorem g_ (K:PySem.W.Frag) (h:X.K=K):fg X (.type "list") (IT K):=by
 subst h;exact rJ
noncomputable def Cy (K:PySem.W.Frag):List V->Hp->VK->Prop:=λxs H Q=>∃(a:Addr) (ns:List Int),xs=[.ref a]/\SqL K H a (ns.map V.int)/\0<ns.length/\∀M,M∈ns->(∀z,z∈ns->z<=M)->Q (.int M) H
theorem xt (K:PySem.W.Frag) (h:X.K=K) (hc:X.calm=true):fg X (.builtin "max") (Cy K):=by
 subst h;exact wK hc
noncomputable def Ck (K:PySem.W.Frag):List V->Hp->VK->Prop:=λxs H Q=>∃(a:Addr) (ns:List Int),xs=[.ref a]/\SqL K H a (ns.map V.int)/\0<ns.length/\∀M,M∈ns->(∀z,z∈ns->M<=z)->Q (.int M) H
theorem pN (K:PySem.W.Frag) (h:X.K=K) (hc:X.calm=true):fg X (.builtin "min") (Ck K):=by
 subst h;exact xj hc
noncomputable def Cp (K:PySem.W.Frag):List V->Hp->VK->Prop:=λxs H Q=>∃(a:Addr) (ns:List Int),xs=[.ref a]/\SqL K H a (ns.map V.int)/\Q (.int ns.sum) H
theorem eT (K:PySem.W.Frag) (h:X.K=K) (hc:X.calm=true):fg X (.builtin "sum") (Cp K):=by
 subst h;exact wQ hc
end
end L2
namespace L2
open PySem PySem.Spec PyProof.Rows
section
variable {κ:Type} [DecidableEq κ]
noncomputable def nQ (kvs:List (κ×V)) (k:κ):Option V:=(kvs.find? λkv=>decide (kv.1=k)).map (·.2)
noncomputable def putK (kvs:List (κ×V)) (k:κ) (v:V):List (κ×V) :=
 if (kvs.any λkv=>decide (kv.1=k))=true then kvs.map (λkv=>if kv.1=k then (kv.1,v) else kv) else kvs++[(k,v)]
theorem lP {p:κ×V} {r:List (κ×V)} {k:κ} (e:p.1=k):nQ (p :: r) k=some p.2:=by simp [nQ,List.find?_cons,e]
theorem l5 {p:κ×V} {r:List (κ×V)} {k:κ} (e:¬p.1=k):nQ (p :: r) k=nQ r k:=by simp [nQ,List.find?_cons,e]
theorem tR (k:κ):∀kvs:List (κ×V),(kvs.any λkv=>decide (kv.1=k))=(nQ kvs k).isSome
 |[]=>rfl
 |p :: r=>by
  rw [List.any_cons];by_cases e:p.1=k
  ·simp only [lP e,decide_eq_true e,Bool.true_or,Option.isSome_some]
  ·rw [l5 e,decide_eq_false e,Bool.false_or];exact tR k r
theorem kR (kvs:List (κ×V)) (k:κ) (v:V):(putK kvs k v).length<=kvs.length+1:=by
 unfold putK;split
 ·rw [Zc];lia
 ·rw [Zd,Zr,List.length_nil];lia
theorem pH.isSome_eq {o:Option V} {u:Option Value} (r:pH o u):o.isSome=u.isSome:=by
 cases o with
 |none=>cases u with
  |none=>rfl
  |some _=>exact (show False from r).elim
 |some _=>cases u with
  |none=>exact (show False from r).elim
  |some _=>rfl
theorem KV.val {kvs:List (κ×V)} {vs:List (κ×Value)} (r:KV kvs vs) (k:κ):pH (nQ kvs k) (valueAt vs k):=by
 unfold KV at r
 induction r with
 |nil=>exact True.intro
 |@cons p q ps qs h t ih =>
  obtain ⟨h1,h2⟩:=h;by_cases e:p.1=k
  ·have e':q.1=k:=h1.symm.trans e
   have b:valueAt (q :: qs) k=some q.2:=by simp [valueAt,List.find?_cons,e']
   rw [lP e,b];exact h2
  ·have e':¬q.1=k:=λz=>e (h1.trans z)
   have b:valueAt (q :: qs) k=valueAt qs k:=by simp [valueAt,List.find?_cons,e']
   rw [l5 e,b];exact ih
theorem KV.any {kvs:List (κ×V)} {vs:List (κ×Value)} (r:KV kvs vs) (k:κ):(kvs.any λkv=>decide (kv.1=k))=vs.any λkv=>decide (kv.1=k):=by
 unfold KV at r
 induction r with
 |nil=>rfl
 |cons h t ih=>rw [List.any_cons,List.any_cons,ih,h.1]
theorem KV.repl {kvs:List (κ×V)} {vs:List (κ×Value)} (r:KV kvs vs) (k:κ) {y:V} {u:Value} (ry:RelV y u) :
  KV (kvs.map λkv=>if kv.1=k then (kv.1,y) else kv) (vs.map λkv=>if kv.1=k then (kv.1,u) else kv):=by
 unfold KV at r ⊢
 induction r with
 |nil=>exact .nil
 |@cons p q ps qs h t ih =>
  rw [Zk,Zk];refine .cons ?_ ih;obtain ⟨h1,h2⟩:=h;by_cases e:p.1=k
  ·rw [if_pos e,if_pos (h1.symm.trans e)];exact ⟨h1,ry⟩
  ·rw [if_neg e,if_neg (λz=>e (h1.trans z))];exact ⟨h1,h2⟩
theorem KV.put {kvs:List (κ×V)} {vs:List (κ×Value)} (r:KV kvs vs) (k:κ) {y:V} {u:Value} (ry:RelV y u):KV (putK kvs k y) (stored vs k u):=by
 unfold putK stored;rw [r.any k];by_cases e:(vs.any λkv=>decide (kv.1=k))=true
 ·rw [if_pos e,if_pos e];exact r.repl k ry
 ·rw [if_neg e,if_neg e];exact Paired.snoc r ⟨rfl,ry⟩
theorem KV.length {kvs:List (κ×V)} {vs:List (κ×Value)} (r:KV kvs vs):kvs.length=vs.length:=Paired.length r
end
theorem vJ {P:Program} {w:World} {k:Key} {u:Value} (r:RelV (kV k) u):(eP P w).is k u=true:=by
 cases k with
 |inl i=>obtain ⟨t,e⟩:=(show ∃t,u=Value.int i t from r);subst e;exact sQ P w i t
 |inr x=>obtain ⟨t,e⟩:=(show ∃t,u=Value.str x t from r);subst e;exact sZ P w x t
theorem pP {P:Program} {w:World}:∀{ks:List Key} {us:List Value},Vals (ks.map kV) us->ItemsAre (eP P w) ks us
 |[],_,r=>by rw [List.map_nil]at r;cases r;exact .nil
 |k :: ks,_,r=>by
  rw [Zk]at r;cases r with
  |cons h t=>exact .cons (vJ h) (pP t)
noncomputable abbrev KT (H:Hp):List (List Key×V)->List (List Key×Addr×Value)->Prop:=Paired λp q=>p.1=q.1/\H q.2.1=some (.tup (p.1.map kV))/\RelV p.2 q.2.2
theorem KT.val {H:Hp} {kvs:List (List Key×V)} {xs:List (List Key×Addr×Value)} (r:KT H kvs xs) (k:List Key):pH (nQ kvs k) ((atKey xs k).map (·.2)):=by
 induction r with
 |nil=>exact True.intro
 |@cons p q ps qs h t ih =>
  obtain ⟨h1,_,h2⟩:=h;by_cases e:p.1=k
  ·have e':q.1=k:=h1.symm.trans e
   have b:atKey (q :: qs) k=some q.2:=by simp [atKey,List.find?_cons,e']
   rw [lP e,b];exact h2
  ·have e':¬q.1=k:=λz=>e (h1.trans z)
   have b:atKey (q :: qs) k=atKey qs k:=by simp [atKey,List.find?_cons,e']
   rw [l5 e,b];exact ih
theorem KT.repl {H:Hp} {kvs:List (List Key×V)} {xs:List (List Key×Addr×Value)} (r:KT H kvs xs) (k:List Key) {y:V} {u:Value} (ry:RelV y u) :
  KT H (kvs.map λkv=>if kv.1=k then (kv.1,y) else kv) (xs.map (putAt k u)):=by
 induction r with
 |nil=>exact .nil
 |@cons p q ps qs h t ih =>
  rw [Zk,Zk];refine .cons ?_ ih;obtain ⟨h1,h2,h3⟩:=h;unfold putAt;by_cases e:p.1=k
  ·rw [if_pos e,if_pos (h1.symm.trans e)];exact ⟨h1,h2,ry⟩
  ·rw [if_neg e,if_neg (λz=>e (h1.trans z))];exact ⟨h1,h2,h3⟩
theorem KT.put {H:Hp} {kvs:List (List Key×V)} {xs:List (List Key×Addr×Value)} (r:KT H kvs xs) (k:List Key) {b:Addr} {y:V} {u:Value} (hb:H b=some (.tup (k.map kV))) (ry:RelV y u) :
  KT H (putK kvs k y) (storedH xs k b u):=by
 have e:(kvs.any λkv=>decide (kv.1=k))=(atKey xs k).isSome:=by
  rw [tR,(r.val k).isSome_eq,Option.isSome_map]
 unfold putK storedH;rw [e];by_cases q:(atKey xs k).isSome=true
 ·rw [if_pos q,if_pos q];exact r.repl k ry
 ·rw [if_neg q,if_neg q];exact Paired.snoc r ⟨rfl,hb,ry⟩
theorem KT.keeps {H H':Hp} {kvs:List (List Key×V)} {xs:List (List Key×Addr×Value)} (r:KT H kvs xs) (ht:∀b ys,H b=some (.tup ys)->H' b=some (.tup ys)):KT H' kvs xs :=
 Paired.mapP r λ_ _ z=>⟨z.1,ht _ _ z.2.1,z.2.2⟩
section
variable {P:Program} {w:World} {H:Hp} {h:Heap} {a:Addr}
theorem CB {u:HO} (ok:HOk P w H h) (e:Rd H a u):eY P w H h a u:=e.ok ok
theorem yq {kvs:List (Key×V)} (ok:HOk P w H h) (e:Rd H a (.dK kvs)):kvs.length<=sizeLine/\(a == sysModules)=false/\∃vs,KV kvs vs/\h.DictOf (eP P w) a vs :=
 show eY P w H h a (.dK kvs) from CB ok e
theorem Cn {kvs:List (Key×V)} (ok:HOk P w H h) (e:H a=some (.dK kvs)):kvs.length<=sizeLine/\(a == sysModules)=false/\∃vs,KV kvs vs/\h.DictOf (eP P w) a vs:=yq ok (.inl e)
theorem lz {ks:List Key} (ok:HOk P w H h) (e:H a=some (.tup (ks.map kV))):(tupleKind (eP P w)).is h ks a:=by
 obtain ⟨_,its,r,o,h1,h2,n,h3⟩:=(show eY P w H h a (.tup (ks.map kV)) from ok a _ e)
 exact ⟨o,its.toArray,n,h1,h2,h3,by simpa using pP r⟩
theorem xD {kvs:List (List Key×V)} (ok:HOk P w H h) (e:Rd H a (.dT kvs)):kvs.length<=sizeLine/\(a == sysModules)=false /\
  ∃xs,KT H kvs xs/\h.DictOfH (tupleKind (eP P w)) a xs:=by
 obtain ⟨z,y,xs,r,o,es,ep,h1,h2,h3,h4,h5⟩:=(show eY P w H h a (.dT kvs) from CB ok e)
 refine ⟨z,y,xs,r,o,es,ep,h1,h2,h3,h4,λx hx=>?_,h5⟩
 have all:∀{l:List (List Key×V)} {m:List (List Key×Addr×Value)},KT H l m->∀x∈m,(tupleKind (eP P w)).is h x.1 x.2.1:=by
  intro l m q
  induction q with
  |nil=>intro x hx;exact nomatch hx
  |@cons p q ps qs hq t ih =>
   intro x hx;rcases Zo.mp hx with e | hx
   ·subst e
    exact lz ok (by rw [<-hq.1];exact hq.2.1)
   ·exact ih x hx
 exact all r x hx
theorem Ik {kvs:List (List Key×V)} (ok:HOk P w H h) (e:H a=some (.dT kvs)):kvs.length<=sizeLine/\(a == sysModules)=false /\
  ∃xs,KT H kvs xs/\h.DictOfH (tupleKind (eP P w)) a xs:=xD ok (.inl e)
end
noncomputable def AZ (H:Hp) (a:Addr) (y:V) (r:Option V):Prop :=
 (∃kvs k,Rd H a (.dK kvs)/\y=kV k/\r=nQ kvs k)\/∃kvs k b,Rd H a (.dT kvs)/\y=.ref b/\H b=some (.tup (k.map kV))/\r=nQ kvs k
noncomputable def GI (H:Hp) (a:Addr) (y v:V) (H':Hp):Prop :=
 (∃kvs k,H a=some (.dK kvs)/\y=kV k/\kvs.length<sizeLine/\H'=upd H a (.dK (putK kvs k v))) \/
 ∃kvs k b,H a=some (.dT kvs)/\y=.ref b/\H b=some (.tup (k.map kV))/\kvs.length<sizeLine/\H'=upd H a (.dT (putK kvs k v))
section
variable {X:Cx} {pins:List (Addr×Obj)} {σ:St} {H:Hp} {s:Shared} {a:Addr} {y v:V} {u r:Value} {o:Option V} {A:Around} {E:Value->Shared->Prop}
theorem Inv.big (I:Inv X pins σ H s):sysModules<s.heap.objs.size:=by
 have h:mainGlobals<s.heap.objs.size:=(I.mod.glob.keeps I.bk).lt;exact Nat.lt_trans (by decide) h
theorem xo {Q:Value->Shared->Prop} (hu:A.units+1<cLine) (I:Inv X pins σ H s) (g:AZ H a y (some v)) (ry:RelV y u) (h:∀w' s',Inv X pins σ H s'->RelV v w'->Q w' s') :
  wpAny (model X.prog X.w) A (getItem (.ref a) u) Q E s:=by
 rcases g with ⟨kvs,k,e,ey,l⟩ | ⟨kvs,k,b,e,ey,eb,l⟩
 ·subst ey
  obtain ⟨z,hd,vs,rel,dd⟩:=yq I.hok e;obtain ⟨w',hw,rw'⟩:=pH.some_of (v:=v) (o:=valueAt vs k) (by rw [l];exact rel.val k)
  exact wpAny_getItem_of (vJ ry) dd.mapOf hw (h w' _ (I.tok _) rw')
 ·subst ey
  cases (show u=Value.ref b from ry)
  obtain ⟨z,hd,xs,rel,dd⟩:=xD I.hok e;obtain ⟨w',hw,rw'⟩:=pH.some_of (v:=v) (o:=(atKey xs k).map (·.2)) (by rw [l];exact rel.val k)
  obtain ⟨p,hp,hp2⟩:=Zp.mp hw;refine wpAny_getItem_heap (tupleKind_room_in1 hu) (lz I.hok eb) dd hp ?_;rw [hp2];exact h w' _ (I.tok _) rw'
theorem rF {h':Heap} {t':Nat} {ob:HO} (I:Inv X pins σ H s) (mu:Mut (H a)) (hs:Heap.SameBut a s.heap h') (he:∃q,h'.get? a=some q) (new:eY X.prog X.w (upd H a ob) h' a ob) :
  Inv X pins σ (upd H a ob) { s with heap:=h',toks:=t' } :=
 I.write (x:=a) (e:=a) mu (.inl rfl) (λb q hb z=>(hs.2 b hb).trans z) he new
theorem zy {P:Program} {w:World} {H':Hp} {h':Heap} {kvs:List (Key×V)} {vs:List (Key×Value)} (z:kvs.length<=sizeLine) (hd:(a == sysModules)=false) (rel:KV kvs vs) (dd:h'.DictOf (eP P w) a vs) :
  eY P w H' h' a (.dK kvs):=⟨z,hd,vs,rel,dd⟩
theorem wL {H':Hp} {Q:Unit->Shared->Prop} (hu:A.units+1<cLine) (I:Inv X pins σ H s) (g:GI H a y v H') (ry:RelV y u) (rv:RelV v r) (h:∀s',Inv X pins σ H' s'->Q () s') :
  wpAny (model X.prog X.w) A (setItem (.ref a) u r) Q E s:=by
 rcases g with ⟨kvs,k,e,ey,l,eH⟩ | ⟨kvs,k,b,e,ey,eb,l,eH⟩
 ·subst ey eH
  obtain ⟨z,hd,vs,rel,dd⟩:=Cn I.hok e;have hz:vs.length<=sizeLine:=by rw [<-rel.length];exact z
  have hl:(putK kvs k v).length<=sizeLine:=by have:=kR kvs k v;lia
  refine wpAny_setItem_pairs (hsz:=hz) (vJ ry) dd λh' dd' hs=>h _ ?_
  have he:∃q,h'.get? a=some q:=let ⟨q,_,_,hq,_⟩:=dd';⟨q,hq⟩;exact rF I (by rw [e];exact True.intro) hs he (zy hl hd (rel.put k rv) dd')
 ·subst ey eH
  cases (show u=Value.ref b from ry)
  obtain ⟨z,hd,xs,rel,dd⟩:=Ik I.hok e;have hz:xs.length<=sizeLine:=by rw [<-Paired.length rel];exact z
  have hl:(putK kvs k v).length<=sizeLine:=by have:=kR kvs k v;lia
  refine wpAny_setItem_heap (hsz:=hz) (tupleKind_room_in1 hu) (lz I.hok eb) dd λh' dd' hs=>h _ ?_
  obtain ⟨q,es,ep,hq,h2,h3,h4,_,h5⟩:=dd';refine rF I (by rw [e];exact True.intro) hs ⟨q,hq⟩ ⟨hl,hd,_,(rel.put k eb rv).keeps λc ys ec=>?_,q,es,ep,hq,h2,h3,h4,h5⟩
  rw [aM (Jp ec e (λz=>nomatch z))]
  exact ec
end
section
variable {X:Cx} {pins:List (Addr×Obj)} {σ:St} {H:Hp} {s:Shared} {a:Addr} {kvs:List (Key×V)} {k:Key} {u:Value} {A:Around} {E:Value->Shared->Prop}
end
noncomputable def Fh (i:Expr):Prop:=∀ov iv,subscripted i false ov iv=operate [ov,iv] (getItem ov iv)
theorem Bu {prog:Program} {w:World} {A:Around} {E:Value->Shared->Prop} {s:Shared} {env:Env} {value slice:Expr} {pos:Pos} {T id:String} {Q:Value->Shared->Prop}
  (hl:typeLookup (.type T) "__getitem__" = pure (some (.builtin id))) (hs:Fh slice)
  (h:wpAny (model prog w) A (eval value env) (λo s₁=>wpAny (model prog w) A (eval slice env) (λi s₂=>s₂.TypeIs o T/\wpAny (model prog w) A (getItem o i) Q E s₂) E s₁) E s) :
  wpAny (model prog w) A (eval (.Subscript value slice pos) env) Q E s:=by
 refine Subscript_ (wpAny_mono h (λo s₁ h₁=>wpAny_mono h₁ (λi s₂ h₂=>?_) λ_ _ x=>x) λ_ _ x=>x)
 obtain ⟨hT,h₂⟩:=h₂;unfold subscriptTail;refine wpAny_bind ?_;rw [getitemInPython_of_ne hT.not_modules];refine wpAny_bind (wpAny_specialOf hT hl ?_);have fin:wpAny (model prog w) A (subscripted slice false o i) (λr s₃=>wpAny (model prog w) A (letTemporaryGo value o r >>= λ_=>pure r) Q E s₃) E s₂:=by
  rw [hs o i];exact wpAny_operating (wpAny_mono h₂ (λr s₃ h₃=>wpAny_bind (wpAny_letTemporaryGo (wpAny_pure h₃))) λ_ _ x=>x)
 first
  |exact wpAny_pure (wpAny_bind fin)
  |exact wpAny_bind (wpAny_pure (wpAny_bind fin))
  |exact wpAny_bind fin
theorem t_ {X:Cx} {pins:List (Addr×Obj)} {σ:St} {H:Hp} {s:Shared} {a:Addr} {y:V} {o:Option V} (I:Inv X pins σ H s) (g:AZ H a y o):s.TypeIs (.ref a) "dict" := by
 rcases g with ⟨kvs,k,e,_,_⟩ | ⟨kvs,k,b,e,_,_,_⟩
 ·obtain ⟨_,_,vs,_,dd⟩:=yq I.hok e
  exact dd.typeIs
 ·obtain ⟨_,_,xs,_,dd⟩:=xD I.hok e
  exact dd.typeIs
noncomputable def Hr (td ty:TE):TE:=fun σ H Q=>td σ H λx H1=>ty σ H1 λy H2=>∃a v,x=.ref a/\AZ H2 a y (some v)/\Q v H2
noncomputable def BY (td ty tv:TE):TS:=λD σ H=>tv σ H λv H1=>td σ H1 λx H2=>ty σ H2 λy H3=>∃a H4,x=.ref a/\GI H3 a y v H4/\D.nx σ H4
section
variable {X:Cx} {o i e value:Expr} {pos pos' tpos:Pos} {td ty tv:TE}
theorem Aj (hu:X.A.units+1<cLine) (ho:PE X o td) (hi:PE X i ty) (hs:Fh i):PE X (.Subscript o i pos) (Hr td ty):=by
 intro pins s σ H Q I h;refine Bu PySem.F.slot_dict_getitem.lookup hs (thn (ho pins s σ H _ I h) λu s1 ⟨x,H1,I1,rx,q1⟩=>thn (hi pins s1 σ H1 _ I1 q1) λiv s2 ⟨y,H2,I2,ry,a,v,ex,g,q2⟩=>?_)
 subst ex;obtain rfl:u=Value.ref a:=rx;exact ⟨t_ I2 g,xo hu I2 g ry λw' s3 I3 rw'=>⟨v,H2,I3,rw',q2⟩⟩
theorem Bx (hu:X.A.units+1<cLine) (ho:PE X o td) (hi:PE X i ty) (hv:PE X value tv) (hs:swapsWith value (some (.Subscript o i pos')) pos.line X.env=pure false) :
  PS X (.Assign [.Subscript o i pos'] value pos) (BY td ty tv):=by
 intro pins s σ H D I h;refine wpAny_Assign_Subscript (thn (hv pins s σ H _ I h) λr s1 ⟨v,H1,I1,rv,q1⟩=>thn (ho pins s1 σ H1 _ I1 q1) λu s2 ⟨x,H2,I2,rx,q2⟩=>thn (hi pins s2 σ H2 _ I2 q2) λiv s3 ⟨y,H3,I3,ry,a,H4,ex,g,q3⟩=>?_) hs
 subst ex;obtain rfl:u=Value.ref a:=rx;exact wL hu I3 g ry rv λs4 I4=>⟨σ,H4,I4,q3⟩
end
theorem zu {P:Program} {w:World} {H:Hp} (h:Heap) (hb:sysModules<h.objs.size):eY P w H (h.push { cls:=.type "dict",data:=.dict #[] }) h.objs.size (.dK []) :=
 ⟨Nat.zero_le _,beq_eq_false_iff_ne.mpr (Ne.symm (Nat.ne_of_lt hb)),[],.nil,Heap.DictOf.new h⟩
section
variable {X:Cx} {pos:Pos}
end
noncomputable def uK:List (TE×TE)->St->Hp->(List (V×V)->Hp->Prop)->Prop
 |[],_,H,Q=>Q [] H
 | (tk,tv) :: r,σ,H,Q=>tk σ H λx H1=>tv σ H1 λy H2=>uK r σ H2 λps H3=>Q ((x,y) :: ps) H3
noncomputable abbrev VV:List (V×V)->List (Value×Value)->Prop:=Paired λp q=>RelV p.1 q.1/\RelV p.2 q.2
noncomputable def PPs (X:Cx) (pos:Pos) (keys:List (Option Expr)) (values:List Expr) (trs:List (TE×TE)):Prop :=
 ∀(pins:List (Addr×Obj)) (s:Shared) (σ:St) (H:Hp) (Q:List (V×V)->Hp->Prop),Inv X pins σ H s->uK trs σ H Q ->
  wpAny (model X.prog X.w) X.A (evalPairs (pairTrees keys values X.env pos)) (λvs s'=>∃ps H',Inv X pins σ H' s'/\VV ps vs/\Q ps H') X.xe s
theorem Av {X:Cx} {pos:Pos}:PPs X pos [] [] []:=λpins s σ H Q I h=>pairTrees_nil_walk ⟨[],H,I,.nil,h⟩
theorem zW {X:Cx} {pos:Pos} {k v:Expr} {ks:List (Option Expr)} {vs:List Expr} {tk tv:TE} {trs:List (TE×TE)} (hk:PE X k tk) (hv:PE X v tv) (hr:PPs X pos ks vs trs) :
  PPs X pos (some k :: ks) (v :: vs) ((tk,tv) :: trs):=λpins s σ H Q I h =>
 pairTrees_cons_walk (thn (hk pins s σ H _ I h) λu s1 ⟨x,H1,I1,rx,q1⟩=>thn (hv pins s1 σ H1 _ I1 q1) λw2 s2 ⟨y,H2,I2,ry,q2⟩ =>
  thn (hr pins s2 σ H2 _ I2 q2) λws s3 ⟨ps,H3,I3,rel,q3⟩=>⟨(x,y) :: ps,H3,I3,.cons ⟨rx,ry⟩ rel,q3⟩)
noncomputable def mS (kvs more:List (Key×V)):List (Key×V):=more.foldl (λacc kv=>putK acc kv.1 kv.2) kvs
theorem KV.merge:∀{more:List (Key×V)} {rs:List (Key×Value)} {kvs:List (Key×V)} {vs:List (Key×Value)},KV more rs->KV kvs vs->KV (mS kvs more) (merged vs rs):=by
 intro more rs kvs vs r;unfold KV at r
 induction r generalizing kvs vs with
 |nil=>intro q;exact q
 |@cons p q ps qs h t ih =>
  intro r0;have e:KV (putK kvs p.1 p.2) (stored vs q.1 q.2):=by
   have:=r0.put p.1 h.2;rw [<-h.1];exact this
  exact ih e
theorem lq:∀(more kvs:List (Key×V)),(mS kvs more).length<=kvs.length+more.length
 |[],kvs=>by show kvs.length<=kvs.length+0;lia
 |p :: r,kvs=>by
  have h1:=lq r (putK kvs p.1 p.2);have h2:=kR kvs p.1 p.2;show (mS (putK kvs p.1 p.2) r).length<=_
  rw [Zr];lia
theorem o7 {P:Program} {w:World}:∀{kvs:List (Key×V)} {ws:List (Value×Value)},VV (kvs.map λkv=>(kV kv.1,kv.2)) ws->∃rs,Carries (eP P w) ws rs/\KV kvs rs
 |[],_,r=>by rw [List.map_nil]at r;cases r;exact ⟨[],True.intro,.nil⟩
 |p :: kvs,_,r=>by
  rw [Zk]at r;cases r with
  |@cons a b as bs h t =>
   obtain ⟨rs,c,q⟩:=o7 (P:=P) (w:=w) t;obtain ⟨b1,b2⟩:=b;exact ⟨(p.1,b2) :: rs,⟨vJ h.1,rfl,c⟩,.cons ⟨rfl,h.2⟩ q⟩
noncomputable def Cz (trs:List (TE×TE)):TE:=fun σ H Q=>∀p,H p=none->uK trs σ (upd H p (.dK [])) λps H2=>H2 p=some (.dK [])/\∃kvs:List (Key×V),ps=kvs.map (λkv=>(kV kv.1,kv.2))/\kvs.length<=15/\Q (.ref p) (upd H2 p (.dK (mS [] kvs)))
theorem BF {X:Cx} {pos:Pos} {keys:List (Option Expr)} {values:List Expr} {trs:List (TE×TE)} (h:PPs X pos keys values trs) (hall:keys.all (·.isSome)=true) (hl:keys.length=values.length) (h0:keys≠[])
  (h15:keys.length<=15):PE X (.Dict keys values pos) (Cz trs):=by
 intro pins s σ H Q I q;have hn:=I.hok.fresh (Zn s.heap.objs.size);have I1:=I.laid (a:=s.heap.objs.size) (o:=.dK []) (h':=s.heap.push { cls:=.type "dict",data:=.dict #[] }) (t':=s.toks) (λ_ _ q=>Heap.get?_push_of_some _ q) (Zn _) (zu s.heap I.big)
 refine wpAny_Dict_walk (knd:=eP X.prog X.w) hall hl h0 h15 (thn (h pins _ σ _ _ I1 (q _ hn)) λws s2 ⟨ps,H2,I2,rel,e,kvs,ep,lk,q2⟩=>?_)
 subst ep;obtain ⟨rs,c,rk⟩:=o7 (P:=X.prog) (w:=X.w) rel;obtain ⟨z,hd,vs0,r0,dd⟩:=Cn I2.hok e;cases r0;refine ⟨rs,c,dd,λh' dd' hs=>⟨.ref s.heap.objs.size,_,?_,rfl,q2⟩⟩
 have hz:(mS [] kvs).length<=sizeLine:=by
  have h1:=lq kvs [];rw [List.length_nil]at h1;rw [sizeLine_eq];lia
 have he:∃q,h'.get? s.heap.objs.size=some q:=let ⟨q,_,_,hq,_⟩:=dd';⟨q,hq⟩;exact rF I2 (by rw [e];exact True.intro) hs he (zy hz hd (rk.merge .nil) dd')
end L2
namespace L3
open PySem L2 PySem.Spec PyProof.Rows
noncomputable abbrev St:=L2.St
noncomputable def RdK (K:PySem.W.Frag) (H:Hp) (a:Addr) (xs:List V):Prop :=
 Rd H a (.lst xs)\/∃(its:Array Value) (n:Nat),K.lookup a=some { cls:=.type "list",data:=.seq its n }/\its.size<=sizeLine/\Vals xs its.toList
theorem RdK.of {K:PySem.W.Frag} {H:Hp} {a:Addr} {xs:List V} (h:H a=some (.lst xs)):RdK K H a xs:=.inl (.inl h)
theorem RdK.sq {K:PySem.W.Frag} {H:Hp} {a:Addr} {xs:List V} (h:RdK K H a xs):SqL K H a xs:=by
 rcases h with h | ⟨its,n,hk,hz,r⟩
 ·exact .inl h
 ·exact .inr ⟨_,its,n,hk,rfl,rfl,rfl,hz,r⟩
theorem RdK.same {K:PySem.W.Frag} {H H':Hp} (e:bb H H') {a:Addr} {xs:List V} (h:RdK K H a xs):RdK K H' a xs:=by
 rcases h with (h | ⟨o,h⟩) | h
 ·exact .inl (.inl (e _ _ h))
 ·exact .inl (.inr ⟨o,e _ _ h⟩)
 ·exact .inr h
theorem RdK.obj {X:Cx} {pins:List (Addr×Obj)} {σ:St} {H:Hp} {s:Shared} {a:Addr} {xs:List V} (I:Inv X pins σ H s) (h:RdK X.K H a xs) :
  xs.length<=sizeLine/\∃(its:List Value) (n:Nat),Vals xs its/\xs.length=its.length/\s.heap.get? a=some { cls:=.type "list",data:=.seq its.toArray n }:=by
 rcases h with h | ⟨its,n,hk,hz,r⟩
 ·obtain ⟨z,its,n,r,e⟩:=h.ok I.hok
  exact ⟨z,its,n,r,r.length,e⟩
 ·have e:=r.length
  have e':=e;simp only [Array.length_toList]at e';exact ⟨by lia,its.toList,n,r,e,by simpa using I.kIn a _ hk⟩
end L3
namespace L3
open PySem L2
inductive OD where
 |sh (d:PyData)
 |ol (xs:List OD)
 |ot (xs:List OD)
 |od (kvs:List (Key×PyData))
noncomputable def kD:Key->PyData
 |.inl i=>.int i
 |.inr x=>.str x
noncomputable def dD (kvs:List (Key×PyData)):PyData:=.dict (kvs.map λp=>(kD p.1,p.2))
mutual
noncomputable def OD.er:OD->PyData
 |.sh d=>d
 |.ol xs=>.list (OD.ers xs)
 |.ot xs=>.tuple (OD.ers xs)
 |.od kvs=>dD kvs
noncomputable def OD.ers:List OD->List PyData
 |[]=>[]
 |x :: xs=>x.er :: OD.ers xs
end
theorem nq:∀xs:List OD,OD.ers xs=xs.map OD.er
 |[]=>rfl
 |x :: xs=>by rw [OD.ers,Zk,nq xs]
theorem ee (d:PyData):(OD.sh d).er=d:=by rw [OD.er]
theorem oE (xs:List OD):(OD.ol xs).er=.list (xs.map OD.er):=by rw [OD.er,nq]
theorem Cf (xs:List OD):(OD.ot xs).er=.tuple (xs.map OD.er):=by rw [OD.er,nq]
theorem Hm (kvs:List (Key×PyData)):(OD.od kvs).er=dD kvs:=by rw [OD.er]
theorem aR (ds:List PyData):(ds.map OD.sh).map OD.er=ds:=by
 rw [Zi];have:(OD.er ∘ OD.sh)=id:=funext λd=>ee d
 rw [this,List.map_id]
inductive R (α:Type) where
 |ok (a:α)
 |ex (c:Str)
 |bad
noncomputable def R.bind {α β:Type} (r:R α) (f:α->R β):R β:=match r with
 |.ok a=>f a
 |.ex c=>.ex c
 |.bad=>.bad
theorem c8 {α β:Type} (a:α) (f:α->R β):(R.ok a).bind f=f a:=rfl
noncomputable abbrev Env:=List (Option OD)
noncomputable abbrev Fe:=Env->R OD
noncomputable abbrev Fa:=Env->R (List OD)
noncomputable abbrev Ft:=Env->R Bool
noncomputable abbrev Fn:=List PyData->R OD
inductive Out where
 |nx (ρ:Env)
 |rt (x:OD)
 |bk (ρ:Env)
 |ct (ρ:Env)
noncomputable abbrev Fs:=Env->R Out
noncomputable abbrev Fi:=Env->R (List PyData)
noncomputable abbrev Fg:=OD->Env->R Env
noncomputable def BIG:Nat:=10000000
noncomputable def flat:PyData->Bool
 |.none=>true
 |.bool _=>true
 |.int _=>true
 |.str _=>true
 |_=>false
noncomputable def ae (i:Nat):Fe:=fun ρ=>match ρ[i]? with
 |some (some (.sh d))=>.ok (.sh d)
 |_=>.bad
noncomputable def eC (d:PyData):Fe:=λ_=>.ok (.sh d)
noncomputable def eOp (g:PyData->PyData->R OD) (a b:Fe):Fe:=fun ρ=>(a ρ).bind λx=>(b ρ).bind λy=>g x.er y.er
noncomputable def eUn (g:PyData->R OD) (a:Fe):Fe:=fun ρ=>(a ρ).bind λx=>g x.er
noncomputable def truth:PyData->R Bool
 |.bool b=>.ok b
 |_=>.bad
noncomputable def aY (a:Fe):Ft:=fun ρ=>(a ρ).bind λx=>truth x.er
noncomputable def lp (a b:Ft):Ft:=fun ρ=>(a ρ).bind λc=>if c=true then b ρ else .ok false
noncomputable def qC (a b:Ft):Ft:=fun ρ=>(a ρ).bind λc=>if c=true then .ok true else b ρ
noncomputable def kI (a:Ft):Ft:=fun ρ=>(a ρ).bind λc=>.ok (!c)
noncomputable def nc (a b:Fe):Fe:=fun ρ=>(a ρ).bind λx=>(truth x.er).bind λc=>if c=true then b ρ else .ok (.sh (.bool false))
noncomputable def eOr (a b:Fe):Fe:=fun ρ=>(a ρ).bind λx=>(truth x.er).bind λc=>if c=true then .ok (.sh (.bool true)) else b ρ
noncomputable def wu (a:Fe):Fe:=fun ρ=>(a ρ).bind λx=>(truth x.er).bind λc=>.ok (.sh (.bool (!c)))
noncomputable def eIf (t:Ft) (a b:Fe):Fe:=fun ρ=>(t ρ).bind λc=>if c=true then a ρ else b ρ
noncomputable def av:Fa:=λ_=>.ok []
noncomputable def af (a:Fe) (r:Fa):Fa:=fun ρ=>(a ρ).bind λx=>(r ρ).bind λxs=>.ok (x :: xs)
noncomputable def shs:List OD->Option (List PyData)
 |[]=>some []
 |.sh d :: r=>match shs r with
  |some ds=>some (d :: ds)
  |none=>none
 |_ :: _=>none
noncomputable def mkT (xs:List OD):OD:=match shs xs with
 |some ds=>.sh (.tuple ds)
 |none=>.ot xs
noncomputable def g5 (a:Fa):Fe:=fun ρ=>(a ρ).bind λxs=>if xs.length<=BIG then .ok (mkT xs) else .bad
noncomputable def eSh (a:Fe):Fe:=fun ρ=>(a ρ).bind λx=>.ok (.sh x.er)
noncomputable def ez (a:Fa):Fe:=fun ρ=>(a ρ).bind λxs=>if xs.length<=BIG then .ok (.ol xs) else .bad
noncomputable def aL (f:Fn) (a:Fa):Fe:=fun ρ=>(a ρ).bind λxs=>f (xs.map OD.er)
noncomputable def eB (g:List PyData->R OD) (a:Fa):Fe:=fun ρ=>(a ρ).bind λxs=>g (xs.map OD.er)
noncomputable def erase (ρ:Env):Env:=ρ.map λo=>o.map λx=>OD.sh x.er
noncomputable def j4 (a:Fe):Fe:=fun ρ=>(a (erase ρ)).bind λx=>if flat x.er=true then .ok (.sh x.er) else .bad
noncomputable def vY (a:Fe):Fe:=fun ρ=>(a (erase ρ)).bind λx=>match x with
 |.ol xs=>if xs.all (λy=>flat y.er)=true then .ok (.ol (xs.map λy=>.sh y.er)) else .bad
 |_=>.bad
noncomputable def ve (a:Ft):Ft:=fun ρ=>a (erase ρ)
noncomputable abbrev Fo:=Env->R (Option Int)
noncomputable def ji:Fo:=λ_=>.ok none
noncomputable def iA (a:Fe):Fo:=fun ρ=>(a ρ).bind λx=>match x.er with
 |.int i=>.ok (some i)
 |_=>.bad
noncomputable def eSl (g:PyData->Option Int->Option Int->R OD) (a:Fe) (l h:Fo):Fe:=fun ρ=>(a ρ).bind λx=>(l ρ).bind λi=>(h ρ).bind λj=>g x.er i j
noncomputable def e7 (a:Fe):Fi:=fun ρ=>(a ρ).bind λx=>match x.er with
 |.list ds=>.ok ds
 |_=>.bad
noncomputable def iTp (a:Fe):Fi:=fun ρ=>(a ρ).bind λx=>match x.er with
 |.tuple ds=>.ok ds
 |_=>.bad
noncomputable def kf (lo:Int) (n:Nat):List PyData:=(List.range n).map λk:Nat=>PyData.int (lo+k)
noncomputable def aK (i:Int):Bool:=decide (-(2 ^ 62)<=i) && decide (i<2 ^ 62)
noncomputable def iR1 (a:Fe):Fi:=fun ρ=>(a ρ).bind λx=>match x.er with
 |.int j=>if aK j=true then .ok (kf 0 j.toNat) else .bad
 |_=>.bad
noncomputable def iR2 (a b:Fe):Fi:=fun ρ=>(a ρ).bind λx=>(b ρ).bind λy=>match x.er,y.er with
 |.int i,.int j=>if (aK i && aK j)=true then .ok (kf i (j-i).toNat) else .bad
 |_,_=>.bad
noncomputable def gT (ds:List PyData):List PyData:=ds.zipIdx.map λp=>PyData.tuple [.int (p.2:Nat),p.1]
noncomputable def oU (ds es:List PyData):List PyData:=(ds.zip es).map λp=>PyData.tuple [p.1,p.2]
noncomputable def iEn (a:Fe):Fi:=fun ρ=>(a ρ).bind λx=>match x.er with
 |.list ds=>.ok (gT ds)
 |_=>.bad
noncomputable def iZp (a b:Fe):Fi:=fun ρ=>(a ρ).bind λx=>(b ρ).bind λy=>match x.er,y.er with
 |.list ds,.list es=>.ok (oU ds es)
 |_,_=>.bad
noncomputable def gNm (i:Nat):Fg:=λx ρ=>.ok (ρ.set i (some x))
noncomputable abbrev Fgs:=List OD->Env->R Env
noncomputable def eR:Fgs:=λxs ρ=>match xs with
 |[]=>.ok ρ
 |_=>.bad
noncomputable def aO (g:Fg) (r:Fgs):Fgs:=λxs ρ=>match xs with
 |x :: xs=>(g x ρ).bind fun ρ'=>r xs ρ'
 |[]=>.bad
noncomputable def gTp (n:Nat) (r:Fgs):Fg:=λx ρ=>match x with
 |.ot xs=>if xs.length=n then r xs ρ else .bad
 |.sh (.tuple ds)=>if ds.length=n then r (ds.map OD.sh) ρ else .bad
 |_=>.bad
noncomputable def mI:Option (Option OD)->Option OD
 |some (some (.sh d))=>some (.sh d)
 |_=>none
noncomputable def sl3 (k:Nat) (outs:List Nat) (ρ:Env):Env:=List.replicate k none++outs.map λi=>mI ρ[i]?
noncomputable def qv {α:Type}:R α->R α
 |.ok a=>.ok a
 |_=>.bad
noncomputable def ba (g:Fg) (t:Ft) (el:Fe) (ρ0:Env):List PyData->List OD->R (List OD)
 |[],acc=>.ok acc
 |d :: ds,acc=>(qv (g (.sh d) ρ0)).bind fun ρ=>(qv (t ρ)).bind λb=>if b=true then (qv (el ρ)).bind λy=>if acc.length<BIG then ba g t el ρ0 ds (acc++[y]) else .bad else ba g t el ρ0 ds acc
noncomputable def bD (it:Fi) (g:Fg) (t:Ft) (el:Fe) (k:Nat) (outs:List Nat):Fe:=fun ρ=>(it ρ).bind λds=>(ba g t el (sl3 k outs ρ) ds []).bind λxs=>.ok (.ol xs)
noncomputable def bQ:Ft:=λ_=>.ok true
noncomputable def sNx:Fs:=fun ρ=>.ok (.nx ρ)
noncomputable def aD (a b:Fs):Fs:=fun ρ=>(a ρ).bind λo=>match o with
 |.nx ρ'=>b ρ'
 |o=>.ok o
noncomputable def tQ (a:Fe) (g:Fg):Fs:=fun ρ=>(a ρ).bind λx=>(g x ρ).bind fun ρ'=>.ok (.nx ρ')
noncomputable def aN (i:Nat) (a:Fe):Fs:=fun ρ=>(a ρ).bind λx=>.ok (.nx (ρ.set i (some x)))
noncomputable def tL (a:Fe):Fs:=fun ρ=>(a ρ).bind λ_=>.ok (.nx ρ)
noncomputable def eO (a:Fe):Fs:=fun ρ=>(a ρ).bind λx=>.ok (.rt x)
noncomputable def IQ:Fs:=λ_=>.ok (.rt (.sh .none))
noncomputable def eX (i:Nat):Fs:=fun ρ=>match ρ[i]? with
 |some (some x)=>.ok (.rt x)
 |_=>.bad
noncomputable def sIf (t:Ft) (a b:Fs):Fs:=fun ρ=>(t ρ).bind λc=>if c=true then a ρ else b ρ
noncomputable def sBk:Fs:=fun ρ=>.ok (.bk ρ)
noncomputable def sCt:Fs:=fun ρ=>.ok (.ct ρ)
noncomputable def Gp:Fs:=λ_=>.bad
noncomputable def zJ (i:Nat) (ρ:Env):Env:=match ρ[i]? with
 |some (some x)=>ρ.set i (some (.sh x.er))
 |_=>ρ
noncomputable def ke (i:Nat) (a:Fs):Fs:=fun ρ=>a (zJ i ρ)
noncomputable def wD (i:Nat) (g:PyData->PyData->R OD) (a:Fe):Fs:=fun ρ=>match ρ[i]? with
 |some (some (.sh d))=>(a ρ).bind λy=>(g d y.er).bind λz=>.ok (.nx (ρ.set i (some z)))
 |_=>.bad
noncomputable def iZ (i:Nat) (a:Fe):Fs:=fun ρ=>match ρ[i]? with
 |some (some (.ol xs))=>(a ρ).bind λy=>if xs.length<BIG then .ok (.nx (ρ.set i (some (.ol (xs++[y]))))) else .bad
 |_=>.bad
noncomputable def GR (i:Nat):Fs:=fun ρ=>match ρ[i]? with
 |some (some (.ol xs))=>.ok (.nx (ρ.set i (some (.ol xs.reverse))))
 |_=>.bad
noncomputable def G_ (i:Nat):Fs:=fun ρ=>match ρ[i]? with
 |some (some (.ol xs))=>.ok (.nx (ρ.set i (some (.ol []))))
 |_=>.bad
noncomputable def tu (i:Nat) (g:Fg):Fs:=fun ρ=>match ρ[i]? with
 |some (some (.ol xs))=>match xs.getLast? with
  |some (.sh d)=>(g (.sh d) (ρ.set i (some (.ol xs.dropLast)))).bind fun ρ'=>.ok (.nx ρ')
  |_=>.bad
 |_=>.bad
noncomputable def t9 (i:Nat) (a:Fe):Fs:=fun ρ=>match ρ[i]? with
 |some (some (.ol xs))=>(a ρ).bind λy=>match y with
  |.ol ys=>if xs.length+ys.length<=BIG then .ok (.nx (ρ.set i (some (.ol (xs++ys))))) else .bad
  |_=>.bad
 |_=>.bad
noncomputable def jB (i:Nat) (k:Fe) (a:Fe):Fs:=fun ρ=>match ρ[i]? with
 |some (some (.ol xs))=>(a ρ).bind λy=>(k ρ).bind λz=>match z.er with
  |.int q=>match ixN xs.length q with
   |some j=>.ok (.nx (ρ.set i (some (.ol (xs.set j y)))))
   |none=>.bad
  |_=>.bad
 |_=>.bad
noncomputable def comps:OD->Option (Bool×List OD)
 |.ol xs=>some (true,xs)
 |.ot xs=>some (false,xs)
 |_=>none
noncomputable def wrap (l:Bool) (xs:List OD):OD:=if l=true then .ol xs else .ot xs
noncomputable def lL (i:Nat) (k:Fe) (a:Fe):Fs:=fun ρ=>match ρ[i]? with
 |some (some (.ol xs))=>(k ρ).bind λz=>match z.er with
  |.int q=>match ixN xs.length q with
   |some j=>match xs[j]? with
    |some (.ol ys)=>(a ρ).bind λy=>if ys.length<BIG then .ok (.nx (ρ.set i (some (.ol (xs.set j (.ol (ys++[y]))))))) else .bad
    |_=>.bad
   |none=>.bad
  |_=>.bad
 |_=>.bad
noncomputable def bJ (g:Fg) (b:Fs):List PyData->Env->R Out
 |[],ρ=>.ok (.nx ρ)
 |d :: ds,ρ=>(g (.sh d) ρ).bind fun ρ1=>(b ρ1).bind λo=>match o with
  |.nx ρ2=>bJ g b ds ρ2
  |.ct ρ2=>bJ g b ds ρ2
  |.bk ρ2=>.ok (.nx ρ2)
  |.rt x=>.ok (.rt x)
noncomputable def fV (it:Fi) (g:Fg) (b:Fs):Fs:=fun ρ=>(it ρ).bind λds=>bJ g b ds ρ
noncomputable def eU (t:Ft) (b:Fs):Nat->Env->R Out
 |0,_=>.bad
 |n+1,ρ=>(t ρ).bind λc=>if c=true then (b ρ).bind λo=>match o with
  |.nx ρ2=>eU t b n ρ2
  |.ct ρ2=>eU t b n ρ2
  |.bk ρ2=>.ok (.nx ρ2)
  |.rt x=>.ok (.rt x) else .ok (.nx ρ)
open Classical in
noncomputable def fj (t:Ft) (b:Fs):Fs:=fun ρ=>if h:∃n,eU t b n ρ≠.bad then eU t b h.choose ρ else .bad
noncomputable def m_ (n:Nat) (ds:List PyData):Env:=(ds.map λd=>some (OD.sh d))++List.replicate (n-ds.length) none
noncomputable def cq (np n:Nat) (b:Fs):Fn:=λds=>if ds.length=np then (b (m_ n ds)).bind λo=>match o with
 |.rt x=>.ok x
 |.nx _=>.ok (.sh .none)
 |_=>.bad else .bad
mutual
inductive Rep (K:PySem.W.Frag) (H:Hp):V->PyData->Prop
 |non:Rep K H .non .none
 |bl (b:Bool):Rep K H (.bl b) (.bool b)
 |int (i:Int):Rep K H (.int i) (.int i)
 |str (x:Str):Rep K H (.str x) (.str x)
 |lst {a:Addr} {xs:List V} {ds:List PyData}:RdK K H a xs->RepAll K H xs ds->Rep K H (.ref a) (.list ds)
 |tup {a:Addr} {xs:List V} {ds:List PyData}:H a=some (.tup xs)->RepAll K H xs ds->Rep K H (.ref a) (.tuple ds)
 |dct {a:Addr} {kvs:List (Key×V)} {ds:List (Key×PyData)}:H a=some (.dK kvs)->kvs.map (·.1)=ds.map (·.1)->RepAll K H (kvs.map (·.2)) (ds.map (·.2))->Rep K H (.ref a) (dD ds)
inductive RepAll (K:PySem.W.Frag) (H:Hp):List V->List PyData->Prop
 |nil:RepAll K H [] []
 |cons {v:V} {vs:List V} {d:PyData} {ds:List PyData}:Rep K H v d->RepAll K H vs ds->RepAll K H (v :: vs) (d :: ds)
end
mutual
theorem Rep.same {K:PySem.W.Frag} {H H':Hp} (e:bb H H') {v:V} {d:PyData}:Rep K H v d->Rep K H' v d
 |.non=>.non
 |.bl b=>.bl b
 |.int i=>.int i
 |.str x=>.str x
 |.lst h r=>.lst (h.same e) (RepAll.same e r)
 |.tup h r=>.tup (e _ _ h) (RepAll.same e r)
 |.dct h k r=>.dct (e _ _ h) k (RepAll.same e r)
theorem RepAll.same {K:PySem.W.Frag} {H H':Hp} (e:bb H H') {vs:List V} {ds:List PyData}:RepAll K H vs ds->RepAll K H' vs ds
 |.nil=>.nil
 |.cons h r=>.cons (Rep.same e h) (RepAll.same e r)
end
mutual
inductive Own (K:PySem.W.Frag) (F H:Hp):V->OD->List Addr->Prop
 |sh {v:V} {d:PyData}:Rep K F v d->Own K F H v (.sh d) []
 |ol {a:Addr} {vs:List V} {xs:List OD} {f:List Addr}:H a=some (.lst vs)->OwnL K F H vs xs f->Own K F H (.ref a) (.ol xs) (a :: f)
 |ot {a:Addr} {vs:List V} {xs:List OD} {f:List Addr}:H a=some (.tup vs)->OwnL K F H vs xs f->Own K F H (.ref a) (.ot xs) (a :: f)
 |od {a:Addr} {kvs:List (Key×V)} {ds:List (Key×PyData)}:H a=some (.dK kvs)->kvs.map (·.1)=ds.map (·.1)->RepAll K F (kvs.map (·.2)) (ds.map (·.2))->Own K F H (.ref a) (.od ds) [a]
inductive OwnL (K:PySem.W.Frag) (F H:Hp):List V->List OD->List Addr->Prop
 |nil:OwnL K F H [] [] []
 |cons {v:V} {x:OD} {f:List Addr} {vs:List V} {xs:List OD} {g:List Addr}:Own K F H v x f->OwnL K F H vs xs g->OwnL K F H (v :: vs) (x :: xs) (f++g)
end
section
variable {K:PySem.W.Frag} {F H F' H':Hp}
mutual
theorem Own.mono (e:bb F F') {v:V} {x:OD} {f:List Addr}:(∀a∈f,∀o,H a=some o->H' a=some o)->Own K F H v x f->Own K F' H' v x f
 |_,.sh r=>.sh (r.same e)
 |k,.ol h r=>.ol (k _ Zf _ h) (OwnL.mono e (λa m=>k a (Ze _ m)) r)
 |k,.ot h r=>.ot (k _ Zf _ h) (OwnL.mono e (λa m=>k a (Ze _ m)) r)
 |k,.od h q r=>.od (k _ Zf _ h) q (RepAll.same e r)
theorem OwnL.mono (e:bb F F') {v:List V} {x:List OD} {f:List Addr}:(∀a∈f,∀o,H a=some o->H' a=some o)->OwnL K F H v x f->OwnL K F' H' v x f
 |_,.nil=>.nil
 |k,.cons h r=>.cons (Own.mono e (λa m=>k a (Zw _ m)) h) (OwnL.mono e (λa m=>k a (Zq _ m)) r)
end
mutual
theorem Own.dom {v:V} {x:OD} {f:List Addr}:Own K F H v x f->∀a∈f,∃o,H a=some o
 |.sh _,a,m=>by cases m
 |.ol h r,a,m=>by
  rcases Zo.mp m with rfl | m
  ·exact ⟨_,h⟩
  ·exact OwnL.dom r a m
 |.ot h r,a,m=>by
  rcases Zo.mp m with rfl | m
  ·exact ⟨_,h⟩
  ·exact OwnL.dom r a m
 |.od h q r,a,m=>by
  rcases Zo.mp m with rfl | m
  ·exact ⟨_,h⟩
  ·cases m
theorem OwnL.dom {v:List V} {x:List OD} {f:List Addr}:OwnL K F H v x f->∀a∈f,∃o,H a=some o
 |.nil,a,m=>by cases m
 |.cons h r,a,m=>by
  rcases Zs.mp m with m | m
  ·exact Own.dom h a m
  ·exact OwnL.dom r a m
end
mutual
theorem Own.frz (e:bb F F') {v:V} {x:OD} {f:List Addr}:(∀a∈f,∀o,H a=some o->F' a=some o)->Own K F H v x f->Rep K F' v x.er
 |_,.sh r=>by rw [ee];exact r.same e
 |k,.ol h r=>by rw [OD.er];exact .lst (RdK.of (k _ Zf _ h)) (OwnL.frz e (λa m=>k a (Ze _ m)) r)
 |k,.ot h r=>by rw [OD.er];exact .tup (k _ Zf _ h) (OwnL.frz e (λa m=>k a (Ze _ m)) r)
 |k,.od h q r=>by rw [OD.er];exact .dct (k _ Zf _ h) q (r.same e)
theorem OwnL.frz (e:bb F F') {v:List V} {x:List OD} {f:List Addr}:(∀a∈f,∀o,H a=some o->F' a=some o)->OwnL K F H v x f->RepAll K F' v (OD.ers x)
 |_,.nil=>by rw [OD.ers];exact .nil
 |k,.cons h r=>by rw [OD.ers];exact .cons (Own.frz e (λa m=>k a (Zw _ m)) h) (OwnL.frz e (λa m=>k a (Zq _ m)) r)
end
theorem OwnL.len {v:List V} {x:List OD} {f:List Addr} (o:OwnL K F H v x f):v.length=x.length:=by
 induction x generalizing v f with
 |nil=>cases o;rfl
 |cons a r ih =>
  cases o with
  |cons h t=>exact congrArg (·+1) (ih t)
theorem OwnL.app {v w:List V} {x y:List OD} {f g:List Addr} (o:OwnL K F H v x f) (q:OwnL K F H w y g):OwnL K F H (v++w) (x++y) (f++g):=by
 induction x generalizing v f with
 |nil=>cases o;exact q
 |cons a r ih =>
  cases o with
  |cons h t =>
   rw [List.cons_append,List.cons_append,ZD];exact .cons h (ih t)
theorem OwnL.shs:∀{v:List V} {ds:List PyData},RepAll K F v ds->OwnL K F H v (ds.map OD.sh) []
 |_,_,.nil=>.nil
 |_,_,.cons h r=>.cons (f:=[]) (.sh h) (OwnL.shs r)
theorem RepAll.len:∀{v:List V} {ds:List PyData},RepAll K F v ds->v.length=ds.length
 |_,_,.nil=>rfl
 |_,_,.cons _ r=>by rw [Zr,Zr,RepAll.len r]
theorem RepAll.get:∀{v:List V} {ds:List PyData} {i:Nat} {d:PyData},RepAll K F v ds->ds[i]?=some d->∃x,v[i]?=some x/\Rep K F x d
 |_,_,_,_,.nil,e=>by simp at e
 |_,_,0,_,.cons h _,e=>by
  simp at e
  subst e;exact ⟨_,rfl,h⟩
 |_,_,i+1,_,.cons _ r,e=>by
  obtain ⟨x,h1,h2⟩:=RepAll.get (i:=i) r (by simpa using e)
  exact ⟨x,by simpa using h1,h2⟩
theorem RepAll.app:∀{v w:List V} {ds es:List PyData},RepAll K F v ds->RepAll K F w es->RepAll K F (v++w) (ds++es)
 |_,_,_,_,.nil,q=>q
 |_,_,_,_,.cons h r,q=>.cons h (RepAll.app r q)
theorem RepAll.take:∀{v:List V} {ds:List PyData} (n:Nat),RepAll K F v ds->RepAll K F (v.take n) (ds.take n)
 |_,_,0,_=>by rw [List.take_zero,List.take_zero];exact .nil
 |_,_,_+1,.nil=>.nil
 |_,_,n+1,.cons h r=>.cons h (RepAll.take n r)
theorem RepAll.drop:∀{v:List V} {ds:List PyData} (n:Nat),RepAll K F v ds->RepAll K F (v.drop n) (ds.drop n)
 |_,_,0,r=>r
 |_,_,_+1,.nil=>.nil
 |_,_,n+1,.cons h r=>RepAll.drop n r
theorem RepAll.toInts:∀{v:List V} {ns:List Int},RepAll K F v (ns.map PyData.int)->v=ns.map V.int
 |_,[],.nil=>rfl
 |_,n :: ns,.cons h r=>by
  cases h;rw [RepAll.toInts r];rfl
theorem RepAll.ofInts:∀(ns:List Int),RepAll K F (ns.map V.int) (ns.map PyData.int)
 |[]=>.nil
 |n :: ns=>.cons (.int n) (RepAll.ofInts ns)
end
structure Ext (F H F' H':Hp):Prop where
 ff:bb F F'
 hh:bb H H'
 fh:bb F' H'
 nw:∀a,H a≠none->F a=none->F' a=none
theorem cy {α:Type} {o:Option α} {x:α} (h:o=some x):o≠none:=by
 rw [h];exact Option.some_ne_none x
theorem _root_.L2.bb.dom {H H':Hp} (e:bb H H') {a:Addr} (h:H a≠none):H' a≠none:=by
 cases q:H a with
 |none=>exact absurd q h
 |some o=>exact cy (e a o q)
section
variable {F H F1 H1 F2 H2:Hp}
theorem Ext.refl (h:bb F H):Ext F H F H:=⟨bb.refl _,bb.refl _,h,λ_ _ z=>z⟩
theorem Ext.trans (a:Ext F H F1 H1) (b:Ext F1 H1 F2 H2):Ext F H F2 H2:=⟨a.ff.trans b.ff,a.hh.trans b.hh,b.fh,λx h n=>b.nw x (a.hh.dom h) (a.nw x h n)⟩
theorem Ext.alloc {p:Addr} {o:HO} (h:bb F H) (hp:H p=none):Ext F H F (upd H p o) :=
 ⟨bb.refl _,(bb.refl H).upd hp,(bb.upd h (h.free hp)),λ_ _ z=>z⟩
theorem Ext.allocF {p:Addr} {o:HO} (h:bb F H) (hp:H p=none):Ext F H (upd F p o) (upd H p o):=by
 refine ⟨(bb.refl F).upd (h.free hp),(bb.refl H).upd hp,λb u q=>?_,λa ha n=>?_⟩
 ·by_cases e:b=p
  ·subst e
   rw [cA]at q ⊢;exact q
  ·rw [aM e]at q ⊢
   exact h b u q
 ·have e:a≠p:=by
   rintro rfl;exact ha hp
  rw [aM e];exact n
end
structure Res (K:PySem.W.Frag) (F H:Hp) (v:V) (x:OD) (f:List Addr):Prop where
 own:Own K F H v x f
 nd:f.Nodup
 fr:∀a∈f,F a=none
structure ResL (K:PySem.W.Frag) (F H:Hp) (v:List V) (x:List OD) (f:List Addr):Prop where
 own:OwnL K F H v x f
 nd:f.Nodup
 fr:∀a∈f,F a=none
open Classical in
noncomputable def lK (F H:Hp) (f:List Addr):Hp:=λa=>if a∈f then H a else F a
theorem j0 {F H:Hp} {f:List Addr} {a:Addr} (h:a∈f):lK F H f a=H a:=by unfold lK;rw [if_pos h]
theorem iB {F H:Hp} {f:List Addr} {a:Addr} (h:a∉f):lK F H f a=F a:=by unfold lK;rw [if_neg h]
section
variable {K:PySem.W.Frag} {F H F' H' F1 H1:Hp} {v:V} {x:OD} {f:List Addr} {vs:List V} {xs:List OD}
theorem ig (n:∀a∈f,F a=none):bb F (lK F H f):=λa o q=>by
 rw [iB]
 ·exact q
 ·intro m
  rw [n a m]at q;cases q
theorem qo (h:bb F H):bb (lK F H f) H:=λa o q=>by
 by_cases m:a∈f
 ·rw [j0 m]at q
  exact q
 ·rw [iB m]at q
  exact h a o q
theorem Res.ext (r:Res K F H v x f) (e:Ext F H F' H'):Res K F' H' v x f :=
 ⟨r.own.mono e.ff λa _ o q=>e.hh a o q,r.nd,λa m=>e.nw a (let ⟨_,q⟩:=r.own.dom a m;cy q) (r.fr a m)⟩
theorem ResL.ext (r:ResL K F H vs xs f) (e:Ext F H F' H'):ResL K F' H' vs xs f :=
 ⟨r.own.mono e.ff λa _ o q=>e.hh a o q,r.nd,λa m=>e.nw a (let ⟨_,q⟩:=r.own.dom a m;cy q) (r.fr a m)⟩
theorem vo (e:Ext F H F1 H1) (n:∀a∈f,F1 a=none) (w:∀a∈f,H a=none):Ext F H (lK F1 H1 f) H1 :=
 ⟨e.ff.trans (ig n),e.hh,qo e.fh,λa h z=>by
  have m:a∉f:=λm=>h (w a m)
  rw [iB m];exact e.nw a h z⟩
theorem Res.frz (e:Ext F H F1 H1) (r:Res K F1 H1 v x f) (w:∀a∈f,H a=none):∃G,Ext F H G H1/\Rep K G v x.er :=
 ⟨lK F1 H1 f,vo e r.fr w,r.own.frz (ig r.fr) λa m o q=>by rw [j0 m];exact q⟩
theorem ResL.frz (e:Ext F H F1 H1) (r:ResL K F1 H1 vs xs f) (w:∀a∈f,H a=none):∃G,Ext F H G H1/\RepAll K G vs (xs.map OD.er) :=
 ⟨lK F1 H1 f,vo e r.fr w,by rw [<-nq];exact r.own.frz (ig r.fr) λa m o q=>by rw [j0 m];exact q⟩
theorem Res.sh {d:PyData} (r:Rep K F v d):Res K F H v (.sh d) []:=⟨.sh r,List.nodup_nil,λ_ m=>by cases m⟩
theorem ResL.nil:ResL K F H [] [] []:=⟨.nil,List.nodup_nil,λ_ m=>by cases m⟩
theorem ResL.cons {f1:List Addr} (r:Res K F H v x f1) (q:ResL K F H vs xs f) (d:∀a∈f1,a∉f):ResL K F H (v :: vs) (x :: xs) (f1++f) :=
 ⟨.cons r.own q.own,ZK.mpr ⟨r.nd,q.nd,λa m b n e=>d a m (e▸n)⟩,λa m=>(Zs.mp m).elim (r.fr a) (q.fr a)⟩
end
inductive OwnS (K:PySem.W.Frag) (F H:Hp):St->Env->List Addr->Prop
 |nil:OwnS K F H [] [] []
 |no {v:Option V} {σ:St} {ρ:Env} {g:List Addr}:OwnS K F H σ ρ g->OwnS K F H (v :: σ) (none :: ρ) g
 |yes {v:V} {x:OD} {f:List Addr} {σ:St} {ρ:Env} {g:List Addr}:Own K F H v x f->OwnS K F H σ ρ g->OwnS K F H (some v :: σ) (some x :: ρ) (f++g)
section
variable {K:PySem.W.Frag} {F H F' H':Hp}
theorem OwnS.mono (e:bb F F') {σ:St} {ρ:Env} {g:List Addr} (k:∀a∈g,∀o,H a=some o->H' a=some o) (S:OwnS K F H σ ρ g):OwnS K F' H' σ ρ g:=by
 induction S with
 |nil=>exact .nil
 |no r ih=>exact .no (ih k)
 |yes h r ih=>exact .yes (h.mono e λa m=>k a (Zw _ m)) (ih λa m=>k a (Zq _ m))
theorem OwnS.dom {σ:St} {ρ:Env} {g:List Addr} (S:OwnS K F H σ ρ g):∀a∈g,∃o,H a=some o:=by
 induction S with
 |nil=>exact λa m=>by cases m
 |no r ih=>exact ih
 |yes h r ih=>exact λa m=>(Zs.mp m).elim (h.dom a) (ih a)
theorem OwnS.at {σ:St} {ρ:Env} {g:List Addr} (S:OwnS K F H σ ρ g):∀{i:Nat} {x:OD},ρ[i]?=some (some x) ->
  ∃v f g1 g2,σ[i]?=some (some v)/\Own K F H v x f/\g=g1++(f++g2)/\∀(F' H':Hp),bb F F'->(∀a∈g1++g2,∀o,H a=some o->H' a=some o)->∀v' x' f',Own K F' H' v' x' f'->OwnS K F' H' (σ.set i (some v')) (ρ.set i (some x')) (g1++(f'++g2)):=by
 induction S with
 |nil=>intro i x e;simp at e
 |no r ih =>
  intro i x e;cases i with
  |zero=>simp at e
  |succ i =>
   obtain ⟨v,f,g1,g2,h1,h2,h3,h4⟩:=ih (i:=i) (by simpa using e)
   exact ⟨v,f,g1,g2,by simpa using h1,h2,h3,λF' H' s k v' x' f' o=>.no (h4 F' H' s k v' x' f' o)⟩
 |@yes v0 x0 f0 σ0 ρ0 g0 h r ih =>
  intro i x e;cases i with
  |zero =>
   simp at e
   subst e;exact ⟨_,f0,[],g0,rfl,h,rfl,λF' H' s k v' x' f' o=>OwnS.yes (f:=f') (g:=g0) o (r.mono s k)⟩
  |succ i =>
   obtain ⟨v,f,g1,g2,h1,h2,h3,h4⟩:=ih (i:=i) (by simpa using e)
   refine ⟨v,f,f0++g1,g2,by simpa using h1,h2,by rw [h3,ZD],λF' H' s k v' x' f' o=>?_⟩
   rw [ZD];exact .yes (h.mono s λa m=>k a (Zw _ (Zw _ m))) (h4 F' H' s (λa m=>k a (by simp at m ⊢;rcases m with m | m <;> simp [m])) v' x' f' o)
theorem OwnS.put {σ:St} {ρ:Env} {g:List Addr} (S:OwnS K F H σ ρ g):∀{i:Nat},i<ρ.length ->
  ∃f g1 g2,g=g1++(f++g2)/\∀(F' H':Hp),bb F F'->(∀a∈g1++g2,∀o,H a=some o->H' a=some o)->∀v' x' f',Own K F' H' v' x' f'->OwnS K F' H' (σ.set i (some v')) (ρ.set i (some x')) (g1++(f'++g2)):=by
 induction S with
 |nil=>intro i e;simp at e
 |@no v0 σ0 ρ0 g0 r ih =>
  intro i e;cases i with
  |zero=>exact ⟨[],[],g0,rfl,λF' H' s k v' x' f' o=>OwnS.yes (f:=f') (g:=g0) o (r.mono s k)⟩
  |succ i =>
   obtain ⟨f,g1,g2,h3,h4⟩:=ih (i:=i) (by simpa using e)
   exact ⟨f,g1,g2,h3,λF' H' s k v' x' f' o=>.no (h4 F' H' s k v' x' f' o)⟩
 |@yes v0 x0 f0 σ0 ρ0 g0 h r ih =>
  intro i e;cases i with
  |zero=>exact ⟨f0,[],g0,rfl,λF' H' s k v' x' f' o=>OwnS.yes (f:=f') (g:=g0) o (r.mono s k)⟩
  |succ i =>
   obtain ⟨f,g1,g2,h3,h4⟩:=ih (i:=i) (by simpa using e)
   refine ⟨f,f0++g1,g2,by rw [h3,ZD],λF' H' s k v' x' f' o=>?_⟩
   rw [ZD];exact .yes (h.mono s λa m=>k a (Zw _ (Zw _ m))) (h4 F' H' s (λa m=>k a (by simp at m ⊢;rcases m with m | m <;> simp [m])) v' x' f' o)
theorem OwnS.erase (e:bb F H) {σ:St} {ρ:Env} {g:List Addr} (S:OwnS K F H σ ρ g):OwnS K H H σ (L3.erase ρ) []:=by
 induction S with
 |nil=>exact .nil
 |no r ih=>exact .no ih
 |yes h r ih=>exact .yes (f:=[]) (.sh (h.frz e λ_ _ _ q=>q)) ih
theorem OwnS.len {σ:St} {ρ:Env} {g:List Addr} (S:OwnS K F H σ ρ g):σ.length=ρ.length:=by
 induction S with
 |nil=>rfl
 |no r ih=>exact congrArg (·+1) ih
 |yes h r ih=>exact congrArg (·+1) ih
end
structure Stt (K:PySem.W.Frag) (n:Nat) (F H:Hp) (σ:St) (ρ:Env) (fp:List Addr):Prop where
 same:bb F H
 own:OwnS K F H σ ρ fp
 nd:fp.Nodup
 fr:∀a∈fp,F a=none
 len:ρ.length=n
structure Stp (F H:Hp) (fp:List Addr) (F' H':Hp) (fp':List Addr):Prop where
 ff:bb F F'
 keep:∀a o,H a=some o->a∉fp->H' a=some o
 new:∀a∈fp',a∈fp\/H a=none
 nw:∀a,H a≠none->a∉fp->F a=none->F' a=none
section
variable {K:PySem.W.Frag} {n:Nat} {F H F' H' F1 H1 F2 H2:Hp} {σ:St} {ρ:Env} {fp fp1 fp2:List Addr}
theorem Stt.ext (s:Stt K n F H σ ρ fp) (e:Ext F H F' H'):Stt K n F' H' σ ρ fp :=
 ⟨e.fh,s.own.mono e.ff λa _ o q=>e.hh a o q,s.nd,λa m=>e.nw a (let ⟨_,q⟩:=s.own.dom a m;cy q) (s.fr a m),s.len⟩
theorem Stt.erase (s:Stt K n F H σ ρ fp):Stt K n H H σ (L3.erase ρ) [] :=
 ⟨bb.refl _,s.own.erase s.same,List.nodup_nil,(λ_ m=>by cases m),(by unfold L3.erase;rw [Zc];exact s.len)⟩
theorem Stp.refl:Stp F H fp F H fp:=⟨bb.refl _,λ_ _ h _=>h,λ_ m=>.inl m,λ_ _ _ z=>z⟩
theorem Ext.stp (e:Ext F H F' H'):Stp F H fp F' H' fp:=⟨e.ff,λa o h _=>e.hh a o h,λ_ m=>.inl m,λa h _ z=>e.nw a h z⟩
theorem Stp.out (s:Stp F H fp F1 H1 fp1) {a:Addr} (h:H a≠none) (m:a∉fp):a∉fp1:=λq=>(s.new a q).elim m h
theorem Stp.trans (s:Stp F H fp F1 H1 fp1) (t:Stp F1 H1 fp1 F2 H2 fp2):Stp F H fp F2 H2 fp2 where
 ff:=s.ff.trans t.ff
 keep a o h m:=t.keep a o (s.keep a o h m) (s.out (cy h) m)
 new a m:=(t.new a m).elim (s.new a) λz=>by
  by_cases q:a∈fp
  ·exact .inl q
  ·refine .inr ?_
   cases w:H a with
   |none=>rfl
   |some o =>
    rw [s.keep a o w q]at z;cases z
 nw a h m z:=t.nw a (by
  cases w:H a with
  |none=>exact absurd w h
  |some o=>exact cy (s.keep a o w m)) (s.out h m) (s.nw a h m z)
theorem Stt.set (s:Stt K n F H σ ρ fp) {i:Nat} (hi:i<n) {v:V} {x:OD} {fx:List Addr} (r:Res K F H v x fx) (d:∀a∈fx,a∉fp) :
  ∃fp',Stt K n F H (σ.set i (some v)) (ρ.set i (some x)) fp'/\∀a∈fp',a∈fp\/a∈fx:=by
 obtain ⟨f,g1,g2,e,k⟩:=s.own.put (i:=i) (by rw [s.len];exact hi)
 subst e;have nd:=s.nd;have sub:∀a∈g1++(fx++g2),a∈g1++(f++g2)\/a∈fx:=λa m=>by
  simp only [Zs]at m ⊢;rcases m with m | m | m
  ·exact .inl (.inl m)
  ·exact .inr m
  ·exact .inl (.inr (.inr m))
 refine ⟨g1++(fx++g2),⟨s.same,k F H (bb.refl _) (λ_ _ _ q=>q) v x fx r.own,?_,λa m=>(sub a m).elim (s.fr a) (r.fr a),by rw [ZJ];exact s.len⟩,sub⟩
 simp only [ZK,Zs]at nd d ⊢;obtain ⟨n1,⟨n2,n3,n4⟩,n5⟩:=nd;refine ⟨n1,⟨r.nd,n3,λa ha b hb e=>d a ha (.inr (.inr (e▸hb)))⟩,λa ha b hb e=>?_⟩
 rcases hb with hb | hb
 ·exact d b hb (.inl (e▸ha))
 ·exact n5 a ha b (.inr hb) e
end
end L3
namespace L3
open PySem L2
structure Mx where
 K:PySem.W.Frag
 mg:Str->Option Value
 E:XK
noncomputable def XOk (M:Mx) (c:Str) (H:Hp) (fp:List Addr):Prop:=∃cv,M.mg c=some cv/\∀od H',(∀a o,H a=some o->a∉fp->H' a=some o)->M.E cv od H'
noncomputable def aG (M:Mx) (H:Hp) (fp:List Addr) {α:Type} (P:α->Prop):R α->Prop
 |.ok a=>P a
 |.ex c=>XOk M c H fp
 |.bad=>False
noncomputable def OkE (M:Mx) (F H:Hp) (Q:VK) (x:OD):Prop:=∀v F' H' fx,Ext F H F' H'->Res M.K F' H' v x fx->(∀a∈fx,H a=none)->Q v H'
noncomputable def OkL (M:Mx) (F H:Hp) (Q:List V->Hp->Prop) (x:List OD):Prop:=∀v F' H' fx,Ext F H F' H'->ResL M.K F' H' v x fx->(∀a∈fx,H a=none)->Q v H'
noncomputable def OkH (F H:Hp) {α:Type} (Q:α->Hp->Prop) (x:α):Prop:=∀F' H',Ext F H F' H'->Q x H'
section
variable {M:Mx} {F H F1 H1 F2 H2:Hp} {fp fp1:List Addr} {α β:Type} {P P':α->Prop} {r:R α}
theorem aG.bind {P:β->Prop} {g:α->R β} (h:aG M H fp P (r.bind g)):aG M H fp (λa=>aG M H fp P (g a)) r:=by
 cases r with
 |ok a=>exact h
 |ex c=>exact h
 |bad=>exact h
theorem aG.mono (h:aG M H fp P r) (k:∀a,P a->P' a):aG M H fp P' r:=by
 cases r with
 |ok a=>exact k a h
 |ex c=>exact h
 |bad=>exact h
theorem XOk.stp (s:Stp F H fp F1 H1 fp1) {c:Str} (h:XOk M c H fp):XOk M c H1 fp1 :=
 let ⟨cv,e,k⟩:=h
 ⟨cv,e,λod H' q=>k od H' λa o z m=>q a o (s.keep a o z m) (s.out (cy z) m)⟩
theorem aG.stp (s:Stp F H fp F1 H1 fp1) (h:aG M H fp P r):aG M H1 fp1 P r:=by
 cases r with
 |ok a=>exact h
 |ex c=>exact XOk.stp s h
 |bad=>exact h
theorem aG.ext (e:Ext F H F1 H1) (h:aG M H fp P r):aG M H1 fp P r:=h.stp e.stp
theorem aG.nofp (h:aG M H fp P r):aG M H [] P r:=by
 cases r with
 |ok a=>exact h
 |ex c =>
  obtain ⟨cv,e,k⟩:=h;exact ⟨cv,e,λod H' q=>k od H' λa o z _=>q a o z (by simp)⟩
 |bad=>exact h
theorem OkE.pre {Q:VK} {x:OD} (e:Ext F H F1 H1) (h:OkE M F H Q x):OkE M F1 H1 Q x:=λv F' H' fx e' r w=>h v F' H' fx (e.trans e') r λa m=>e.hh.free (w a m)
theorem OkH.pre {Q:α->Hp->Prop} {x:α} (e:Ext F H F1 H1) (h:OkH F H Q x):OkH F1 H1 Q x:=λF' H' e'=>h F' H' (e.trans e')
theorem OkE.val {Q:VK} {d:PyData} {v:V} (s:bb F H) (h:OkE M F H Q (.sh d)) (r:Rep M.K F v d):Q v H:=h v F H [] (Ext.refl s) (Res.sh r) λ_ m=>by cases m
theorem OkE.lst {Q:VK} {xs:List OD} {vs:List V} {f:List Addr} {p:Addr} (s:bb F H) (h:OkE M F1 H1 Q (.ol xs)) (e:Ext F1 H1 F H) (r:ResL M.K F H vs xs f) (w:∀a∈f,H1 a=none) (hp:H p=none):Q (.ref p) (upd H p (.lst vs)):=by
 have np:p∉f:=λm=>by
  obtain ⟨o,q⟩:=r.own.dom p m;rw [hp]at q;cases q
 refine h (.ref p) F _ (p :: f) (e.trans (Ext.alloc s hp)) ⟨.ol cA (r.own.mono (bb.refl _) λa m o q=>?_),List.nodup_cons.mpr ⟨np,r.nd⟩,λa m=>?_⟩ λa m=>?_
 ·rw [aM (bG q hp)]
  exact q
 ·rcases Zo.mp m with rfl | m
  ·exact s.free hp
  ·exact r.fr a m
 ·rcases Zo.mp m with rfl | m
  ·exact e.hh.free hp
  ·exact w a m
theorem OkE.tup {Q:VK} {xs:List OD} {vs:List V} {f:List Addr} {p:Addr} (s:bb F H) (h:OkE M F1 H1 Q (.ot xs)) (e:Ext F1 H1 F H) (r:ResL M.K F H vs xs f) (w:∀a∈f,H1 a=none) (hp:H p=none):Q (.ref p) (upd H p (.tup vs)):=by
 have np:p∉f:=λm=>by
  obtain ⟨o,q⟩:=r.own.dom p m;rw [hp]at q;cases q
 refine h (.ref p) F _ (p :: f) (e.trans (Ext.alloc s hp)) ⟨.ot cA (r.own.mono (bb.refl _) λa m o q=>?_),List.nodup_cons.mpr ⟨np,r.nd⟩,λa m=>?_⟩ λa m=>?_
 ·rw [aM (bG q hp)]
  exact q
 ·rcases Zo.mp m with rfl | m
  ·exact s.free hp
  ·exact r.fr a m
 ·rcases Zo.mp m with rfl | m
  ·exact e.hh.free hp
  ·exact w a m
theorem OkE.lstD {Q:VK} {ds:List PyData} {vs:List V} {p:Addr} (s:bb F H) (h:OkE M F H Q (.ol (ds.map OD.sh))) (r:RepAll M.K F vs ds) (hp:H p=none):Q (.ref p) (upd H p (.lst vs)) :=
 OkE.lst s h (Ext.refl s) ⟨OwnL.shs r,List.nodup_nil,λ_ m=>by cases m⟩ (λ_ m=>by cases m) hp
theorem OkE.tupF {Q:VK} {ds:List PyData} {vs:List V} {p:Addr} (s:bb F H) (h:OkE M F1 H1 Q (.sh (.tuple ds))) (e:Ext F1 H1 F H) (r:RepAll M.K F vs ds) (hp:H p=none):Q (.ref p) (upd H p (.tup vs)) :=
 h (.ref p) (upd F p (.tup vs)) _ [] (e.trans (Ext.allocF s hp)) (Res.sh (.tup cA (r.same ((bb.refl F).upd (s.free hp))))) λ_ m=>by cases m
theorem OwnL.of_shs {K:PySem.W.Frag} {vs:List V} {xs:List OD} {f:List Addr} {ds:List PyData} (o:OwnL K F H vs xs f) (e:L3.shs xs=some ds):f=[]/\RepAll K F vs ds:=by
 induction xs generalizing vs f ds with
 |nil =>
  cases o;unfold L3.shs at e;cases e;exact ⟨rfl,.nil⟩
 |cons a0 r0 ih0 =>
 cases o with
 |cons h0 r =>
  have ih:=λds=>ih0 (ds:=ds) r
  cases h0 with
  |sh h =>
   unfold L3.shs at e;split at e
   ·rename_i es q
    cases e;obtain ⟨rfl,k⟩:=ih _ q;exact ⟨rfl,.cons h k⟩
   ·cases e
  |ol _ _ =>
   unfold L3.shs at e;cases e
  |ot _ _ =>
   unfold L3.shs at e;cases e
  |od _ _ _ =>
   unfold L3.shs at e;cases e
end
noncomputable def tD (M:Mx) (n:Nat) (f:Fe):TE:=fun σ H Q=>∃F ρ fp,Stt M.K n F H σ ρ fp/\aG M H fp (OkE M F H Q) (f ρ)
noncomputable def tA (M:Mx) (n:Nat) (f:Fa):TA:=fun σ H Q=>∃F ρ fp,Stt M.K n F H σ ρ fp/\aG M H fp (OkL M F H Q) (f ρ)
noncomputable def tT (M:Mx) (n:Nat) (f:Ft):TT:=fun σ H Q=>∃F ρ fp,Stt M.K n F H σ ρ fp/\aG M H fp (OkH F H Q) (f ρ)
noncomputable def tO (M:Mx) (n:Nat) (f:Fo):TO:=fun σ H Q=>∃F ρ fp,Stt M.K n F H σ ρ fp/\aG M H fp (OkH F H Q) (f ρ)
noncomputable def Ok2 (M:Mx) (r:R2) (g:PyData->PyData->R OD):Prop:=∀(x y:V) (dx dy:PyData) (F H:Hp) (fp:List Addr) (Q:VK),bb F H->Rep M.K F x dx->Rep M.K F y dy->aG M H fp (OkE M F H Q) (g dx dy)->r x y H Q
noncomputable def Ok1 (M:Mx) (r:V->Hp->VK->Prop) (g:PyData->R OD):Prop:=∀(x:V) (dx:PyData) (F H:Hp) (fp:List Addr) (Q:VK),bb F H->Rep M.K F x dx->aG M H fp (OkE M F H Q) (g dx)->r x H Q
noncomputable def OkC (M:Mx) (r:List V->Hp->VK->Prop) (g:List PyData->R OD):Prop:=∀(x:List V) (dx:List PyData) (F H:Hp) (fp:List Addr) (Q:VK),bb F H->RepAll M.K F x dx->aG M H fp (OkE M F H Q) (g dx)->r x H Q
noncomputable def OkS (M:Mx) (r:V->Option Int->Option Int->Hp->VK->Prop) (g:PyData->Option Int->Option Int->R OD):Prop:=∀(x:V) (i j:Option Int) (dx:PyData) (F H:Hp) (fp:List Addr) (Q:VK),bb F H->Rep M.K F x dx->aG M H fp (OkE M F H Q) (g dx i j)->r x i j H Q
section
variable {M:Mx} {n:Nat} {σ:St} {H:Hp} {Q:VK} {QB:Bool->Hp->Prop} {fa fb:Fe} {ta tb:Ft}
theorem Ja {i:Nat} (h:tD M n (ae i) σ H Q):og i σ H Q:=by
 obtain ⟨F,ρ,fp,S,p⟩:=h;unfold ae at p;split at p
 ·rename_i d e
  obtain ⟨v,f,g1,g2,h1,h2,h3,h4⟩:=S.own.at e;cases h2 with
  |sh r=>exact ⟨v,h1,OkE.val S.same p r⟩
 ·exact p.elim
theorem d_c {v:V} {d:PyData} (hr:∀K F,Rep K F v d) (h:tD M n (eC d) σ H Q):tC v σ H Q:=by
 obtain ⟨F,ρ,fp,S,p⟩:=h;exact OkE.val S.same p (hr _ _)
theorem yM {r:R2} {g:PyData->PyData->R OD} (hg:Ok2 M r g) (h:tD M n (eOp g fa fb) σ H Q):tOp r (tD M n fa) (tD M n fb) σ H Q:=by
 obtain ⟨F,ρ,fp,S,p⟩:=h;refine ⟨F,ρ,fp,S,(aG.bind p).mono λx px v F1 H1 fx e1 r1 w1=>?_⟩
 obtain ⟨G1,d1,k1⟩:=r1.frz e1 w1;refine ⟨G1,ρ,fp,S.ext d1,((aG.bind px).ext d1).mono λy py v2 F2 H2 fy e2 r2 w2=>?_⟩
 obtain ⟨G2,d2,k2⟩:=r2.frz e2 w2;exact hg v v2 x.er y.er G2 H2 fp Q d2.fh (k1.same d2.ff) k2 ((py.ext (d1.trans d2)).mono λz hz=>hz.pre (d1.trans d2))
theorem Ku {r:V->Hp->VK->Prop} {g:PyData->R OD} (hg:Ok1 M r g) (h:tD M n (eUn g fa) σ H Q):tUn r (tD M n fa) σ H Q:=by
 obtain ⟨F,ρ,fp,S,p⟩:=h;refine ⟨F,ρ,fp,S,(aG.bind p).mono λx px v F1 H1 fx e1 r1 w1=>?_⟩
 obtain ⟨G1,d1,k1⟩:=r1.frz e1 w1;exact hg v x.er G1 H1 fp Q d1.fh k1 ((px.ext d1).mono λz hz=>hz.pre d1)
theorem ou {K:PySem.W.Frag} {F:Hp} {v:V} {d:PyData} {fp:List Addr} {P:Bool->Prop} (k:Rep K F v d) (p:aG M H fp P (truth d)):∃b,v=.bl b/\P b:=by
 cases d with
 |bool b =>
  cases k;exact ⟨b,rfl,p⟩
 |none=>exact p.elim
 |int _=>exact p.elim
 |str _=>exact p.elim
 |list _=>exact p.elim
 |tuple _=>exact p.elim
 |dict _=>exact p.elim
theorem xS (h:tT M n (aY fa) σ H QB):Cj (tD M n fa) σ H QB:=by
 obtain ⟨F,ρ,fp,S,p⟩:=h;refine ⟨F,ρ,fp,S,(aG.bind p).mono λx px v F1 H1 fx e1 r1 w1=>?_⟩
 obtain ⟨G1,d1,k1⟩:=r1.frz e1 w1;obtain ⟨b,rfl,q⟩:=ou k1 px;exact ⟨b,rfl,q G1 H1 d1⟩
theorem d_b (h:tT M n (aY fa) σ H QB):tB (tD M n fa) σ H QB:=xS h
theorem FU (h:tT M n (lp ta tb) σ H QB):Jg (tT M n ta) (tT M n tb) σ H QB:=by
 obtain ⟨F,ρ,fp,S,p⟩:=h;refine ⟨F,ρ,fp,S,(aG.bind p).mono λc pc F1 H1 e1=>?_⟩
 cases c with
 |true =>
  rw [if_pos rfl]at pc ⊢;exact ⟨F1,ρ,fp,S.ext e1,(pc.ext e1).mono λb hb=>hb.pre e1⟩
 |false =>
  rw [if_neg Zm]at pc ⊢;exact pc F1 H1 e1
theorem Jo (h:tT M n (qC ta tb) σ H QB):tOr (tT M n ta) (tT M n tb) σ H QB:=by
 obtain ⟨F,ρ,fp,S,p⟩:=h;refine ⟨F,ρ,fp,S,(aG.bind p).mono λc pc F1 H1 e1=>?_⟩
 cases c with
 |true =>
  rw [if_pos rfl]at pc ⊢;exact pc F1 H1 e1
 |false =>
  rw [if_neg Zm]at pc ⊢;exact ⟨F1,ρ,fp,S.ext e1,(pc.ext e1).mono λb hb=>hb.pre e1⟩
theorem Eh (h:tT M n (kI ta) σ H QB):Iv (tT M n ta) σ H QB:=by
 obtain ⟨F,ρ,fp,S,p⟩:=h;exact ⟨F,ρ,fp,S,(aG.bind p).mono λc pc F1 H1 e1=>pc F1 H1 e1⟩
theorem GP (h:tD M n (nc fa fb) σ H Q):BR (tD M n fa) (tD M n fb) σ H Q:=by
 obtain ⟨F,ρ,fp,S,p⟩:=h;refine ⟨F,ρ,fp,S,(aG.bind p).mono λx px v F1 H1 fx e1 r1 w1=>?_⟩
 obtain ⟨G1,d1,k1⟩:=r1.frz e1 w1;obtain ⟨b,rfl,q⟩:=ou k1 (aG.bind px);refine ⟨b,rfl,?_⟩;cases b with
 |true =>
  rw [if_pos rfl]at q ⊢;exact ⟨G1,ρ,fp,S.ext d1,(q.ext d1).mono λz hz=>hz.pre d1⟩
 |false =>
  rw [if_neg Zm]at q ⊢;exact OkE.val d1.fh (OkE.pre d1 q) (.bl _)
theorem GQ (h:tD M n (wu fa) σ H Q):Co (tD M n fa) σ H Q:=by
 obtain ⟨F,ρ,fp,S,p⟩:=h;refine ⟨F,ρ,fp,S,(aG.bind p).mono λx px v F1 H1 fx e1 r1 w1=>?_⟩
 obtain ⟨G1,d1,k1⟩:=r1.frz e1 w1;obtain ⟨b,rfl,q⟩:=ou k1 (aG.bind px);exact ⟨b,rfl,OkE.val d1.fh (OkE.pre d1 q) (.bl _)⟩
theorem Ki (h:tD M n (eIf ta fa fb) σ H Q):tIf (tT M n ta) (tD M n fa) (tD M n fb) σ H Q:=by
 obtain ⟨F,ρ,fp,S,p⟩:=h;refine ⟨F,ρ,fp,S,(aG.bind p).mono λc pc F1 H1 e1=>?_⟩
 cases c with
 |true =>
  rw [if_pos rfl]at pc ⊢;exact ⟨F1,ρ,fp,S.ext e1,(pc.ext e1).mono λb hb=>hb.pre e1⟩
 |false =>
  rw [if_neg Zm]at pc ⊢;exact ⟨F1,ρ,fp,S.ext e1,(pc.ext e1).mono λb hb=>hb.pre e1⟩
theorem oa (h:tD M n (eSh fa) σ H Q):tD M n fa σ H Q:=by
 obtain ⟨F,ρ,fp,S,p⟩:=h;refine ⟨F,ρ,fp,S,(aG.bind p).mono λx px v F1 H1 fx e1 r1 w1=>?_⟩
 obtain ⟨G1,d1,k1⟩:=r1.frz e1 w1;exact OkE.val d1.fh (OkE.pre d1 px) k1
theorem tH {K:PySem.W.Frag} {F G:Hp} {v:V} {d:PyData} (h:flat d=true) (r:Rep K F v d):Rep K G v d:=by
 cases r with
 |non=>exact .non
 |bl b=>exact .bl b
 |int i=>exact .int i
 |str x=>exact .str x
 |lst _ _=>cases h
 |tup _ _=>cases h
 |dct _ _ _=>cases h
theorem HA (h:tD M n (j4 fa) σ H Q):tD M n fa σ H Q:=by
 obtain ⟨F,ρ,fp,S,p⟩:=h;refine ⟨H,erase ρ,[],S.erase,(aG.bind p).nofp.mono λx px v F1 H1 fx e1 r1 w1=>?_⟩
 by_cases hf:flat x.er=true
 ·rw [if_pos hf]at px
  obtain ⟨G1,d1,k1⟩:=r1.frz e1 w1;exact px v F H1 [] ⟨bb.refl _,d1.hh,S.same.trans d1.hh,λ_ _ z=>z⟩ (Res.sh (tH hf k1)) λ_ m=>by cases m
 ·rw [if_neg hf]at px
  exact px.elim
theorem Gn (h:tT M n (ve ta) σ H QB):tT M n ta σ H QB:=by
 obtain ⟨F,ρ,fp,S,p⟩:=h;refine ⟨H,erase ρ,[],S.erase,(show aG M H fp _ (ta (erase ρ)) from p).nofp.mono λb pb F1 H1 e1=>?_⟩
 exact pb F H1 ⟨bb.refl _,e1.hh,S.same.trans e1.hh,λ_ _ z=>z⟩
variable {QL:List V->Hp->Prop} {al:Fa}
theorem Du (h:tA M n av σ H QL):vh σ H QL:=by
 obtain ⟨F,ρ,fp,S,p⟩:=h;exact p [] F H [] (Ext.refl S.same) ResL.nil λ_ m=>by cases m
theorem Bz (h:tA M n (af fa al) σ H QL):mX (tD M n fa) (tA M n al) σ H QL:=by
 obtain ⟨F,ρ,fp,S,p⟩:=h;refine ⟨F,ρ,fp,S,(aG.bind p).mono λx px v F1 H1 fx e1 r1 w1=>?_⟩
 refine ⟨F1,ρ,fp,S.ext e1,((aG.bind px).ext e1).mono λxs pxs vs F2 H2 fxs e2 r2 w2=>?_⟩
 refine pxs (v :: vs) F2 H2 (fx++fxs) (e1.trans e2) (ResL.cons (r1.ext e2) r2 λa m q=>?_) λa m=>?_
 ·obtain ⟨o,z⟩:=r1.own.dom a m
  rw [w2 a q]at z;cases z
 ·rcases Zs.mp m with m | m
  ·exact w1 a m
  ·exact e1.hh.free (w2 a m)
theorem jq {k:Nat} (h:k<=BIG):k<=sizeLine:=ZG h (by decide)
theorem rD {k:Nat} (h:k<BIG):k<sizeLine:=ZI h (by decide)
theorem GL (h:tD M n (ez al) σ H Q):Jb (tA M n al) σ H Q:=by
 obtain ⟨F,ρ,fp,S,p⟩:=h;refine ⟨F,ρ,fp,S,(aG.bind p).mono λxs px vs F1 H1 fx e1 r1 w1=>?_⟩
 by_cases hl:xs.length<=BIG
 ·rw [if_pos hl]at px
  exact ⟨by rw [r1.own.len];exact jq hl,λa ha=>OkE.lst e1.fh px e1 r1 w1 ha⟩
 ·rw [if_neg hl]at px
  exact px.elim
theorem GJ (h:tD M n (g5 al) σ H Q):HJ (tA M n al) σ H Q:=by
 obtain ⟨F,ρ,fp,S,p⟩:=h;refine ⟨F,ρ,fp,S,(aG.bind p).mono λxs px vs F1 H1 fx e1 r1 w1=>?_⟩
 by_cases hl:xs.length<=BIG
 ·rw [if_pos hl]at px
  refine ⟨by rw [r1.own.len];exact jq hl,λa ha=>?_⟩
  unfold mkT at px;split at px
  ·rename_i ds q
   obtain ⟨_,k⟩:=OwnL.of_shs r1.own q;exact OkE.tupF e1.fh px e1 k ha
  ·exact OkE.tup e1.fh px e1 r1 w1 ha
 ·rw [if_neg hl]at px
  exact px.elim
noncomputable def sp3 (K:PySem.W.Frag) (mg:Str->Option Value) (f:Fn):Sp:=λvs H Q E=>∃F ds,bb F H/\RepAll K F vs ds/\aG ⟨K,mg,E⟩ H [] (OkE ⟨K,mg,E⟩ F H Q) (f ds)
theorem Fu {f:Fn} (h:tD M n (aL f al) σ H Q):yI (sp3 M.K M.mg f) [] M.E (tA M n al) σ H Q:=by
 obtain ⟨F,ρ,fp,S,p⟩:=h;refine ⟨F,ρ,fp,S,(aG.bind p).mono λxs px vs F1 H1 fx e1 r1 w1=>?_⟩
 obtain ⟨G1,d1,k1⟩:=r1.frz e1 w1;rw [Zx];exact ⟨G1,xs.map OD.er,d1.fh,k1,(px.ext d1).nofp.mono λz hz=>hz.pre d1⟩
theorem HZ {r:List V->Hp->VK->Prop} {g:List PyData->R OD} (hg:OkC M r g) (h:tD M n (eB g al) σ H Q):tCB r (tA M n al) σ H Q:=by
 obtain ⟨F,ρ,fp,S,p⟩:=h;refine ⟨F,ρ,fp,S,(aG.bind p).mono λxs px vs F1 H1 fx e1 r1 w1=>?_⟩
 obtain ⟨G1,d1,k1⟩:=r1.frz e1 w1;exact hg vs (xs.map OD.er) G1 H1 fp Q d1.fh k1 ((px.ext d1).mono λz hz=>hz.pre d1)
variable {QO:Option Int->Hp->Prop} {lo hi:Fo}
theorem AJ (h:tO M n ji σ H QO):vq σ H QO:=by
 obtain ⟨F,ρ,fp,S,p⟩:=h;exact p F H (Ext.refl S.same)
theorem Bi (h:tO M n (iA fa) σ H QO):Cv (tD M n fa) σ H QO:=by
 obtain ⟨F,ρ,fp,S,p⟩:=h;refine ⟨F,ρ,fp,S,(aG.bind p).mono λx px v F1 H1 fx e1 r1 w1=>?_⟩
 obtain ⟨G1,d1,k1⟩:=r1.frz e1 w1;generalize x.er=d at px k1
 cases d with
 |int i =>
  cases k1;exact ⟨i,rfl,px G1 H1 d1⟩
 |none=>exact px.elim
 |bool _=>exact px.elim
 |str _=>exact px.elim
 |list _=>exact px.elim
 |tuple _=>exact px.elim
 |dict _=>exact px.elim
theorem JW {r:V->Option Int->Option Int->Hp->VK->Prop} {g:PyData->Option Int->Option Int->R OD} (hg:OkS M r g) (h:tD M n (eSl g fa lo hi) σ H Q):tSl r (tD M n fa) (tO M n lo) (tO M n hi) σ H Q:=by
 obtain ⟨F,ρ,fp,S,p⟩:=h;refine ⟨F,ρ,fp,S,(aG.bind p).mono λx px v F1 H1 fx e1 r1 w1=>?_⟩
 obtain ⟨G1,d1,k1⟩:=r1.frz e1 w1;refine ⟨G1,ρ,fp,S.ext d1,((aG.bind px).ext d1).mono λi pi F2 H2 e2=>?_⟩
 refine ⟨F2,ρ,fp,(S.ext d1).ext e2,((aG.bind pi).ext (d1.trans e2)).mono λj pj F3 H3 e3=>?_⟩
 have e:=(d1.trans e2).trans e3;exact hg v i j x.er F3 H3 fp Q e3.fh ((k1.same e2.ff).same e3.ff) ((pj.ext e).mono λz hz=>hz.pre e)
end
noncomputable def g8 (M:Mx) (n:Nat) (F H:Hp) (fp:List Addr) (D:Ends):Out->Prop
 |.nx ρ=>∀σ' F' H' fp',Stt M.K n F' H' σ' ρ fp'->Stp F H fp F' H' fp'->D.nx σ' H'
 |.bk ρ=>∀σ' F' H' fp',Stt M.K n F' H' σ' ρ fp'->Stp F H fp F' H' fp'->D.bk σ' H'
 |.ct ρ=>∀σ' F' H' fp',Stt M.K n F' H' σ' ρ fp'->Stp F H fp F' H' fp'->D.ct σ' H'
 |.rt x=>∀v F' H' fx,bb F' H'->Res M.K F' H' v x fx->Stp F H fp F' H' fx->D.rt v H'
noncomputable def tS (M:Mx) (n:Nat) (f:Fs):TS:=λD σ H=>∃F ρ fp,Stt M.K n F H σ ρ fp/\aG M H fp (g8 M n F H fp D) (f ρ)
noncomputable def OkG (M:Mx) (n:Nat) (is:List Nat) (F H:Hp) (fp:List Addr) (σ:St) (Q:St->Hp->Prop) (ρ:Env):Prop :=
 ∀σ' F' H' fp',Stt M.K n F' H' σ' ρ fp'->Stp F H fp F' H' fp'->(∀j,j∉is->σ'[j]?=σ[j]?)->Q σ' H'
noncomputable def tG (M:Mx) (n:Nat) (is:List Nat) (f:Fg):TG:=λv σ H Q=>∃F ρ fp x fx,Stt M.K n F H σ ρ fp/\Res M.K F H v x fx/\(∀a∈fx,a∉fp)/\aG M H (fp++fx) (OkG M n is F H (fp++fx) σ Q) (f x ρ)
noncomputable def tGs (M:Mx) (n:Nat) (is:List Nat) (f:Fgs):TGs:=λvs σ H Q=>∃F ρ fp xs fx,Stt M.K n F H σ ρ fp/\ResL M.K F H vs xs fx/\(∀a∈fx,a∉fp)/\aG M H (fp++fx) (OkG M n is F H (fp++fx) σ Q) (f xs ρ)
section
variable {M:Mx} {n:Nat} {F H F1 H1 F2 H2:Hp} {fp fp1 fp2:List Addr} {σ:St} {ρ:Env} {D:Ends}
theorem g8.stp (s:Stp F H fp F1 H1 fp1) {o:Out} (h:g8 M n F H fp D o):g8 M n F1 H1 fp1 D o:=by
 cases o with
 |nx ρ=>exact fun σ' F' H' fp' a b=>h σ' F' H' fp' a (s.trans b)
 |bk ρ=>exact fun σ' F' H' fp' a b=>h σ' F' H' fp' a (s.trans b)
 |ct ρ=>exact fun σ' F' H' fp' a b=>h σ' F' H' fp' a (s.trans b)
 |rt x=>exact λv F' H' fx a b c=>h v F' H' fx a b (s.trans c)
theorem PostS.stp (s:Stp F H fp F1 H1 fp1) {r:R Out} (h:aG M H fp (g8 M n F H fp D) r):aG M H1 fp1 (g8 M n F1 H1 fp1 D) r:=(h.stp s).mono λo ho=>ho.stp s
theorem Ext.stpN {fx:List Addr} (e:Ext F H F1 H1) (w:∀a∈fx,H a=none):Stp F H fp F1 H1 (fp++fx) :=
 ⟨e.ff,λa o h _=>e.hh a o h,λa m=>(Zs.mp m).elim .inl λm=>.inr (w a m),λa h _ z=>e.nw a h z⟩
theorem Stp.sub (s:Stp F H fp F1 H1 fp1) (h:∀a∈fp2,a∈fp1):Stp F H fp F1 H1 fp2:=⟨s.ff,s.keep,λa m=>s.new a (h a m),s.nw⟩
theorem EY (h:tS M n sNx D σ H):B_ D σ H:=by
 obtain ⟨F,ρ,fp,S,p⟩:=h;exact p σ F H fp S Stp.refl
theorem Jy {f g:Fs} (h:tS M n (aD f g) D σ H):HH (tS M n f) (tS M n g) D σ H:=by
 obtain ⟨F,ρ,fp,S,p⟩:=h;refine ⟨F,ρ,fp,S,(aG.bind p).mono λo po=>?_⟩
 cases o with
 |nx ρ1=>exact fun σ' F' H' fp' S' st=>⟨F',ρ1,fp',S',PostS.stp st po⟩
 |bk ρ=>exact po
 |ct ρ=>exact po
 |rt x=>exact po
theorem Hn (h:tS M n Gp D σ H):xY D σ H:=by
 obtain ⟨F,ρ,fp,S,p⟩:=h;exact p
theorem Ks {t:Ft} {f g:Fs} (h:tS M n (sIf t f g) D σ H):Ic (tT M n t) (tS M n f) (tS M n g) D σ H:=by
 obtain ⟨F,ρ,fp,S,p⟩:=h;refine ⟨F,ρ,fp,S,(aG.bind p).mono λc pc F1 H1 e1=>?_⟩
 cases c with
 |true =>
  rw [if_pos rfl]at pc ⊢;exact ⟨F1,ρ,fp,S.ext e1,PostS.stp e1.stp pc⟩
 |false =>
  rw [if_neg Zm]at pc ⊢;exact ⟨F1,ρ,fp,S.ext e1,PostS.stp e1.stp pc⟩
theorem FV {a:Fe} (h:tS M n (tL a) D σ H):m7 (tD M n a) D σ H:=by
 obtain ⟨F,ρ,fp,S,p⟩:=h;exact ⟨F,ρ,fp,S,(aG.bind p).mono λx px v F1 H1 fx e1 r1 w1=>px σ F1 H1 fp (S.ext e1) e1.stp⟩
theorem HK {a:Fe} (h:tS M n (eO a) D σ H):Gj (tD M n a) D σ H:=by
 obtain ⟨F,ρ,fp,S,p⟩:=h;exact ⟨F,ρ,fp,S,(aG.bind p).mono λx px v F1 H1 fx e1 r1 w1=>px v F1 H1 fx e1.fh r1 ((e1.stpN w1).sub λa m=>Zq _ m)⟩
theorem Fy {i:Nat} (h:tS M n (eX i) D σ H):Gj (og i) D σ H:=by
 obtain ⟨F,ρ,fp,S,p⟩:=h;unfold eX at p;split at p
 ·rename_i x e
  obtain ⟨v,f,g1,g2,h1,h2,rfl,h4⟩:=S.own.at e;have sub:∀a∈f,a∈g1++(f++g2):=λa m=>Zq _ (Zw _ m)
  refine ⟨v,h1,p v F H f S.same ⟨h2,?_,λa m=>S.fr a (sub a m)⟩ (Stp.refl.sub sub)⟩
  have nd:=S.nd;simp only [ZK]at nd;exact nd.2.1.1
 ·exact p.elim
theorem Cd {a:Fe} {is:List Nat} {g:Fg} (h:tS M n (tQ a g) D σ H):uV (tD M n a) (tG M n is g) D σ H:=by
 obtain ⟨F,ρ,fp,S,p⟩:=h;refine ⟨F,ρ,fp,S,(aG.bind p).mono λx px v F1 H1 fx e1 r1 w1=>?_⟩
 have st:=e1.stpN (fp:=fp) w1;refine ⟨F1,ρ,fp,x,fx,S.ext e1,r1,λa m q=>?_,((aG.bind px).stp st).mono fun ρ' hρ σ' F' H' fp' S' s' _=>hρ σ' F' H' fp' S' (st.trans s')⟩
 obtain ⟨o,z⟩:=S.own.dom a q;rw [w1 a m]at z;cases z
theorem yK {i:Nat} (hi:i<n) {v:V} {Q:St->Hp->Prop} (h:tG M n [i] (gNm i) v σ H Q):sr i v σ H Q:=by
 obtain ⟨F,ρ,fp,x,fx,S,r,d,p⟩:=h;obtain ⟨fp',S',sub⟩:=S.set hi r d;refine p _ F H fp' S' ⟨bb.refl _,λ_ _ h _=>h,λa m=>.inl (Zs.mpr (sub a m)),λ_ _ _ z=>z⟩ λj hj=>?_
 have hne:i≠j:=by
  rintro rfl;exact hj (by simp)
 rw [List.getElem?_set_ne hne]
theorem Ir {vs:List V} {Q:St->Hp->Prop} (h:tGs M n [] eR vs σ H Q):HS vs σ H Q:=by
 obtain ⟨F,ρ,fp,xs,fx,S,r,d,p⟩:=h;cases xs with
 |nil =>
  cases r.own with
  |nil=>exact ⟨rfl,p σ F H fp S (Stp.refl.sub λa m=>Zw _ m) λ_ _=>rfl⟩
 |cons x xs=>exact p.elim
theorem CV {vs:List V} {is js:List Nat} {g:Fg} {gs:Fgs} {Q:St->Hp->Prop} (h:tGs M n (is++js) (aO g gs) vs σ H Q):CA (tG M n is g) (tGs M n js gs) vs σ H Q:=by
 obtain ⟨F,ρ,fp,xs,fx,S,r,d,p⟩:=h;cases xs with
 |nil=>exact p.elim
 |cons x xs =>
  obtain ⟨ro,rn,rf⟩:=r;cases ro with
  |@cons v _ f vs _ g' h1 h2 =>
   have nd:=rn;simp only [ZK]at nd;refine ⟨v,vs,rfl,F,ρ,fp,x,f,S,⟨h1,nd.1,λa m=>rf a (Zw _ m)⟩,λa m=>d a (Zw _ m),?_⟩
   have p':aG M H (fp++(f++g')) _ ((g x ρ).bind fun ρ'=>gs xs ρ'):=p
   have s0:Stp F H (fp++(f++g')) F H (fp++f):=Stp.refl.sub λa m=>by
    simp only [Zs]at m ⊢;rcases m with m | m
    ·exact .inl m
    ·exact .inr (.inl m)
   refine ((aG.bind p').stp s0).mono fun ρ1 p1 σ1 F1 H1 fp1 S1 s1 t1=>?_
   have gd:∀a∈g',a∉fp++f:=λa m q=>by
    rcases Zs.mp q with q | q
    ·exact d a (Zq _ m) q
    ·exact nd.2.2 a q a m rfl
   have hd:∀a∈g',H a≠none:=λa m=>let ⟨_,q⟩:=h2.dom a m;cy q
   have k1:∀a∈g',∀o,H a=some o->H1 a=some o:=λa m o q=>s1.keep a o q (gd a m)
   have out:∀a∈g',a∉fp1:=λa m=>s1.out (hd a m) (gd a m)
   have s2:Stp F H (fp++(f++g')) F1 H1 (fp1++g'):=⟨s1.ff,λa o q m=>s1.keep a o q (λz=>m (by simp only [Zs]at z ⊢;rcases z with z | z <;> simp [z])),λa m=>by
    rcases Zs.mp m with m | m
    ·rcases s1.new a m with z | z
     ·exact .inl (by simp only [Zs]at z ⊢;rcases z with z | z <;> simp [z])
     ·exact .inr z
    ·exact .inl (by simp [m]),λa q m z=>s1.nw a q (λw=>m (by simp only [Zs]at w ⊢;rcases w with w | w <;> simp [w])) z⟩
   refine ⟨F1,ρ1,fp1,xs,g',S1,⟨h2.mono s1.ff k1,nd.2.1,λa m=>s1.nw a (hd a m) (gd a m) (rf a (Zq _ m))⟩,out,(p1.stp s2).mono fun ρ' hρ σ' F' H' fp' S' s' t'=>hρ σ' F' H' fp' S' (s2.trans s') λj hj=>?_⟩
   have hj1:j∉is:=λz=>hj (Zw _ z)
   have hj2:j∉js:=λz=>hj (Zq _ z)
   rw [t' j hj2,t1 j hj1]
theorem Jn {k:Nat} {v:V} {is:List Nat} {gs:Fgs} {Q:St->Hp->Prop} (h:tG M n is (gTp k gs) v σ H Q):GH M.K k (tGs M n is gs) v σ H Q:=by
 obtain ⟨F,ρ,fp,x,fx,S,r,d,p⟩:=h;unfold gTp at p;split at p
 ·rename_i xs
  obtain ⟨ro,rn,rf⟩:=r;cases ro with
  |@ot a vs _ f h1 h2 =>
   by_cases hl:xs.length=k
   ·rw [if_pos hl]at p
    have nd:=List.nodup_cons.mp rn;have s0:Stp F H (fp++(a :: f)) F H (fp++f):=Stp.refl.sub λb m=>by
     simp only [Zs,Zo]at m ⊢;rcases m with m | m <;> simp [m]
    exact ⟨a,vs,rfl,SqT.of h1,by rw [h2.len];exact hl,F,ρ,fp,xs,f,S,⟨h2,nd.2,λb m=>rf b (Ze _ m)⟩,λb m=>d b (Ze _ m),(p.stp s0).mono fun ρ' hρ σ' F' H' fp' S' s' t'=>hρ σ' F' H' fp' S' (s0.trans s') t'⟩
   ·rw [if_neg hl]at p
    exact p.elim
 ·rename_i ds
  obtain ⟨ro,rn,rf⟩:=r;cases ro with
  |sh q =>
   by_cases hl:ds.length=k
   ·rw [if_pos hl]at p
    cases q with
    |@tup a vs _ h1 h2 =>
     exact ⟨a,vs,rfl,SqT.of (S.same _ _ h1),by rw [RepAll.len h2];exact hl,F,ρ,fp,ds.map OD.sh,[],S,⟨OwnL.shs h2,List.nodup_nil,λ_ m=>by cases m⟩,(λ_ m=>by cases m),p⟩
   ·rw [if_neg hl]at p
    exact p.elim
 ·exact p.elim
theorem BZ {a:Fe} {i:Nat} (hi:i<n) (h:tS M n (aN i a) D σ H):uV (tD M n a) (sr i) D σ H:=by
 have h':tS M n (tQ a (gNm i)) D σ H:=h;obtain ⟨F,ρ,fp,S,p⟩:=Cd (is:=[i]) h';exact ⟨F,ρ,fp,S,p.mono λx px v F1 H1 fx e1 r1 w1=>yK hi (px v F1 H1 fx e1 r1 w1)⟩
theorem IJ {f:Fs} {i:Nat} (h:tS M n (ke i f) D σ H):tS M n f D σ H:=by
 obtain ⟨F,ρ,fp,S,p⟩:=h;unfold ke zJ at p;split at p
 ·rename_i x e
  obtain ⟨v,f,g1,g2,h1,h2,rfl,h4⟩:=S.own.at e;have ff:∀a∈f,F a=none:=λa m=>S.fr a (Zq _ (Zw _ m))
  have o:=h4 (lK F H f) H (ig ff) (λ_ _ _ q=>q) v (.sh x.er) [] (.sh (h2.frz (ig ff) λa m o q=>by rw [j0 m];exact q))
  have hs:σ.set i (some v)=σ:=by
   apply List.ext_getElem?
   intro j;by_cases hj:i=j
   ·subst hj
    rw [h1,List.getElem?_set_self (Zb.mp h1).1]
   ·rw [List.getElem?_set_ne hj]
  rw [hs]at o;have nd:=S.nd;simp only [ZK,Zs]at nd;obtain ⟨n1,⟨n2,n3,n4⟩,n5⟩:=nd;have sub:∀a∈g1++([]++g2),a∈g1++(f++g2)/\a∉f:=λa m=>by
   simp only [List.nil_append,Zs]at m ⊢;rcases m with m | m
   ·exact ⟨.inl m,λz=>n5 a m a (.inl z) rfl⟩
   ·exact ⟨.inr (.inr m),λz=>n4 a z a m rfl⟩
  have st:Stp F H (g1++(f++g2)) (lK F H f) H (g1++([]++g2)):=⟨ig ff,λ_ _ h _=>h,λa m=>.inl (sub a m).1,λa h m z=>by
   rw [iB λw=>m (Zq _ (Zw _ w))]
   exact z⟩
  refine ⟨lK F H f,_,_,⟨qo S.same,o,?_,λa m=>?_,by rw [ZJ];exact S.len⟩,PostS.stp st p⟩
  ·simp only [List.nil_append,ZK]
   exact ⟨n1,n3,λa ha b hb=>n5 a ha b (.inr hb)⟩
  ·rw [iB (sub a m).2]
   exact S.fr a (sub a m).1
 ·exact ⟨F,ρ,fp,S,p⟩
end
noncomputable def Walks (K:PySem.W.Frag) (F:Hp) (J:It) (ds:List PyData):Prop:=∀i G H,bb F G->bb G H ->
 (∀d,ds[i]?=some d->J.go i H/\∀x H',J.yld i H x H'->∃G',Ext G H G' H'/\Rep K G' x d)/\(ds.length<=i->J.stop i H)
noncomputable def OkI (K:PySem.W.Frag) (F H:Hp) (R:It->Hp->Prop) (ds:List PyData):Prop:=∀J F' H',Ext F H F' H'->Walks K F' J ds->R J H'
noncomputable def tI (M:Mx) (n:Nat) (f:Fi):TI:=fun σ H R=>∃F ρ fp,Stt M.K n F H σ ρ fp/\aG M H fp (OkI M.K F H R) (f ρ)
section
variable {M:Mx} {n:Nat} {F H:Hp} {σ:St} {D:Ends} {R':It->Hp->Prop}
theorem EF {a:Fe} (h:tI M n (e7 a) σ H R'):Cr M.K (tD M n a) σ H R':=by
 obtain ⟨F,ρ,fp,S,p⟩:=h;refine ⟨F,ρ,fp,S,(aG.bind p).mono λx px v F1 H1 fx e1 r1 w1=>?_⟩
 obtain ⟨G1,d1,k1⟩:=r1.frz e1 w1;generalize x.er=d at px k1
 cases k1 with
 |@lst a vs ds h1 h2 =>
  refine ⟨a,rfl,⟨vs,(h1.same d1.fh).sq⟩,px _ G1 H1 d1 λi G H' s1 s2=>?_⟩
  have hq:=(h1.same (s1.trans s2)).sq;refine ⟨λd hd=>?_,λhl=>⟨vs,hq,by rw [RepAll.len h2];exact hl⟩⟩
  obtain ⟨u,hu,ru⟩:=RepAll.get h2 hd;refine ⟨⟨vs,u,hq,hu⟩,λx H2 y=>?_⟩
  obtain ⟨rfl,y⟩:=y;have hx:=y vs hq;rw [hu]at hx;cases hx;exact ⟨G,Ext.refl s2,ru.same s1⟩
 |non=>exact px.elim
 |bl _=>exact px.elim
 |int _=>exact px.elim
 |str _=>exact px.elim
 |dct _ _ _=>exact px.elim
 |tup _ _=>exact px.elim
theorem Hc {a:Fe} (h:tI M n (iTp a) σ H R'):IP M.K (tD M n a) σ H R':=by
 obtain ⟨F,ρ,fp,S,p⟩:=h;refine ⟨F,ρ,fp,S,(aG.bind p).mono λx px v F1 H1 fx e1 r1 w1=>?_⟩
 obtain ⟨G1,d1,k1⟩:=r1.frz e1 w1;generalize x.er=d at px k1
 cases k1 with
 |@tup a vs ds h1 h2 =>
  refine ⟨a,rfl,⟨vs,SqT.of (d1.fh _ _ h1)⟩,px _ G1 H1 d1 λi G H' s1 s2=>?_⟩
  have hq:SqT M.K H' a vs:=SqT.of ((s1.trans s2) _ _ h1);refine ⟨λd hd=>?_,λhl=>⟨vs,hq,by rw [RepAll.len h2];exact hl⟩⟩
  obtain ⟨u,hu,ru⟩:=RepAll.get h2 hd;refine ⟨⟨vs,u,hq,hu⟩,λx H2 y=>?_⟩
  obtain ⟨rfl,y⟩:=y;have hx:=y vs hq;rw [hu]at hx;cases hx;exact ⟨G,Ext.refl s2,ru.same s1⟩
 |non=>exact px.elim
 |bl _=>exact px.elim
 |int _=>exact px.elim
 |str _=>exact px.elim
 |dct _ _ _=>exact px.elim
 |lst _ _=>exact px.elim
theorem ox {K:PySem.W.Frag} (lo:Int) (k:Nat):Walks K F (Itr lo k) (kf lo k):=by
 intro i G H s1 s2;unfold kf;refine ⟨λd hd=>?_,λhl=>(show k<=i by simpa using hl)⟩
 rw [Za]at hd;obtain ⟨j,hj,rfl⟩:=Zp.mp hd;obtain ⟨h1,h2⟩:=Zb.mp hj;have h3:i=j:=by simpa using h2
 subst h3;refine ⟨(show i<k by simpa using h1),λx H' y=>?_⟩
 obtain ⟨rfl,rfl⟩:=y;exact ⟨G,Ext.refl s2,.int _⟩
theorem f_ {i:Int}:aK i=true ↔ -(2 ^ 62)<=i/\i<2 ^ 62:=by
 unfold aK;rw [Zv,decide_eq_true_eq,decide_eq_true_eq]
theorem KH {a:Fe} (h:tI M n (iR1 a) σ H R'):BV (tA M n (af a av)) σ H R':=by
 obtain ⟨F,ρ,fp,S,p⟩:=h;refine ⟨F,ρ,fp,S,?_⟩;have p1:=aG.bind p;show aG M H fp _ ((a ρ).bind λx=>R.ok [x])
 cases ha:a ρ with
 |bad=>rw [ha]at p1;exact p1
 |ex c=>rw [ha]at p1;exact p1
 |ok x =>
  rw [ha]at p1;intro vs F1 H1 fx e1 r1 w1;obtain ⟨G1,d1,k1⟩:=r1.frz e1 w1;cases k1 with
  |@cons v _ _ _ k1 k2 =>
   cases k2;have p2:aG M H fp (OkI M.K F H R') (match x.er with | .int j=>if aK j=true then .ok (kf 0 j.toNat) else .bad | _=>.bad):=p1
   generalize x.er=d at p2 k1
   cases k1 with
   |int j =>
    by_cases hs:aK j=true
    ·have hs':=f_.mp hs
     have p3:aG M H fp (OkI M.K F H R') (if aK j=true then .ok (kf 0 j.toNat) else .bad):=p2
     rw [if_pos hs]at p3;exact ⟨j,rfl,hs'.1,hs'.2,p3 _ G1 H1 d1 (ox _ _)⟩
    ·have p3:aG M H fp (OkI M.K F H R') (if aK j=true then .ok (kf 0 j.toNat) else .bad):=p2
     rw [if_neg hs]at p3;exact p3.elim
   |non=>exact p2.elim
   |bl _=>exact p2.elim
   |str _=>exact p2.elim
   |dct _ _ _=>exact p2.elim
   |lst _ _=>exact p2.elim
   |tup _ _=>exact p2.elim
theorem tj {a b:Fe} {g:PyData->PyData->R (List PyData)} {ρ:Env} {fp:List Addr} {QL:List V->Hp->Prop}
  (p:aG M H fp (OkI M.K F H R') ((a ρ).bind λx=>(b ρ).bind λy=>g x.er y.er))
  (k:∀v w dx dy G H1,Ext F H G H1->Rep M.K G v dx->Rep M.K G w dy->aG M H fp (OkI M.K F H R') (g dx dy)->QL [v,w] H1) :
  aG M H fp (OkL M F H QL) (af a (af b av) ρ):=by
 show aG M H fp _ ((a ρ).bind λx=>((b ρ).bind λy=>R.ok [y]).bind λxs=>R.ok (x :: xs))
 have p1:=aG.bind p;cases ha:a ρ with
 |bad=>rw [ha]at p1;exact p1
 |ex c=>rw [ha]at p1;exact p1
 |ok x =>
  rw [ha]at p1;have p2:aG M H fp _ (b ρ):=aG.bind p1;show aG M H fp _ (((b ρ).bind λy=>R.ok [y]).bind λxs=>R.ok (x :: xs))
  cases hb:b ρ with
  |bad=>rw [hb]at p2;exact p2
  |ex c=>rw [hb]at p2;exact p2
  |ok y =>
   rw [hb]at p2;intro vs F1 H1 fx e1 r1 w1;obtain ⟨G1,d1,k1⟩:=r1.frz e1 w1;cases k1 with
   |@cons v _ _ _ k1 k2 =>
    cases k2 with
    |@cons w _ _ _ k2 k3 =>
     cases k3;exact k v w x.er y.er G1 H1 d1 k1 k2 p2
noncomputable def r2F (x y:PyData):R (List PyData):=match x,y with
 |.int i,.int j=>if (aK i && aK j)=true then .ok (kf i (j-i).toNat) else .bad
 |_,_=>.bad
theorem KO {a b:Fe} (h:tI M n (iR2 a b) σ H R'):Cw (tA M n (af a (af b av))) σ H R':=by
 obtain ⟨F,ρ,fp,S,p⟩:=h;refine ⟨F,ρ,fp,S,tj (g:=r2F) (by unfold iR2 at p;exact p) λv w dx dy G H1 e rv rw' q=>?_⟩
 unfold r2F at q;split at q
 ·rename_i i j
  cases rv;cases rw';by_cases hs:(aK i && aK j)=true
  ·rw [if_pos hs]at q
   rw [Zv]at hs;have h1:=f_.mp hs.1;have h2:=f_.mp hs.2;exact ⟨i,j,rfl,⟨h1.1,h1.2,h2.1,h2.2⟩,q _ G H1 e (ox _ _)⟩
  ·rw [if_neg hs]at q
   exact q.elim
 ·exact q.elim
theorem jH {ds:List PyData} {i:Nat} {d:PyData} (h:(gT ds)[i]?=some d):∃e,ds[i]?=some e/\d=.tuple [.int i,e]:=by
 unfold gT at h;rw [Za]at h;obtain ⟨p,hp,rfl⟩:=Zp.mp h;rw [List.getElem?_zipIdx]at hp;obtain ⟨e,he,rfl⟩:=Zp.mp hp;exact ⟨e,he,by simp⟩
theorem DH {a:Fe} (h:tI M n (iEn a) σ H R'):BO M.K (tA M n (af a av)) σ H R':=by
 obtain ⟨F,ρ,fp,S,p⟩:=h;refine ⟨F,ρ,fp,S,?_⟩;have p1:=aG.bind p;show aG M H fp _ ((a ρ).bind λx=>R.ok [x])
 cases ha:a ρ with
 |bad=>rw [ha]at p1;exact p1
 |ex c=>rw [ha]at p1;exact p1
 |ok x =>
  rw [ha]at p1;intro vs F1 H1 fx e1 r1 w1;obtain ⟨G1,d1,k1⟩:=r1.frz e1 w1;cases k1 with
  |@cons v _ _ _ k1 k2 =>
   cases k2;have p2:aG M H fp (OkI M.K F H R') (match x.er with | .list ds=>.ok (gT ds) | _=>.bad):=p1
   generalize x.er=d at p2 k1
   cases k1 with
   |@lst a vs ds h1 h2 =>
    have p3:OkI M.K F H R' (gT ds):=p2;refine ⟨a,rfl,⟨vs,(h1.same d1.fh).sq⟩,p3 _ G1 H1 d1 λi G H' s1 s2=>?_⟩
    have hq:=(h1.same (s1.trans s2)).sq;refine ⟨λd hd=>?_,λhl=>⟨vs,hq,by rw [RepAll.len h2];unfold gT at hl;simpa using hl⟩⟩
    obtain ⟨e,he,rfl⟩:=jH hd;obtain ⟨u,hu,ru⟩:=RepAll.get h2 he;refine ⟨⟨vs,u,hq,hu⟩,λx H2 y=>?_⟩
    obtain ⟨T,z,hT,rfl,rfl,hz⟩:=y;have hx:=hz vs hq;rw [hu]at hx;cases hx;exact ⟨upd G T _,Ext.allocF s2 hT,.tup cA (.cons (.int _) (.cons ((ru.same s1).same ((bb.refl G).upd (s2.free hT))) .nil))⟩
   |int j=>exact p2.elim
   |non=>exact p2.elim
   |bl _=>exact p2.elim
   |str _=>exact p2.elim
   |dct _ _ _=>exact p2.elim
   |tup _ _=>exact p2.elim
noncomputable def Ap (x y:PyData):R (List PyData):=match x,y with
 |.list ds,.list es=>.ok (oU ds es)
 |_,_=>.bad
theorem yz {ds es:List PyData} {i:Nat} {d:PyData} (h:(oU ds es)[i]?=some d):∃x y,ds[i]?=some x/\es[i]?=some y/\d=.tuple [x,y]:=by
 unfold oU at h;rw [Za]at h;obtain ⟨p,hp,rfl⟩:=Zp.mp h;rw [List.getElem?_zip_eq_some]at hp;exact ⟨p.1,p.2,hp.1,hp.2,rfl⟩
theorem Gu {a b:Fe} (h:tI M n (iZp a b) σ H R'):Ht M.K (tA M n (af a (af b av))) σ H R':=by
 obtain ⟨F,ρ,fp,S,p⟩:=h;refine ⟨F,ρ,fp,S,tj (g:=Ap) (by unfold iZp at p;exact p) λv w dx dy G1 H1 d1 rv rw' q=>?_⟩
 unfold Ap at q;split at q
 ·rename_i ds es
  cases rv with
  |@lst a vs _ h1 h2 =>
   cases rw' with
   |@lst b ws _ h3 h4 =>
    refine ⟨a,b,rfl,⟨vs,(h1.same d1.fh).sq⟩,⟨ws,(h3.same d1.fh).sq⟩,q _ G1 H1 d1 λi G H' s1 s2=>?_⟩
    have hq:=(h1.same (s1.trans s2)).sq;have hq':=(h3.same (s1.trans s2)).sq;refine ⟨λd hd=>?_,λhl=>⟨vs,ws,hq,hq',?_⟩⟩
    ·obtain ⟨x,y,hx,hy,rfl⟩:=yz hd
     obtain ⟨u,hu,ru⟩:=RepAll.get h2 hx;obtain ⟨u',hu',ru'⟩:=RepAll.get h4 hy;refine ⟨⟨vs,u,ws,u',hq,hu,hq',hu'⟩,λx H2 y=>?_⟩
     obtain ⟨T,z,z',hT,rfl,rfl,hz,hz'⟩:=y;have e1:=hz vs hq;have e2:=hz' ws hq';rw [hu]at e1;rw [hu']at e2;cases e1;cases e2;have sg:bb G (upd G T (.tup [u,u'])):=(bb.refl G).upd (s2.free hT);exact ⟨upd G T _,Ext.allocF s2 hT,.tup cA (.cons ((ru.same s1).same sg) (.cons ((ru'.same s1).same sg) .nil))⟩
    ·rw [RepAll.len h2,RepAll.len h4]
     unfold oU at hl;rw [Zc,List.length_zip]at hl
     lia
 ·exact q.elim
theorem Jv {it:Fi} {is:List Nat} {g:Fg} {b:Fs} (h:tS M n (fV it g b) D σ H):IW (tI M n it) (tG M n is g) (tS M n b) D σ H:=by
 obtain ⟨F,ρ,fp,S,p⟩:=h;refine ⟨F,ρ,fp,S,(aG.bind p).mono λds pd J F1 H1 e1 wk=>?_⟩
 refine ⟨λi m σ' H'=>m=ds.length-i/\i<=ds.length/\∃F' ρ' fp',Stt M.K n F' H' σ' ρ' fp'/\bb F1 F'/\aG M H' fp' (g8 M n F' H' fp' D) (bJ g b (ds.drop i) ρ'),⟨ds.length,by simp,Nat.zero_le _,F1,ρ,fp,S.ext e1,bb.refl _,PostS.stp e1.stp pd⟩,?_⟩
 rintro i m σ' H' ⟨rfl,hi,F',ρ',fp',S',s',p'⟩;obtain ⟨w1,w2⟩:=wk i F' H' s' S'.same;by_cases hlt:i<ds.length
 ·obtain ⟨d,hd⟩:∃d,ds[i]?=some d:=⟨ds[i],by simp [hlt]⟩
  obtain ⟨g1,g2⟩:=w1 d hd;have e:ds.drop i=d :: ds.drop (i+1):=by
   rw [List.drop_eq_getElem_cons hlt];congr 1
   have:=(Zb.mp hd).2;exact this
  rw [e]at p';refine .inr ⟨g1,fun σ2 H2=>∃F2 ρ2 fp2,Stt M.K n F2 H2 σ2 ρ2 fp2/\bb F1 F2/\aG M H2 fp2 (g8 M n F2 H2 fp2 D) (bJ g b (ds.drop (i+1)) ρ2),fun σ2 H2 q=>⟨ds.length-(i+1),by lia,rfl,hlt,q⟩,λx H2 y=>?_⟩
  obtain ⟨G2,e2,rx⟩:=g2 x H2 y;have p2:aG M H' fp' _ ((g (.sh d) ρ').bind fun ρ1=>(b ρ1).bind λo=>match o with
   |.nx ρ2=>bJ g b (ds.drop (i+1)) ρ2
   |.ct ρ2=>bJ g b (ds.drop (i+1)) ρ2
   |.bk ρ2=>.ok (.nx ρ2)
   |.rt x=>.ok (.rt x)):=p'
  have st:Stp F' H' fp' G2 H2 (fp'++[]):=by
   rw [Zx];exact e2.stp
  refine ⟨G2,ρ',fp',.sh d,[],S'.ext e2,Res.sh rx,(λ_ m=>by cases m),((aG.bind p2).stp st).mono fun ρ1 p1 σ3 F3 H3 fp3 S3 s3 _=>?_⟩
  have s4:=st.trans s3;refine ⟨F3,ρ1,fp3,S3,((aG.bind p1).stp s4).mono λo po=>?_⟩
  cases o with
  |nx ρ2=>exact fun σ5 F5 H5 fp5 S5 s5=>⟨F5,ρ2,fp5,S5,(s'.trans s4.ff).trans s5.ff,PostS.stp (s4.trans s5) po⟩
  |ct ρ2=>exact fun σ5 F5 H5 fp5 S5 s5=>⟨F5,ρ2,fp5,S5,(s'.trans s4.ff).trans s5.ff,PostS.stp (s4.trans s5) po⟩
  |bk ρ2=>exact fun σ5 F5 H5 fp5 S5 s5=>po σ5 F5 H5 fp5 S5 (s4.trans s5)
  |rt x=>exact λv F5 H5 fx a r s5=>po v F5 H5 fx a r (s4.trans s5)
 ·have e:i=ds.length:=by lia
  subst e;refine .inl ⟨w2 (Zn _),?_⟩;rw [List.drop_length]at p';exact p' σ' F' H' fp' S' Stp.refl
theorem AQ {t:Ft} {b:Fs} (h:tS M n (fj t b) D σ H):xG (tT M n t) (tS M n b) D σ H:=by
 obtain ⟨F,ρ,fp,S,p⟩:=h;unfold fj at p;split at p
 ·rename_i hn
  refine ⟨λm σ' H'=>∃F' ρ' fp',Stt M.K n F' H' σ' ρ' fp'/\aG M H' fp' (g8 M n F' H' fp' D) (eU t b m ρ'),⟨_,F,ρ,fp,S,p⟩,?_⟩
  rintro m σ' H' ⟨F',ρ',fp',S',p'⟩;cases m with
  |zero=>exact p'.elim
  |succ m =>
   have p2:aG M H' fp' _ ((t ρ').bind λc=>if c=true then (b ρ').bind λo=>match o with
    |.nx ρ2=>eU t b m ρ2
    |.ct ρ2=>eU t b m ρ2
    |.bk ρ2=>.ok (.nx ρ2)
    |.rt x=>.ok (.rt x) else .ok (.nx ρ')):=p'
   refine ⟨F',ρ',fp',S',(aG.bind p2).mono λc pc F1 H1 e1=>?_⟩
   cases c with
   |true =>
    rw [if_pos rfl]at pc ⊢;refine ⟨fun σ2 H2=>∃F2 ρ2 fp2,Stt M.K n F2 H2 σ2 ρ2 fp2/\aG M H2 fp2 (g8 M n F2 H2 fp2 D) (eU t b m ρ2),fun σ2 H2 q=>⟨m,Nat.lt_succ_self _,q⟩,F1,ρ',fp',S'.ext e1,((aG.bind pc).ext e1).mono λo po=>?_⟩
    cases o with
    |nx ρ2=>exact fun σ5 F5 H5 fp5 S5 s5=>⟨F5,ρ2,fp5,S5,PostS.stp (e1.stp.trans s5) po⟩
    |ct ρ2=>exact fun σ5 F5 H5 fp5 S5 s5=>⟨F5,ρ2,fp5,S5,PostS.stp (e1.stp.trans s5) po⟩
    |bk ρ2=>exact fun σ5 F5 H5 fp5 S5 s5=>po σ5 F5 H5 fp5 S5 (e1.stp.trans s5)
    |rt x=>exact λv F5 H5 fx a r s5=>po v F5 H5 fx a r (e1.stp.trans s5)
   |false =>
    rw [if_neg Zm]at pc ⊢;exact pc σ' F1 H1 fp' (S'.ext e1) e1.stp
 ·exact p.elim
end
section
variable {M:Mx} {n:Nat} {F H F1 H1:Hp} {σ:St} {ρ:Env} {fp:List Addr} {D:Ends} {K:PySem.W.Frag}
theorem OwnS.nones {K:PySem.W.Frag}:∀(k:Nat) {σ:St} {ρ:Env} {g:List Addr},OwnS K F H σ ρ g->OwnS K F H (List.replicate k none++σ) (List.replicate k none++ρ) g
 |0,_,_,_,h=>h
 |k+1,_,_,_,h=>by
  rw [List.replicate_succ,List.replicate_succ];exact .no (OwnS.nones k h)
theorem OwnS.one (S:OwnS K F H σ ρ fp) (i:Nat):∃f,(∀a∈f,a∈fp)/\(fp.Nodup->f.Nodup)/\∀{σ':St} {ρ':Env} {g:List Addr},OwnS K F H σ' ρ' g->OwnS K F H ((σ[i]?).join :: σ') ((ρ[i]?).join :: ρ') (f++g):=by
 cases e:ρ[i]? with
 |none=>exact ⟨[],(λ_ m=>by cases m),λ_=>List.nodup_nil,λh=>.no h⟩
 |some o =>
  cases o with
  |none=>exact ⟨[],(λ_ m=>by cases m),λ_=>List.nodup_nil,λh=>.no h⟩
  |some x =>
   obtain ⟨v,f,g1,g2,h1,h2,rfl,h4⟩:=S.at e;refine ⟨f,λa m=>Zq _ (Zw _ m),λnd=>?_,λh=>?_⟩
   ·simp only [ZK]at nd
    exact nd.2.1.1
   ·rw [h1]
    exact .yes h2 h
noncomputable def shE (ρ:Env):Env:=ρ.map λo=>match o with
 |some (.sh d)=>some (.sh d)
 |_=>none
theorem OwnS.shE {σ:St} {ρ:Env} {g:List Addr} (S:OwnS K F H σ ρ g):OwnS K F H σ (L3.shE ρ) []:=by
 induction S with
 |nil=>exact .nil
 |no r ih=>exact .no ih
 |yes h r ih =>
  cases h with
  |sh h=>exact .yes (f:=[]) (.sh h) ih
  |ol _ _=>exact .no ih
  |ot _ _=>exact .no ih
  |od _ _ _=>exact .no ih
theorem OwnS.pick3:∀(is:List Nat) {σ:St} {ρ:Env},OwnS K F H σ ρ []->OwnS K F H (is.map λi=>(σ[i]?).join) (is.map λi=>(ρ[i]?).join) []
 |[],_,_,_=>.nil
 |i :: is,_,_,S=>by
  obtain ⟨f,h1,_,h3⟩:=S.one i;have hf:f=[]:=by
   cases f with
   |nil=>rfl
   |cons a f=>exact absurd (h1 a Zf) (by simp)
  subst hf;exact h3 (OwnS.pick3 is S)
theorem sP:∀(k:Nat) {σ0 σ2:St},σ2.length=k+σ0.length->(∀j,k<=j->σ2[j]?=(List.replicate k none++σ0)[j]?)->i_ (List.replicate k none++σ0) σ2
 |0,σ0,σ2,hl,h=>by
  have e:σ2=σ0:=List.ext_getElem? λj=>by simpa using h j (Nat.zero_le _)
  subst e;show i_ σ2 σ2
  clear h hl
  induction σ2 with
  |nil=>trivial
  |cons x r ih =>
   cases x with
   |none=>exact ih
   |some v=>exact ⟨rfl,ih⟩
 |k+1,σ0,[],hl,h=>by simp at hl;lia
 |k+1,σ0,x :: σ2,hl,h=>by
  rw [List.replicate_succ];refine sP k (by simp at hl;lia) λj hj=>?_
  have:=h (j+1) (by lia)
  simpa [List.replicate_succ]using this
theorem wd (ρ:Env):∀(is:List Nat),(is.map λi=>((shE ρ)[i]?).join)=is.map λi=>mI ρ[i]?
 |[]=>rfl
 |i :: is=>by
  rw [Zk,Zk,wd ρ is];congr 1
  unfold shE;rw [Za];cases ρ[i]? with
  |none=>rfl
  |some o =>
   cases o with
   |none=>rfl
   |some x=>cases x <;> rfl
theorem Stt.block (S:Stt K n F H σ ρ fp) (k:Nat) (outs:List (Nat×Str)):Stt K (k+outs.length) F H (slots k outs σ) (sl3 k (outs.map (·.1)) ρ) []:=by
 refine ⟨S.same,?_,List.nodup_nil,(λ_ m=>by cases m),by unfold sl3;simp⟩
 have h:=OwnS.nones k (OwnS.pick3 (outs.map (·.1)) S.own.shE);rw [wd,Zi]at h;exact h
theorem qG {α:Type} {r:R α} {P:α->Prop} {β:Type} {g:α->R β} {PP:β->Prop} (p:aG M H fp PP ((qv r).bind g)):∃a,r=.ok a/\aG M H fp PP (g a):=by
 cases r with
 |ok a=>exact ⟨a,rfl,p⟩
 |ex c=>exact p.elim
 |bad=>exact p.elim
theorem uh {it:Fi} {g:Fg} {t:Ft} {el:Fe} {k:Nat} {is:List Nat} {outs:List (Nat×Str)} {Q:VK} (hk:∀j∈is,j<k) (h:tD M n (bD it g t el k (outs.map (·.1))) σ H Q) :
  vy (tI M n it) (tG M (k+outs.length) is g) (tT M (k+outs.length) t) (tD M (k+outs.length) el) k outs σ H Q:=by
 obtain ⟨F,ρ,fp,S,p⟩:=h;refine ⟨F,ρ,fp,S,(aG.bind p).mono λds pd J F1 H1 e1 wk D hD=>?_⟩
 have SB:=(S.ext e1).block k outs;have fD:F1 D=none:=e1.fh.free hD;refine ⟨λi m acc H'=>m=ds.length-i/\i<=ds.length/\∃F' xs fx,H' D=some (.lst acc)/\F' D=none/\Ext F1 H1 F' H'/\ResL M.K F' H' acc xs fx/\(∀a∈fx,H1 a=none/\a≠D) /\
  aG M H fp (OkE M F H Q) ((ba g t el (sl3 k (outs.map (·.1)) ρ) (ds.drop i) xs).bind λxs=>.ok (.ol xs)),⟨ds.length,by simp,Nat.zero_le _,F1,[],[],cA,fD,Ext.alloc e1.fh hD,ResL.nil,(λ_ m=>by cases m),pd⟩,?_⟩
 rintro i m acc H' ⟨rfl,hi,F',xs,fx,hacc,fD',e',rx,wx,p'⟩;have S':=SB.ext e';obtain ⟨w1,w2⟩:=wk i F' H' e'.ff e'.fh;by_cases hlt:i<ds.length
 ·obtain ⟨d,hd⟩:∃d,ds[i]?=some d:=⟨ds[i],by simp [hlt]⟩
  obtain ⟨g1,g2⟩:=w1 d hd;have e:ds.drop i=d :: ds.drop (i+1):=by
   rw [List.drop_eq_getElem_cons hlt];congr 1
   exact (Zb.mp hd).2
  rw [e]at p';have p2:aG M H fp (OkE M F H Q) (((qv (g (.sh d) (sl3 k (outs.map (·.1)) ρ))).bind fun ρ1=>(qv (t ρ1)).bind λb=>if b=true then (qv (el ρ1)).bind λy=>if xs.length<BIG then ba g t el (sl3 k (outs.map (·.1)) ρ) (ds.drop (i+1)) (xs++[y]) else .bad else ba g t el (sl3 k (outs.map (·.1)) ρ) (ds.drop (i+1)) xs).bind λxs=>.ok (.ol xs)):=p'
  have assoc:∀{α β γ:Type} (r:R α) (f:α->R β) (h:β->R γ),(r.bind f).bind h=r.bind λa=>(f a).bind h:=λr f h=>by cases r <;> rfl
  rw [assoc]at p2;obtain ⟨ρ1,hρ1,p3⟩:=qG (P:=λ_=>True) p2
  rw [assoc]at p3;obtain ⟨b,hb,p4⟩:=qG (P:=λ_=>True) p3
  refine .inr ⟨g1,λacc' H2=>∃F2 xs2 fx2,H2 D=some (.lst acc')/\F2 D=none/\Ext F1 H1 F2 H2/\ResL M.K F2 H2 acc' xs2 fx2/\(∀a∈fx2,H1 a=none/\a≠D) /\
   aG M H fp (OkE M F H Q) ((ba g t el (sl3 k (outs.map (·.1)) ρ) (ds.drop (i+1)) xs2).bind λxs=>.ok (.ol xs)),λacc' H2 q=>⟨ds.length-(i+1),by lia,rfl,hlt,q⟩,λx H2 y=>?_⟩
  obtain ⟨G2,e2,rx2⟩:=g2 x H2 y;refine ⟨G2,sl3 k (outs.map (·.1)) ρ,[],.sh d,[],S'.ext e2,Res.sh rx2,(λ_ m=>by cases m),?_⟩
  rw [hρ1];intro σ3 F3 H3 fp3 S3 s3 t3;have e3:Ext G2 H2 F3 H3:=⟨s3.ff,λa o q=>s3.keep a o q (by simp),S3.same,λa q z=>s3.nw a q (by simp) z⟩
  refine ⟨sP k (by rw [S3.own.len,S3.len];simp) λj hj=>t3 j λz=>by have:=hk j z;lia,F3,ρ1,fp3,S3,?_⟩
  rw [hb];intro F4 H4 e4;have e24:Ext F' H' F4 H4:=(e2.trans e3).trans e4;cases b with
  |true =>
   rw [if_pos rfl]at p4 ⊢;rw [assoc]at p4;obtain ⟨y,hy,p5⟩:=qG (P:=λ_=>True) p4
   refine ⟨F4,ρ1,fp3,S3.ext e4,?_⟩;rw [hy];intro v F5 H5 fy e5 r5 w5;by_cases hl:xs.length<BIG
   ·rw [if_pos hl]at p5
    have e25:=e24.trans e5;have hD5:H5 D=some (.lst acc):=e25.hh _ _ hacc;have fD5:F5 D=none:=e25.nw D (cy hacc) fD';have yD:∀a∈fy,a≠D:=λa m=>by
     rintro rfl;have:=e24.hh _ _ hacc;rw [w5 _ m]at this;cases this
    have rx5:=rx.ext e25;refine ⟨hD5,by rw [rx.own.len];exact rD hl,F5,xs++[y],fx++fy,cA,fD5,⟨e'.ff.trans e25.ff,λa o q=>?_,λa o q=>?_,λa q z=>e25.nw a (e'.hh.dom q) (e'.nw a q z)⟩,⟨?_,?_,?_⟩,?_,p5⟩
    ·rw [aM (bG q hD)]
     exact e25.hh _ _ (e'.hh _ _ q)
    ·rw [aM (bG q fD5)]
     exact e5.fh _ _ q
    ·have q1:OwnL M.K F5 (upd H5 D (.lst (acc++[v]))) acc xs fx:=rx5.own.mono (bb.refl _) λa m o q=>by
      rw [aM (wx a m).2];exact q
     have q2:Own M.K F5 (upd H5 D (.lst (acc++[v]))) v y fy:=r5.own.mono (bb.refl _) λa m o q=>by
      rw [aM (yD a m)];exact q
     have q3:=OwnL.app q1 (OwnL.cons q2 .nil);rw [Zx]at q3;exact q3
    ·refine ZK.mpr ⟨rx.nd,r5.nd,λa m b m' z=>?_⟩
     subst z;obtain ⟨o,q⟩:=rx.own.dom a m;have:=e24.hh _ _ q;rw [w5 a m']at this;cases this
    ·intro a m
     rcases Zs.mp m with m | m
     ·exact rx5.fr a m
     ·exact r5.fr a m
    ·intro a m
     rcases Zs.mp m with m | m
     ·exact wx a m
     ·exact ⟨(e'.trans e24).hh.free (w5 a m),yD a m⟩
   ·rw [if_neg hl]at p5
    exact p5.elim
  |false =>
   rw [if_neg Zm]at p4 ⊢;exact ⟨F4,xs,fx,e24.hh _ _ hacc,e24.nw D (cy hacc) fD',e'.trans e24,rx.ext e24,wx,p4⟩
 ·have e:i=ds.length:=by lia
  subst e;rw [List.drop_length]at p';have q:OkE M F H Q (.ol xs):=p';refine .inl ⟨w2 (Zn _),q (.ref D) F' H' (D :: fx) (e1.trans e') ⟨.ol hacc rx.own,List.nodup_cons.mpr ⟨λm=>(wx D m).2 rfl,rx.nd⟩,λa m=>?_⟩ λa m=>?_⟩
  ·rcases Zo.mp m with rfl | m
   ·exact fD'
   ·exact rx.fr a m
  ·rcases Zo.mp m with rfl | m
   ·exact e1.hh.free hD
   ·exact e1.hh.free (wx a m).1
end
section
variable {M:Mx} {n:Nat} {F H F1 H1:Hp} {σ:St} {ρ:Env} {fp:List Addr} {D:Ends} {K:PySem.W.Frag}
theorem lF {p f q f':List Addr} (h:(p++(f++q)).Nodup) (h':f'.Nodup) (s:∀c∈f',c∈f\/c∉p++(f++q)):(p++(f'++q)).Nodup:=by
 simp only [ZK,Zs]at h s ⊢;obtain ⟨n1,⟨n2,n3,n4⟩,n5⟩:=h;refine ⟨n1,⟨h',n3,λa ha b hb e=>?_⟩,λa ha b hb e=>?_⟩
 ·subst e
  rcases s a ha with z | z
  ·exact n4 a z a hb rfl
  ·exact z (.inr (.inr hb))
 ·subst e
  rcases hb with hb | hb
  ·rcases s a hb with z | z
   ·exact n5 a ha a (.inl z) rfl
   ·exact z (.inl ha)
  ·exact n5 a ha a (.inr hb) rfl
theorem OwnL.at:∀{vs:List V} {xs:List OD} {g:List Addr} {i:Nat} {x:OD},OwnL K F H vs xs g->xs[i]?=some x ->
  ∃v f g1 g2,vs[i]?=some v/\Own K F H v x f/\g=g1++(f++g2)/\∀(F' H':Hp),bb F F'->(∀a∈g1++g2,∀o,H a=some o->H' a=some o)->∀v' x' f',Own K F' H' v' x' f'->OwnL K F' H' (vs.set i v') (xs.set i x') (g1++(f'++g2))
 |_,_,_,_,_,.nil,e=>by simp at e
 |_,_,_,0,x,.cons (f:=f) (g:=g) h r,e=>by
  simp at e
  subst e;exact ⟨_,f,[],g,rfl,h,rfl,λF' H' s k v' x' f' o=>OwnL.cons (f:=f') (g:=g) o (r.mono s k)⟩
 |_,_,_,i+1,x,.cons (f:=f0) h r,e=>by
  obtain ⟨v,f,g1,g2,h1,h2,h3,h4⟩:=OwnL.at (i:=i) r (by simpa using e)
  refine ⟨v,f,f0++g1,g2,by simpa using h1,h2,by rw [h3,ZD],λF' H' s k v' x' f' o=>?_⟩
  rw [ZD];exact .cons (h.mono s λa m=>k a (Zw _ (Zw _ m))) (h4 F' H' s (λa m=>k a (by simp at m ⊢;rcases m with m | m <;> simp [m])) v' x' f' o)
theorem oR {σ:St} {i:Nat} {v:V} (h1:σ[i]?=some (some v)):σ.set i (some v)=σ:=by
 apply List.ext_getElem?
 intro j;by_cases hj:i=j
 ·subst hj
  rw [h1,List.getElem?_set_self (Zb.mp h1).1]
 ·rw [List.getElem?_set_ne hj]
theorem Stt.write (S:Stt K n F H σ ρ fp) {i:Nat} {xs:List OD} (hx:ρ[i]?=some (some (.ol xs))) :
  ∃a vs f,σ[i]?=some (some (.ref a))/\H a=some (.lst vs)/\OwnL K F H vs xs f/\f.Nodup/\(∀b∈f,F b=none) /\
   ∀F1 H1 vs' xs' f',Ext F H F1 H1->OwnL K F1 H1 vs' xs' f'->f'.Nodup->(∀b∈f',b∈f\/H b=none)->(∀b∈f',F1 b=none) ->
    ∃fp',Stt K n F1 (upd H1 a (.lst vs')) σ (ρ.set i (some (.ol xs'))) fp'/\Stp F H fp F1 (upd H1 a (.lst vs')) fp'/\(∀b∈fp',b∈fp\/b∈f'):=by
 obtain ⟨v,f0,g1,g2,h1,h2,rfl,h4⟩:=S.own.at hx;cases h2 with
 |@ol a vs _ f ha hv =>
  have nd:=S.nd;have nd':=nd;simp only [ZK,Zs,List.cons_append,List.nodup_cons,Zo]at nd';obtain ⟨n1,⟨na,n2,n3,n4⟩,n5⟩:=nd';refine ⟨a,vs,f,h1,ha,hv,n2,λb m=>S.fr b (by simp [m]),λF1 H1 vs' xs' f' e o nf sub ff=>?_⟩
  have fa:F1 a=none:=e.nw a (cy ha) (S.fr a (by simp))
  have hne:∀b∈f',b≠a:=λb m=>by
   rintro rfl;rcases sub b m with z | z
   ·exact na (.inl z)
   ·rw [ha]at z
    cases z
  have hs:∀c∈f',c∈f\/c∉(g1++[a])++(f++g2):=λc m=>by
   rcases sub c m with z | z
   ·exact .inl z
   ·refine .inr λw=>?_
    obtain ⟨o,q⟩:=S.own.dom c (by simp at w ⊢;exact w)
    rw [z]at q;cases q
  have nd2:=lF (p:=g1++[a]) (f:=f) (q:=g2) (f':=f') (by simpa using nd) nf hs
  have own:=h4 F1 (upd H1 a (.lst vs')) e.ff (λb m o q=>by
   have:b≠a:=by
    rintro rfl;rcases Zs.mp m with m | m
    ·exact n5 b m b (.inl rfl) rfl
    ·exact na (.inr m)
   rw [aM this];exact e.hh _ _ q) (.ref a) (.ol xs') (a :: f') (.ol cA (o.mono (bb.refl _) λb m o q=>by rw [aM (hne b m)];exact q))
  rw [oR h1]at own;have frs:∀b∈g1++(a :: f++g2),F1 b=none:=λb m=>let ⟨_,q⟩:=S.own.dom b m;e.nw b (cy q) (S.fr b m)
  refine ⟨g1++(a :: f'++g2),⟨?_,own,by simpa using nd2,λb m=>?_,by rw [ZJ];exact S.len⟩,⟨e.ff,λb o q m=>?_,λb m=>?_,λb q m z=>e.nw b q z⟩,λb m=>?_⟩
  ·intro b o q
   rw [aM (bG q fa)];exact e.fh _ _ q
  ·simp only [Zs,Zo]at m
   rcases m with m | (rfl | m) | m
   ·exact frs b (by simp [m])
   ·exact fa
   ·exact ff b m
   ·exact frs b (by simp [m])
  ·have:b≠a:=by
    rintro rfl;exact m (by simp)
   rw [aM this];exact e.hh _ _ q
  ·simp only [Zs,Zo]at m ⊢
   rcases m with m | (m | m) | m
   ·exact .inl (.inl m)
   ·exact .inl (.inr (.inl (.inl m)))
   ·rcases sub b m with z | z
    ·exact .inl (.inr (.inl (.inr z)))
    ·exact .inr z
   ·exact .inl (.inr (.inr m))
  ·simp only [Zs,Zo]at m ⊢
   rcases m with m | (m | m) | m <;> simp [m]
theorem OwnL.snoc {vs:List V} {xs:List OD} {f g:List Addr} {v:V} {y:OD} (h:OwnL K F H vs xs f) (o:Own K F H v y g):OwnL K F H (vs++[v]) (xs++[y]) (f++g):=by
 have:=OwnL.app h (OwnL.cons o .nil);rw [Zx]at this;exact this
theorem Il {i:Nat} {a:Fe} (h:tS M n (iZ i a) D σ H):m7 (tBM M.K "list" qF (og i) (mX (tD M n a) vh)) D σ H:=by
 obtain ⟨F,ρ,fp,S,p⟩:=h;unfold iZ at p;split at p
 ·rename_i xs e
  obtain ⟨l,vs,f,h1,h2,h3,nf,ff,wr⟩:=S.write e;refine ⟨_,h1,.inl ⟨rfl,vs,SqL.of h2⟩,F,ρ,fp,S,(aG.bind p).mono λy py v F1 H1 fy e1 r1 w1=>?_⟩
  by_cases hl:xs.length<BIG
  ·rw [if_pos hl]at py
   refine ⟨l,vs,v,rfl,rfl,e1.hh _ _ h2,by rw [h3.len];exact rD hl,?_⟩
   have o:OwnL M.K F1 H1 (vs++[v]) (xs++[y]) (f++fy):=(h3.mono e1.ff λb _ o q=>e1.hh _ _ q).snoc r1.own
   obtain ⟨fp',S',st,_⟩:=wr F1 H1 _ _ _ e1 o (ZK.mpr ⟨nf,r1.nd,λb m c m' z=>by
    subst z;obtain ⟨o,q⟩:=h3.dom b m;rw [w1 b m']at q;cases q⟩) (λb m=>(Zs.mp m).elim .inl λm=>.inr (w1 b m)) (λb m=>(Zs.mp m).elim (λm=>let ⟨_,q⟩:=h3.dom b m;e1.nw b (cy q) (ff b m)) (r1.fr b))
   exact py σ F1 _ fp' S' st
  ·rw [if_neg hl]at py
   exact py.elim
 ·exact p.elim
theorem OwnL.last {d:PyData} {vs:List V} {xs:List OD} {f:List Addr} (o:OwnL K F H vs xs f) (e:xs.getLast?=some (.sh d)):∃v,vs[vs.length-1]?=some v/\Rep K F v d/\OwnL K F H vs.dropLast xs.dropLast f:=by
 induction xs generalizing vs f with
 |nil=>simp at e
 |cons a0 r0 ih0 =>
 cases o with
 |cons h r =>
  have ih:=ih0 r;cases r with
  |nil =>
   cases h with
   |sh h =>
    simp at e
    subst e;exact ⟨_,rfl,h,.nil⟩
   |ol _ _=>simp at e
   |ot _ _=>simp at e
   |od _ _ _=>simp at e
  |cons h' r =>
   obtain ⟨v,h1,h2,h3⟩:=ih (by simpa using e)
   exact ⟨v,by simpa using h1,h2,.cons h h3⟩
theorem s_pop {i:Nat} {is:List Nat} {g:Fg} (h:tS M n (tu i g) D σ H):uV (AM M.K "list" F7 (og i)) (tG M n is g) D σ H:=by
 obtain ⟨F,ρ,fp,S,p⟩:=h;unfold tu at p;split at p
 ·rename_i xs e
  split at p
  ·rename_i d hd
   obtain ⟨l,vs,f,h1,h2,h3,nf,ff,wr⟩:=S.write e;obtain ⟨v,v1,v2,v3⟩:=h3.last hd;obtain ⟨fp',S',st,_⟩:=wr F H _ _ f (Ext.refl S.same) v3 nf (λb m=>.inl m) ff
   have st':Stp F H fp F (upd H l (.lst vs.dropLast)) (fp'++[]):=by
    rw [Zx];exact st
   exact ⟨_,h1,.inl ⟨rfl,vs,SqL.of h2⟩,l,vs,v,rfl,rfl,h2,v1,F,_,fp',.sh d,[],S',Res.sh v2,(λ_ m=>by cases m),((aG.bind p).stp st').mono fun ρ' hρ σ' F' H' fp2 S2 s2 _=>hρ σ' F' H' fp2 S2 (st'.trans s2)⟩
  ·exact p.elim
 ·exact p.elim
theorem HY {i:Nat} {a:Fe} (h:tS M n (t9 i a) D σ H):m7 (tBM M.K "list" we (og i) (mX (tD M n a) vh)) D σ H:=by
 obtain ⟨F,ρ,fp,S,p⟩:=h;unfold t9 at p;split at p
 ·rename_i xs e
  obtain ⟨l,vs,f,h1,h2,h3,nf,ff,wr⟩:=S.write e;refine ⟨_,h1,.inl ⟨rfl,vs,SqL.of h2⟩,F,ρ,fp,S,(aG.bind p).mono λy py v F1 H1 fy e1 r1 w1=>?_⟩
  cases y with
  |sh d=>exact py.elim
  |ot ys=>exact py.elim
  |od ys=>exact py.elim
  |ol ys =>
   have py':aG M H fp (g8 M n F H fp D) (if xs.length+ys.length<=BIG then .ok (.nx (ρ.set i (some (.ol (xs++ys))))) else .bad):=py
   by_cases hl:xs.length+ys.length<=BIG
   ·rw [if_pos hl]at py'
    obtain ⟨ro,rn,rf⟩:=r1;cases ro with
    |@ol b ws _ g hb hw =>
     refine ⟨l,b,vs,ws,rfl,rfl,e1.hh _ _ h2,hb,by rw [h3.len,hw.len];exact jq hl,?_⟩
     have o:OwnL M.K F1 H1 (vs++ws) (xs++ys) (f++g):=(h3.mono e1.ff λb _ o q=>e1.hh _ _ q).app hw
     obtain ⟨fp',S',st,_⟩:=wr F1 H1 _ _ _ e1 o (ZK.mpr ⟨nf,(List.nodup_cons.mp rn).2,λb m c m' z=>by
      subst z;obtain ⟨o,q⟩:=h3.dom b m;rw [w1 b (Ze _ m')]at q;cases q⟩) (λb m=>(Zs.mp m).elim .inl λm=>.inr (w1 b (Ze _ m))) (λb m=>(Zs.mp m).elim (λm=>let ⟨_,q⟩:=h3.dom b m;e1.nw b (cy q) (ff b m)) λm=>rf b (Ze _ m))
     exact py' σ F1 _ fp' S' st
   ·rw [if_neg hl]at py'
    exact py'.elim
 ·exact p.elim
theorem yi {k:Nat} {q:Int} {j:Nat} (h:ixN k q=some j):j<k:=by
 unfold ixN at h;split at h
 ·split at h
  ·cases h
   lia
  ·cases h
 ·split at h
  ·cases h
   lia
  ·cases h
theorem Iy {i:Nat} {a k:Fe} (h:tS M n (jB i k a) D σ H):uV (tD M n a) (Hx (og i) (tD M n k) y8) D σ H:=by
 obtain ⟨F,ρ,fp,S,p⟩:=h;unfold jB at p;split at p
 ·rename_i xs e
  refine ⟨F,ρ,fp,S,(aG.bind p).mono λy py v F1 H1 fy e1 r1 w1=>?_⟩
  obtain ⟨l,vs,f,h1,h2,h3,nf,ff,wr⟩:=S.write e;refine ⟨_,h1,F1,ρ,fp,S.ext e1,((aG.bind py).ext e1).mono λz pz u F2 H2 fz e2 r2 w2=>?_⟩
  obtain ⟨G2,d2,k2⟩:=r2.frz e2 w2;generalize z.er=dz at pz k2
  cases dz with
  |int q =>
   cases k2;have pz':aG M H fp (g8 M n F H fp D) (match ixN xs.length q with | some j=>.ok (.nx (ρ.set i (some (.ol (xs.set j y))))) | none=>.bad):=pz
   cases hj:ixN xs.length q with
   |none =>
    rw [hj]at pz';exact pz'.elim
   |some j =>
    rw [hj]at pz';have e12:=e1.trans d2;have hjl:=yi hj;refine ⟨l,vs,q,j,rfl,rfl,e12.hh _ _ h2,by rw [h3.len];exact hj,?_⟩
    obtain ⟨x,hx⟩:∃x,xs[j]?=some x:=⟨xs[j],by simp [hjl]⟩
    obtain ⟨v0,f0,g1,g2,b1,b2,b3,b4⟩:=h3.at hx;subst b3;have o:=b4 G2 H2 e12.ff (λb m o q=>e12.hh _ _ q) v y fy (r1.ext d2).own
    have sub:∀b∈g1++(fy++g2),b∈g1++(f0++g2)\/H b=none:=λb m=>by
     simp only [Zs]at m ⊢;rcases m with m | m | m
     ·exact .inl (.inl m)
     ·exact .inr (w1 b m)
     ·exact .inl (.inr (.inr m))
    obtain ⟨fp',S',st,_⟩:=wr G2 H2 _ _ _ e12 o (lF nf r1.nd λc m=>.inr λw=>by
     obtain ⟨o,q⟩:=h3.dom c w;rw [w1 c m]at q;cases q) sub (λb m=>by
      simp only [Zs]at m;rcases m with m | m | m
      ·exact let ⟨_,q⟩:=h3.dom b (by simp [m]);e12.nw b (cy q) (ff b (by simp [m]))
      ·exact (r1.ext d2).fr b m
      ·exact let ⟨_,q⟩:=h3.dom b (by simp [m]);e12.nw b (cy q) (ff b (by simp [m])))
    exact pz' σ G2 _ fp' S' st
  |none=>exact pz.elim
  |bool _=>exact pz.elim
  |str _=>exact pz.elim
  |list _=>exact pz.elim
  |tuple _=>exact pz.elim
  |dict _=>exact pz.elim
 ·exact p.elim
theorem Jm {i:Nat} {g:PyData->PyData->R OD} {ti:TIp} {a:Fe} (hi:i<n) (hg:Ok2 M ti g) (h:tS M n (wD i g a) D σ H):Iq i (tD M n a) ti D σ H:=by
 obtain ⟨F,ρ,fp,S,p⟩:=h;unfold wD at p;split at p
 ·rename_i d e
  obtain ⟨v,f,g1,g2,h1,h2,h3,h4⟩:=S.own.at e;cases h2 with
  |sh r =>
   refine ⟨v,h1,F,ρ,fp,S,(aG.bind p).mono λy py w F1 H1 fy e1 r1 w1=>?_⟩
   obtain ⟨G1,d1,k1⟩:=r1.frz e1 w1;refine hg v w d y.er G1 H1 fp _ d1.fh (r.same d1.ff) k1 ((aG.ext d1 (aG.bind py)).mono λz pz u F2 H2 fz e2 r2 w2=>?_)
   have e12:=d1.trans e2;obtain ⟨fp',S',sub⟩:=(S.ext e12).set hi r2 λb m q=>by
    obtain ⟨o,z⟩:=S.own.dom b q;rw [d1.hh.free (w2 b m)]at z;cases z
   exact pz _ F2 H2 fp' S' ⟨e12.ff,λb o q _=>e12.hh _ _ q,λb m=>(sub b m).elim .inl λm=>.inr (d1.hh.free (w2 b m)),λb q _ z=>e12.nw b q z⟩
 ·exact p.elim
theorem Stt.write2 (S:Stt K n F H σ ρ fp) {i:Nat} {o:OD} {l:Bool} {xs:List OD} {j:Nat} {ys:List OD} (hx:ρ[i]?=some (some o)) (hc:comps o=some (l,xs)) (hj:xs[j]?=some (.ol ys)) :
  ∃a vs b ws f,σ[i]?=some (some (.ref a))/\H a=some (if l=true then .lst vs else .tup vs)/\vs.length=xs.length/\vs[j]?=some (.ref b)/\H b=some (.lst ws)/\OwnL K F H ws ys f/\f.Nodup/\(∀c∈f,F c=none) /\
   ∀F1 H1 ws' ys' f',Ext F H F1 H1->OwnL K F1 H1 ws' ys' f'->f'.Nodup->(∀c∈f',c∈f\/H c=none)->(∀c∈f',F1 c=none) ->
    ∃fp',Stt K n F1 (upd H1 b (.lst ws')) σ (ρ.set i (some (wrap l (xs.set j (.ol ys'))))) fp'/\Stp F H fp F1 (upd H1 b (.lst ws')) fp':=by
 obtain ⟨v,f0,g1,g2,h1,h2,rfl,h4⟩:=S.own.at hx;obtain ⟨a,vs,g,ha,hv,rfl,rfl,mk⟩:∃a vs g,H a=some (if l=true then .lst vs else .tup vs)/\OwnL K F H vs xs g/\v=.ref a/\f0=a :: g/\∀F' H' vs' xs' g',H' a=some (if l=true then .lst vs' else .tup vs')->OwnL K F' H' vs' xs' g'->Own K F' H' (.ref a) (wrap l xs') (a :: g'):=by
  cases h2 with
  |sh r =>
   cases hc
  |od _ _ _ =>
   cases hc
  |@ol a vs _ g ha hv =>
   cases hc;exact ⟨a,vs,g,ha,hv,rfl,rfl,λF' H' vs' xs' g' q r=>.ol q r⟩
  |@ot a vs _ g ha hv =>
   cases hc;exact ⟨a,vs,g,ha,hv,rfl,rfl,λF' H' vs' xs' g' q r=>.ot q r⟩
 obtain ⟨u,f1,k1,k2,b1,b2,b3,b4⟩:=hv.at hj;cases b2 with
 |@ol b ws _ f hb hw =>
  subst b3;have nd:((g1++(a :: (k1++[b])))++(f++(k2++g2))).Nodup:=by simpa using S.nd
  have nd':=nd;simp only [ZK,Zs,List.cons_append,List.nodup_cons,Zo,ZD,List.nil_append,List.not_mem_nil,or_false]at nd';have inL:∀c,c∈(g1++(a :: (k1++[b])))++(f++(k2++g2)) ↔ c∈g1++(a :: (k1++(b :: f++k2))++g2):=λc=>by simp
  refine ⟨a,vs,b,ws,f,h1,ha,hv.len,b1,hb,hw,?_,λc m=>S.fr c (by simp [m]),λF1 H1 ws' ys' f' e o nf sub ff=>?_⟩
  ·simp only [ZK]at nd
   exact nd.2.1.1
  have hs:∀c∈f',c∈f\/c∉(g1++(a :: (k1++[b])))++(f++(k2++g2)):=λc m=>by
   rcases sub c m with z | z
   ·exact .inl z
   ·refine .inr λw=>?_
    obtain ⟨o,q⟩:=S.own.dom c ((inL c).mp w);rw [z]at q;cases q
  have nd2:=lF nd nf hs;have eq2:(g1++(a :: (k1++[b])))++(f'++(k2++g2))=g1++(a :: (k1++(b :: f'++k2))++g2):=by simp
  have frs:∀c∈g1++(a :: (k1++(b :: f++k2))++g2),F1 c=none:=λc m=>let ⟨_,q⟩:=S.own.dom c m;e.nw c (cy q) (S.fr c m)
  have fb:F1 b=none:=frs b (by simp)
  have nb:∀c,c∈g1\/c=a\/c∈k1\/c∈f'\/c∈k2\/c∈g2->c≠b:=λc hc=>by
   rintro rfl;have nd3:=nd2;simp only [ZD,List.cons_append,List.nil_append]at nd3;have q:(g1++a :: (k1++c :: (f'++(k2++g2))))=(g1++a :: k1)++c :: (f'++(k2++g2)):=by simp
   rw [q,ZK]at nd3;obtain ⟨_,y2,y3⟩:=nd3;rw [List.nodup_cons]at y2;have y4:∀d,d∈g1++a :: k1->d≠c:=λd hd z=>y3 d hd d (by rw [z];exact Zf) rfl
   rcases hc with h | h | h | h | h | h
   ·exact y4 c (by simp [h]) rfl
   ·exact y4 a (by simp) h.symm
   ·exact y4 c (by simp [h]) rfl
   ·exact y2.1 (by simp [h])
   ·exact y2.1 (by simp [h])
   ·exact y2.1 (by simp [h])
  have hkeep:∀c o,c≠b->H c=some o->upd H1 b (.lst ws') c=some o:=λc o hc q=>by
   rw [aM hc];exact e.hh _ _ q
  have o1:Own K F1 (upd H1 b (.lst ws')) (.ref b) (.ol ys') (b :: f'):=.ol cA (o.mono (bb.refl _) λc m o q=>by rw [aM (nb c (by simp [m]))];exact q)
  have o2:=b4 F1 (upd H1 b (.lst ws')) e.ff (λc m o q=>hkeep c o (nb c (by simp only [Zs]at m;rcases m with m | m <;> simp [m])) q) _ _ _ o1
  have vb:vs.set j (.ref b)=vs:=by
   apply List.ext_getElem?
   intro t;by_cases ht:j=t
   ·subst ht
    rw [b1,List.getElem?_set_self (Zb.mp b1).1]
   ·rw [List.getElem?_set_ne ht]
  rw [vb]at o2;have o3:=mk F1 (upd H1 b (.lst ws')) vs _ _ (hkeep a _ (nb a (by simp)) ha) o2
  have own:=h4 F1 (upd H1 b (.lst ws')) e.ff (λc m o q=>hkeep c o (nb c (by simp only [Zs]at m;rcases m with m | m <;> simp [m])) q) _ _ _ o3
  rw [oR h1]at own;refine ⟨_,⟨?_,own,by rw [<-eq2];exact nd2,λc m=>?_,by rw [ZJ];exact S.len⟩,⟨e.ff,λc o q m=>?_,λc m=>?_,λc q m z=>e.nw c q z⟩⟩
  ·intro c o q
   rw [aM (bG q fb)];exact e.fh _ _ q
  ·simp only [Zs,Zo]at m
   rcases m with m | (m | m | (m | m) | m) | m
   ·exact frs c (by simp [m])
   ·exact frs c (by simp [m])
   ·exact frs c (by simp [m])
   ·exact frs c (by simp [m])
   ·exact ff c m
   ·exact frs c (by simp [m])
   ·exact frs c (by simp [m])
  ·have:c≠b:=by
    rintro rfl;exact m (by simp)
   exact hkeep c o this q
  ·simp only [Zs,Zo]at m ⊢
   rcases m with m | (m | m | (m | m) | m) | m
   ·simp [m]
   ·simp [m]
   ·simp [m]
   ·simp [m]
   ·rcases sub c m with z | z
    ·simp [z]
    ·exact .inr z
   ·simp [m]
   ·simp [m]
theorem AO {i:Nat} {k a:Fe} (h:tS M n (lL i k a) D σ H):m7 (tBM M.K "list" qF (tOp (wA M.K) (og i) (tD M n k)) (mX (tD M n a) vh)) D σ H:=by
 obtain ⟨F,ρ,fp,S,p⟩:=h;unfold lL at p;split at p
 ·rename_i xs e
  have hc:comps (.ol xs)=some (true,xs):=rfl;obtain ⟨v0,_,_,_,h0,own0,_,_⟩:=S.own.at e;refine ⟨v0,h0,F,ρ,fp,S,(aG.bind p).mono λz pz u F1 H1 fz e1 r1 w1=>?_⟩
  obtain ⟨G1,d1,k1⟩:=r1.frz e1 w1;generalize z.er=dz at pz k1
  cases dz with
  |int q =>
   cases k1;have pz':aG M H fp (g8 M n F H fp D) (match ixN xs.length q with
    |some j=>match xs[j]? with
     |some (.ol ys)=>(a ρ).bind λy=>if ys.length<BIG then .ok (.nx (ρ.set i (some (.ol (xs.set j (.ol (ys++[y]))))))) else .bad
     |_=>.bad
    |none=>.bad):=pz
   cases hj:ixN xs.length q with
   |none =>
    rw [hj]at pz';exact pz'.elim
   |some j =>
    rw [hj]at pz';have pz2:aG M H fp (g8 M n F H fp D) (match xs[j]? with
     |some (.ol ys)=>(a ρ).bind λy=>if ys.length<BIG then .ok (.nx (ρ.set i (some (.ol (xs.set j (.ol (ys++[y]))))))) else .bad
     |_=>.bad):=pz'
    split at pz2
    ·rename_i ys hy
     obtain ⟨b0,vs,b,ws,f,h1,ha,hl,hb1,hb,hw,nf,ff,wr⟩:=(S.ext d1).write2 e hc hy;rw [h0]at h1;cases h1;have at1:atI vs q=some (.ref b):=by
      unfold atI;rw [hl,hj];exact hb1
     refine ⟨b0,vs,q,.ref b,rfl,rfl,SqL.of ha,at1,.inl ⟨rfl,ws,SqL.of hb⟩,G1,ρ,fp,S.ext d1,((aG.bind pz2).ext d1).mono λy py v F2 H2 fy e2 r2 w2=>?_⟩
     by_cases hlt:ys.length<BIG
     ·rw [if_pos hlt]at py
      refine ⟨b,ws,v,rfl,rfl,e2.hh _ _ hb,by rw [hw.len];exact rD hlt,?_⟩
      have o:OwnL M.K F2 H2 (ws++[v]) (ys++[y]) (f++fy):=(hw.mono e2.ff λc _ o q=>e2.hh _ _ q).snoc r2.own
      obtain ⟨fp',S',st⟩:=wr F2 H2 _ _ _ e2 o (ZK.mpr ⟨nf,r2.nd,λc m d m' z=>by
       subst z;obtain ⟨o,q⟩:=hw.dom c m;rw [w2 c m']at q;cases q⟩) (λc m=>(Zs.mp m).elim .inl λm=>.inr (w2 c m)) (λc m=>(Zs.mp m).elim (λm=>let ⟨_,q⟩:=hw.dom c m;e2.nw c (cy q) (ff c m)) (r2.fr c))
      exact py σ F2 _ fp' S' (d1.stp.trans st)
     ·rw [if_neg hlt]at py
      exact py.elim
    ·exact pz2.elim
  |none=>exact pz.elim
  |bool _=>exact pz.elim
  |str _=>exact pz.elim
  |list _=>exact pz.elim
  |tuple _=>exact pz.elim
  |dict _=>exact pz.elim
 ·exact p.elim
end
end L3
namespace L3
open PySem L2 PySem.Spec PyProof.Rows
noncomputable def DE (M:Mx) (X:Cx) (e:Expr) (f:Fe):Prop:=X.K=M.K->X.mg=M.mg->PE X e (tD M X.N.length f)
noncomputable def DT (M:Mx) (X:Cx) (e:Expr) (f:Ft):Prop:=X.K=M.K->X.mg=M.mg->PT X e (tT M X.N.length f)
noncomputable def DW (M:Mx) (X:Cx) (e:Expr) (f:Ft):Prop:=X.K=M.K->X.mg=M.mg->PW X e (tT M X.N.length f)
noncomputable def DA (M:Mx) (X:Cx) (e:List Expr) (f:Fa):Prop:=X.K=M.K->X.mg=M.mg->PA X e (tA M X.N.length f)
noncomputable def DO (M:Mx) (X:Cx) (e:Option Expr) (f:Fo):Prop:=X.K=M.K->X.mg=M.mg->PO X e (tO M X.N.length f)
noncomputable def DI (M:Mx) (X:Cx) (tg e:Expr) (f:Fi):Prop:=X.K=M.K->X.mg=M.mg->PI X tg e (tI M X.N.length f)
noncomputable def DG (M:Mx) (X:Cx) (tg:Expr) (is:List Nat) (f:Fg):Prop:=X.K=M.K->X.mg=M.mg->PG X tg (tG M X.N.length is f)
noncomputable def DGs (M:Mx) (X:Cx) (tg:List Expr) (is:List Nat) (f:Fgs):Prop:=X.K=M.K->X.mg=M.mg->PGs X tg (tGs M X.N.length is f)
noncomputable def DF (M:Mx) (X:Cx) (e:List Expr) (f:Ft):Prop:=X.K=M.K->X.mg=M.mg->PF X e (tT M X.N.length f)
noncomputable def DS (M:Mx) (X:Cx) (st:Stmt) (f:Fs):Prop:=X.K=M.K->X.mg=M.mg->PS X st (tS M X.N.length f)
noncomputable def DSs (M:Mx) (X:Cx) (st:List Stmt) (f:Fs):Prop:=X.K=M.K->X.mg=M.mg->PSs X st (tS M X.N.length f)
section
variable {M:Mx} {X:Cx} {e a b c:Expr} {es:List Expr} {pos:Pos} {fa fb:Fe} {ta tb:Ft} {al:Fa}
theorem peI {t t':TE} (h:PE X e t) (k:∀σ H Q,t' σ H Q->t σ H Q):PE X e t':=λpins s σ H Q I q=>h pins s σ H Q I (k σ H Q q)
theorem ptI {t t':TT} (h:PT X e t) (k:∀σ H Q,t' σ H Q->t σ H Q):PT X e t':=λpins s σ H Q I q=>h pins s σ H Q I (k σ H Q q)
theorem pwI {t t':TT} (h:PW X e t) (k:∀σ H Q,t' σ H Q->t σ H Q):PW X e t':=λw pins s σ H Q I q=>h w pins s σ H Q I (k σ H Q q)
theorem paI {t t':TA} (h:PA X es t) (k:∀σ H Q,t' σ H Q->t σ H Q):PA X es t':=λps pins s σ H Q I q=>h ps pins s σ H Q I (k σ H Q q)
theorem poI {o:Option Expr} {t t':TO} (h:PO X o t) (k:∀σ H Q,t' σ H Q->t σ H Q):PO X o t':=λpins s σ H Q I q=>h pins s σ H Q I (k σ H Q q)
theorem psI {st:Stmt} {t t':TS} (h:PS X st t) (k:∀D σ H,t' D σ H->t D σ H):PS X st t':=λpins s σ H D I q=>h pins s σ H D I (k D σ H q)
theorem Ho {st:List Stmt} {t t':TS} (h:PSs X st t) (k:∀D σ H,t' D σ H->t D σ H):PSs X st t':=λpins s σ H D I q=>h pins s σ H D I (k D σ H q)
theorem aa (i:Nat) {x:Str} (hN:X.N[i]?=some x:=by rfl) (hv:Vis X.env.scope x:=by first | exact Or.inl rfl | exact Or.inr (Or.inl rfl) | exact Or.inr (Or.inr rfl)) (hd:(x == ("__debug__" : Str))=false:=by decide)
  (hcd:(x == ("__classdict__" : Str))=false:=by decide):DE M X (.Name x pos) (ae i):=λ_ _=>peI (ju hN hv hd hcd) λ_ _ _ h=>Ja h
theorem ah {i:Int} {j}:DE M X (.Constant (.int i) j pos) (eC (.int i)):=λ_ _=>peI CM λ_ _ _ h=>d_c (λ_ _=>.int i) h
theorem jb {i:Bool} {j}:DE M X (.Constant (.bool i) j pos) (eC (.bool i)):=λ_ _=>peI IL λ_ _ _ h=>d_c (λ_ _=>.bl i) h
theorem nU {x:Str} {j}:DE M X (.Constant (.str x) j pos) (eC (.str x)):=λ_ _=>peI Ey λ_ _ _ h=>d_c (λ_ _=>.str x) h
theorem bC (h:DE M X e fa):DE M X e (eSh fa):=λhK hM=>peI (h hK hM) λ_ _ _ q=>oa q
theorem fP (h:DE M X e fa):DE M X e (j4 fa):=λhK hM=>peI (h hK hM) λ_ _ _ q=>HA q
theorem rK (h:DT M X e ta):DT M X e (ve ta):=λhK hM=>ptI (h hK hM) λ_ _ _ q=>Gn q
theorem ay {op:Operator} {r:R2} {g:PyData->PyData->R OD} (ho:OpR X (binaryOp op) r) (hg:X.K=M.K->Ok2 M r g) (ha:DE M X a fa) (hb:DE M X b fb):DE M X (.BinOp a op b pos) (eOp g fa fb):=λhK hM =>
 peI (HR ho (ha hK hM) (hb hK hM)) λ_ _ _ q=>yM (hg hK) q
theorem gn {op:UnaryOp} {r:V->Hp->VK->Prop} {g:PyData->R OD} (ho:UnR X (unaryOp op) r) (hg:X.K=M.K->Ok1 M r g) (ha:DE M X a fa):DE M X (.UnaryOp op a pos) (eUn g fa):=λhK hM =>
 peI (JO ho (ha hK hM)) λ_ _ _ q=>Ku (hg hK) q
theorem kh {op:CmpOp} {r:R2} {g:PyData->PyData->R OD} (ho:OpR X (compareOp op) r) (hg:X.K=M.K->Ok2 M r g) (ha:DE M X a fa) (hb:DE M X b fb) (hm:behindInMarks op b=false):DE M X (.Compare a [op] [b] pos) (eOp g fa fb):=λhK hM =>
 peI (An ho (ha hK hM) (hb hK hM) hm) λ_ _ _ q=>yM (hg hK) q
theorem a9 {op:CmpOp} {r:R2} {g:PyData->PyData->R OD} (ho:OpR X (compareOp op) r) (hg:X.K=M.K->Ok2 M r g) (ha:DE M X a fa) (hb:DE M X b fb) (hm:behindInMarks op b=false):DT M X (.Compare a [op] [b] pos) (aY (eOp g fa fb)):=λhK hM =>
 ptI (AL ho (ha hK hM) (hb hK hM) hm) fun σ H Q q=>by
  obtain ⟨F,ρ,fp,S,p⟩:=xS q;exact yM (hg hK) ⟨F,ρ,fp,S,p⟩
theorem hZ (h:DE M X e fa) (he:∀whole,isTrue e X.env whole=(do let v <-whole;standAt e.pos;holding [v] (truthy v)):=by intro _;rfl):DT M X e (aY fa):=λhK hM=>ptI (DY (h hK hM) he) λ_ _ _ q=>d_b q
theorem kM (h:DT M X a ta):DT M X (.UnaryOp .Not a pos) (kI ta):=λhK hM=>ptI (Ec (h hK hM)) λ_ _ _ q=>Eh q
theorem k6 (h:DT M X a ta):DW M X (.BoolOp .And [a] pos) ta:=λhK hM=>Aw (h hK hM)
theorem oK (h:DT M X a ta):DW M X (.BoolOp .Or [a] pos) ta:=λhK hM=>FC (h hK hM)
theorem mE {rest:List Expr} (h:DT M X a ta) (k:DW M X (.BoolOp .And (b :: rest) pos) tb):DW M X (.BoolOp .And (a :: b :: rest) pos) (lp ta tb):=λhK hM=>pwI (CT (h hK hM) (k hK hM)) λ_ _ _ q=>FU q
theorem tW {rest:List Expr} (h:DT M X a ta) (k:DW M X (.BoolOp .Or (b :: rest) pos) tb):DW M X (.BoolOp .Or (a :: b :: rest) pos) (qC ta tb):=λhK hM=>pwI (G5 (h hK hM) (k hK hM)) λ_ _ _ q=>Jo q
theorem oX (h:DW M X e ta):DT M X e ta:=λhK hM=>(h hK hM).pt
theorem ky {op} (h:DE M X a fa):DE M X (.BoolOp op [a] pos) fa:=λhK hM=>Dd (h hK hM)
theorem kP {rest:List Expr} (h:DE M X a fa) (k:DE M X (.BoolOp .And (b :: rest) pos) fb):DE M X (.BoolOp .And (a :: b :: rest) pos) (nc fa fb):=λhK hM=>peI (DB (h hK hM) (k hK hM)) λ_ _ _ q=>GP q
theorem yU (h:DE M X a fa):DE M X (.UnaryOp .Not a pos) (wu fa):=λhK hM=>peI (CI (h hK hM)) λ_ _ _ q=>GQ q
theorem Iw (h:DT M X c ta) (ha:DE M X a fa) (hb:DE M X b fb):DE M X (.IfExp c a b pos) (eIf ta fa fb):=λhK hM=>peI (yN (h hK hM) (ha hK hM) (hb hK hM)) λ_ _ _ q=>Ki q
theorem ao:DA M X [] av:=λ_ _=>paI rH λ_ _ _ q=>Du q
theorem ab (h:DE M X e fa) (r:DA M X es al) (hs:starEach (e :: es) X.env=(false,eval e X.env) :: starEach es X.env:=by rfl):DA M X (e :: es) (af fa al):=λhK hM=>paI (lS (h hK hM) (r hK hM) hs) λ_ _ _ q=>Bz q
theorem dA {x1} (h:DA M X es al):DE M X (.Tuple es x1 pos) (g5 al):=λhK hM=>peI (Ea (h hK hM)) λ_ _ _ q=>GJ q
theorem bO (h:DA M X es al):DE M X (.List es pos) (ez al):=λhK hM=>peI (CL (h hK hM)) λ_ _ _ q=>GL q
theorem gO:DO M X none ji:=λ_ _=>poI BB λ_ _ _ q=>AJ q
theorem fM (h:DE M X e fa):DO M X (some e) (iA fa):=λhK hM=>poI (AW (h hK hM)) λ_ _ _ q=>Bi q
theorem kd {r:V->Option Int->Option Int->Hp->VK->Prop} {g:PyData->Option Int->Option Int->R OD} {lo hi:Option Expr} {fl fh:Fo} {p2:Pos} (hr:SlR X r) (hg:X.K=M.K->OkS M r g) (h:DE M X e fa) (hl:DO M X lo fl) (hh:DO M X hi fh) :
  DE M X (.Subscript e (.Slice lo hi none p2) pos) (eSl g fa fl fh):=λhK hM=>peI (zt hr (h hK hM) (hl hK hM) (hh hK hM)) λ_ _ _ q=>JW (hg hK) q
theorem aA {r:R2} {g:PyData->PyData->R OD} (hr:IxR X r) (hg:X.K=M.K->Ok2 M r g) (ha:DE M X a fa) (hb:DE M X b fb) (hs:rL b):DE M X (.Subscript a b pos) (eOp g fa fb):=λhK hM =>
 peI (Cq hr (ha hK hM) (hb hK hM) hs) λ_ _ _ q=>yM (hg hK) q
theorem aP {id:String} {x:Str} {p:Pos} {r:List V->Hp->VK->Prop} {g:List PyData->R OD} (hc:fg X (.builtin id) r) (ho:X.K=M.K->OkC M r g) (hg:Gl X x) (hm:X.mg x=none) (hv:bootBuiltins x=some (.builtin id)) (ha:DA M X (e :: es) al)
  (hn:x ≠ "__name__" := by decide) (hdb:(x == ("__debug__" : Str))=false:=by decide) (he:starEach (e :: es) X.env=(false,eval e X.env) :: starEach es X.env:=by rfl) (hpl:(backTo pos (starEach es X.env)).any (·.1)=false:=by rfl) :
  DE M X (.Call (.Name x p) (e :: es) [] pos) (eB g al):=λhK hM=>peI (sv hc hg hm hv (ha hK hM) hn hdb he hpl) λ_ _ _ q=>HZ (ho hK) q
theorem n9 {T:String} {x:Str} {p:Pos} {r:List V->Hp->VK->Prop} {g:List PyData->R OD} (hc:fg X (.type T) r) (ho:X.K=M.K->OkC M r g) (hg:Gl X x) (hm:X.mg x=none) (hv:bootBuiltins x=some (.type T)) (ha:DA M X (e :: es) al)
  (hn:x ≠ "__name__" := by decide) (hdb:(x == ("__debug__" : Str))=false:=by decide) (he:starEach (e :: es) X.env=(false,eval e X.env) :: starEach es X.env:=by rfl) (hpl:(backTo pos (starEach es X.env)).any (·.1)=false:=by rfl) :
  DE M X (.Call (.Name x p) (e :: es) [] pos) (eB g al):=λhK hM=>peI (xa hc hg hm hv (ha hK hM) hn hdb he hpl) λ_ _ _ q=>HZ (ho hK) q
theorem aE {CX:CXT} {k:Nat} {f:Addr} {fd:FuncData} {ps:List Str} {x:Str} {p:Pos} {fn:Fn} (F:FnOk X.prog X.w M.K M.mg X.base CX k f fd ps (sp3 M.K M.mg fn)) (hr:Room k X.A) (hg:Gl X x) (hm:M.mg x=some (.ref f)) (hk:PySem.W.keepIn M.K (.ref f)=true)
  (hb:Binds M.K fd ps []) (hx:Passes CX X M.E) (ha:DA M X (e :: es) al)
  (hdb:(x == ("__debug__" : Str))=false:=by decide) (he:starEach (e :: es) X.env=(false,eval e X.env) :: starEach es X.env:=by rfl) (hpl:(backTo pos (starEach es X.env)).any (·.1)=false:=by rfl) :
  DE M X (.Call (.Name x p) (e :: es) [] pos) (aL fn al):=λhK hM=>by
 have F':FnOk X.prog X.w X.K X.mg X.base CX k f fd ps (sp3 M.K M.mg fn):=by
  rw [hK,hM];exact F
 exact peI (vP F' hr hg (by rw [hM];exact hm) (by rw [hK];exact hk) (by rw [hK];exact hb) .nil hx (ha hK hM) hdb he hpl) λ_ _ _ q=>Fu q
theorem bB {tg:Expr} (h:DE M X e fa):DI M X tg e (e7 fa):=λhK hM=>by
 have q:=Bd (tg:=tg) (h hK hM);rw [hK]at q;exact λpins s σ H R' I z=>q pins s σ H R' I (EF z)
theorem x8 {tg:Expr} (h:DE M X e fa):DI M X tg e (iTp fa):=λhK hM=>by
 have q:=Eg (tg:=tg) (h hK hM);rw [hK]at q;exact λpins s σ H R' I z=>q pins s σ H R' I (Hc z)
theorem i7 {tg:Expr} {p:Pos} (hg:Gl X "range") (hm:X.mg "range" = none) (h:DE M X a fa) (hs1:starEach [a] X.env=(false,eval a X.env) :: starEach [] X.env:=by rfl) (hs:starEach [a] X.env=[(false,eval a X.env)]:=by rfl):DI M X tg (.Call (.Name "range" p) [a] [] pos) (iR1 fa):=λhK hM =>
 λpins s σ H R' I z=>xh hg hm ((ab h ao hs1) hK hM) hs pins s σ H R' I (KH z)
theorem sL {tg:Expr} {p:Pos} (hg:Gl X "range") (hm:X.mg "range" = none) (h:DE M X a fa) (k:DE M X b fb) (hs1:starEach [a,b] X.env=(false,eval a X.env) :: starEach [b] X.env:=by rfl) (hs0:starEach [b] X.env=(false,eval b X.env) :: starEach [] X.env:=by rfl)
  (hs:starEach [a,b] X.env=[(false,eval a X.env),(false,eval b X.env)]:=by rfl) (hs2:starEach [b] X.env=[(false,eval b X.env)]:=by rfl):DI M X tg (.Call (.Name "range" p) [a,b] [] pos) (iR2 fa fb):=λhK hM =>
 λpins s σ H R' I z=>wU hg hm ((ab h (ab k ao hs0) hs1) hK hM) hs hs2 pins s σ H R' I (KO z)
theorem mw {ts:List Expr} {tk:Nat} {p tpos:Pos} (hg:Gl X "enumerate") (hm:X.mg "enumerate" = none) (h:DE M X a fa) (hs1:starEach [a] X.env=(false,eval a X.env) :: starEach [] X.env:=by rfl) (hs:starEach [a] X.env=[(false,eval a X.env)]:=by rfl) :
  DI M X (.Tuple ts tk tpos) (.Call (.Name "enumerate" p) [a] [] pos) (iEn fa):=λhK hM=>by
 have q:=BI (es:=ts) (k:=tk) (tpos:=tpos) (p:=p) (pos:=pos) hg hm ((ab h ao hs1) hK hM) hs;rw [hK]at q;exact λpins s σ H R' I z=>q pins s σ H R' I (DH z)
theorem ui {ts:List Expr} {tk:Nat} {p tpos:Pos} (hg:Gl X "zip") (hm:X.mg "zip" = none) (h:DE M X a fa) (k:DE M X b fb) (hs1:starEach [a,b] X.env=(false,eval a X.env) :: starEach [b] X.env:=by rfl) (hs0:starEach [b] X.env=(false,eval b X.env) :: starEach [] X.env:=by rfl)
  (hs:starEach [a,b] X.env=[(false,eval a X.env),(false,eval b X.env)]:=by rfl) (hs2:starEach [b] X.env=[(false,eval b X.env)]:=by rfl):DI M X (.Tuple ts tk tpos) (.Call (.Name "zip" p) [a,b] [] pos) (iZp fa fb):=λhK hM=>by
 have q:=Dt (es:=ts) (k:=tk) (tpos:=tpos) (p:=p) (pos:=pos) hg hm ((ab h (ab k ao hs0) hs1) hK hM) hs hs2;rw [hK]at q;exact λpins s σ H R' I z=>q pins s σ H R' I (Gu z)
theorem vp {α:Type} {N:List α} {i:Nat} {x:α} (h:N[i]?=some x):i<N.length:=(Zb.mp h).1
theorem pgI {tg:Expr} {t t':TG} (h:PG X tg t) (k:∀v σ H Q,t' v σ H Q->t v σ H Q):PG X tg t':=λpins s σ H v u Q I r q=>h pins s σ H v u Q I r (k _ _ _ _ q)
theorem IV {tg:List Expr} {t t':TGs} (h:PGs X tg t) (k:∀v σ H Q,t' v σ H Q->t v σ H Q):PGs X tg t':=λpins s σ H v u Q I r q=>h pins s σ H v u Q I r (k _ _ _ _ q)
theorem aw {i:Nat} {x:Str} (hN:X.N.Nodup) (hi:X.N[i]?=some x) (hx:Loc X.env.scope x) (hf:X.fn x=true\/X.env.scope.names.lookup x=some .local:=by first | exact .inl rfl | exact .inr rfl | assumption):DG M X (.Name x pos) [i] (gNm i):=λ_ _ =>
 pgI (AY hN hi hx hf) λ_ _ _ _ q=>yK (vp hi) q
theorem da:DGs M X [] [] eR:=λ_ _=>IV AA λ_ _ _ _ q=>Ir q
theorem aH {is js:List Nat} {g:Fg} {gs:Fgs} (h:DG M X e is g) (k:DGs M X es js gs)
  (hs:(assignEach (e :: es) X.env).map (·.2)=assign e X.env :: (assignEach es X.env).map (·.2):=by rfl):DGs M X (e :: es) (is++js) (aO g gs):=λhK hM =>
 IV (yd (h hK hM) (k hK hM) hs) λ_ _ _ _ q=>CV q
theorem eN {is:List Nat} {gs:Fgs} {k n:Nat} (hc:X.calm=true) (h:DGs M X es is gs) (hn:(assignEach es X.env).length=n:=by rfl) (hst:(assignEach es X.env).findIdx? (·.1)=none:=by rfl):DG M X (.Tuple es k pos) is (gTp n gs):=λhK hM=>by
 have q:=Dr (pos:=pos) (k:=k) hc (h hK hM) hn hst;rw [hK]at q;exact pgI q λ_ _ _ _ z=>Jn z
variable {st:Stmt} {rest sa sb:List Stmt} {f g:Fs}
theorem bx:DSs M X [] sNx:=λ_ _=>Ho Ag λ_ _ _ q=>EY q
theorem ai (h:DS M X st f) (k:DSs M X rest g):DSs M X (st :: rest) (aD f g):=λhK hM=>Ho (xJ (h hK hM) (k hK hM)) λ_ _ _ q=>Jy q
theorem aq (h:DS M X st f):DSs M X [st] f:=λhK hM=>Bo (h hK hM)
theorem yZ:DS M X st Gp:=λ_ _=>psI x9 λ_ _ _ q=>Hn q
theorem vA (h:DE M X e fa) (hs:swapsWith e none pos.line X.env=pure false:=by rfl):DS M X (.Expr e pos) (tL fa):=λhK hM=>psI (qj (h hK hM) hs) λ_ _ _ q=>FV q
theorem bS (h:DE M X e fa):DS M X (.Return (some e) pos) (eO fa):=λhK hM=>psI (xU (h hK hM)) λ_ _ _ q=>HK q
theorem dQ (i:Nat) {x:Str} {p:Pos} (hN:X.N[i]?=some x:=by rfl) (hv:Vis X.env.scope x:=by first | exact Or.inl rfl | exact Or.inr (Or.inl rfl) | exact Or.inr (Or.inr rfl)) (hd:(x == ("__debug__" : Str))=false:=by decide)
  (hcd:(x == ("__classdict__" : Str))=false:=by decide):DS M X (.Return (some (.Name x p)) pos) (eX i):=λ_ _=>psI (xU (ju hN hv hd hcd)) λ_ _ _ q=>Fy q
theorem dk (h:DT M X c ta) (ha:DSs M X sa f) (hb:DSs M X sb g):DS M X (.If c sa sb pos) (sIf ta f g):=λhK hM=>psI (Ij (h hK hM) (ha hK hM) (hb hK hM)) λ_ _ _ q=>Ks q
theorem gN (i:Nat) (h:DS M X st f):DS M X st (ke i f):=λhK hM=>psI (h hK hM) λ_ _ _ q=>IJ q
theorem aC {i:Nat} {x:Str} {p:Pos} (hN:X.N.Nodup) (hi:X.N[i]?=some x) (hx:Loc X.env.scope x) (h:DE M X e fa) (hs:swapsWith e (some (.Name x p)) pos.line X.env=pure false:=by rfl)
  (hf:X.fn x=true\/X.env.scope.names.lookup x=some .local:=by first | exact .inl rfl | exact .inr rfl | assumption):DS M X (.Assign [.Name x p] e pos) (aN i fa):=λhK hM =>
 psI (Em hN hi hx (h hK hM) hs hf) λ_ _ _ q=>BZ (vp hi) q
theorem uO {tg:Expr} {is:List Nat} {gg:Fg} (h:DE M X e fa) (hg:DG M X tg is gg) (hs:swapsWithSole [tg] e pos.line X.env=pure false:=by rfl) (hw:swappedStores [tg] e X.env=pure none:=by rfl) (h1:(assignEach [tg] X.env).map (·.2)=[assign tg X.env]:=by rfl):DS M X (.Assign [tg] e pos) (tQ fa gg):=λhK hM =>
 psI (uG (h hK hM) (hg hK hM) hs hw h1) λ_ _ _ q=>Cd q
theorem EW {i:Nat} {x:Str} {p:Pos} {op:Operator} {ti:TIp} {gd:PyData->PyData->R OD} (hN:X.N.Nodup) (hi:X.N[i]?=some x) (hx:Loc X.env.scope x) (h:DE M X e fa) (ho:PIp X op ti) (hg:X.K=M.K->Ok2 M ti gd)
  (hf:X.fn x=true\/X.env.scope.names.lookup x=some .local:=by first | exact .inl rfl | exact .inr rfl | assumption):DS M X (.AugAssign (.Name x p) op e pos) (wD i gd fa):=λhK hM =>
 psI (CN hN hi hx (h hK hM) ho hf) λ_ _ _ q=>Jm (vp hi) (hg hK) q
theorem cL {tg iter:Expr} {it:Fi} {is:List Nat} {gg:Fg} {body:List Stmt} (hc:X.calm=true) (hp:PassesOwn (model X.prog X.w) X.A X.env X.xe) (hi:DI M X tg iter it) (hg:DG M X tg is gg) (hb:DSs M X body f) (hs:∀x,foldedSetIterable iter X.env x=pure x:=by intro _;rfl):DS M X (.For tg iter body [] pos) (fV it gg f):=λhK hM =>
 psI (DC hp hc (hi hK hM) (hg hK hM) (hb hK hM) hs) λ_ _ _ q=>Jv q
theorem kA {body:List Stmt} (hp:PassesOwn (model X.prog X.w) X.A X.env X.xe) (h:DT M X c ta) (hb:DSs M X body f):DS M X (.While c body [] pos) (fj ta f):=λhK hM =>
 psI (zS hp (h hK hM) (hb hK hM)) λ_ _ _ q=>AQ q
variable {x:Str} {p ap cp:Pos}
theorem DX {o:Expr} {to:TE} {t:TA} {name:Str} {id:String} {r:V->List V->Hp->VK->Prop} (slot:Slot "list" name id) (hty:typeOf (.builtin id)=pure (.type "method_descriptor")) (hm:MtR X id r) (ho:PE X o to) (ha:PA X [e] t) (k:∀D σ H,tS M X.N.length f D σ H->m7 (tBM M.K "list" r to t) D σ H)
  (hbase:attributeBase o name X.env (eval o X.env)=eval o X.env)
  (hfew:((backTo cp (starEach [e] X.env)).all (λx=>!x.1) && (backToKw cp (keywordEach [] X.env)).all (λx=>x.1.isSome) && decide (([e]:List Expr).length+([]:List Keyword).length+(if ([]:List Keyword).isEmpty then 0 else 1)<30))=true)
  (hline:(ap.endLine == cp.line)=true) (hs:starEach [e] X.env=(false,eval e X.env) :: starEach [] X.env) (hplain:(backTo cp (starEach [] X.env)).any (·.1)=false)
  (hsw:swapsWith (.Call (.Attribute o name ap) [e] [] cp) none pos.line X.env=pure false) (hK:X.K=M.K):PS X (.Expr (.Call (.Attribute o name ap) [e] [] cp) pos) (tS M X.N.length f):=by
 have q:=Cu (apos:=ap) (cpos:=cp) PySem.F.plainAttrs_list slot hty hm ho ha hbase hfew hline hs hplain;rw [hK]at q;exact psI (qj q hsw) k
theorem K3 {o:Expr} {to:TE} {name:Str} {id:String} {r:V->List V->Hp->VK->Prop} (slot:Slot "list" name id) (hty:typeOf (.builtin id)=pure (.type "method_descriptor")) (hm:MtR X id r) (ho:PE X o to) (k:∀D σ H,tS M X.N.length f D σ H->m7 (AM M.K "list" r to) D σ H)
  (hbase:attributeBase o name X.env (eval o X.env)=eval o X.env) (hline:(ap.endLine == cp.line)=true)
  (hsw:swapsWith (.Call (.Attribute o name ap) [] [] cp) none pos.line X.env=pure false) (hK:X.K=M.K):PS X (.Expr (.Call (.Attribute o name ap) [] [] cp) pos) (tS M X.N.length f):=by
 have q:=ze (apos:=ap) (cpos:=cp) PySem.F.plainAttrs_list slot hty hm ho hbase hline;rw [hK]at q;exact psI (qj q hsw) k
theorem FJ (h:DE M X e fa) (hs:starEach [e] X.env=(false,eval e X.env) :: starEach [] X.env) (hK:X.K=M.K) (hM:X.mg=M.mg):PA X [e] (mX (tD M X.N.length fa) vh):=lS (h hK hM) rH hs
theorem e9 (i:Nat) (h:DE M X e fa) (hN:X.N[i]?=some x:=by rfl) (hv:Vis X.env.scope x:=by first | exact Or.inl rfl | exact Or.inr (Or.inl rfl) | exact Or.inr (Or.inr rfl)) (hd:(x == ("__debug__" : Str))=false:=by decide) (hcd:(x == ("__classdict__" : Str))=false:=by decide)
  (hbase:attributeBase (.Name x p) "append" X.env (eval (.Name x p) X.env)=eval (.Name x p) X.env:=by rfl)
  (hfew:((backTo cp (starEach [e] X.env)).all (λx=>!x.1) && (backToKw cp (keywordEach [] X.env)).all (λx=>x.1.isSome) && decide (([e]:List Expr).length+([]:List Keyword).length+(if ([]:List Keyword).isEmpty then 0 else 1)<30))=true:=by rfl)
  (hline:(ap.endLine == cp.line)=true:=by rfl) (hs:starEach [e] X.env=(false,eval e X.env) :: starEach [] X.env:=by rfl) (hplain:(backTo cp (starEach [] X.env)).any (·.1)=false:=by rfl)
  (hsw:swapsWith (.Call (.Attribute (.Name x p) "append" ap) [e] [] cp) none pos.line X.env=pure false:=by rfl):DS M X (.Expr (.Call (.Attribute (.Name x p) "append" ap) [e] [] cp) pos) (iZ i fa):=λhK hM =>
 DX PySem.F.slot_list_append PySem.F.type_list_append k7 (ju hN hv hd hcd) (FJ h hs hK hM) (λ_ _ _ q=>Il q) hbase hfew hline hs hplain hsw hK
theorem uJ (i:Nat) (h:DE M X e fa) (hN:X.N[i]?=some x:=by rfl) (hv:Vis X.env.scope x:=by first | exact Or.inl rfl | exact Or.inr (Or.inl rfl) | exact Or.inr (Or.inr rfl)) (hd:(x == ("__debug__" : Str))=false:=by decide) (hcd:(x == ("__classdict__" : Str))=false:=by decide)
  (hbase:attributeBase (.Name x p) "extend" X.env (eval (.Name x p) X.env)=eval (.Name x p) X.env:=by rfl)
  (hfew:((backTo cp (starEach [e] X.env)).all (λx=>!x.1) && (backToKw cp (keywordEach [] X.env)).all (λx=>x.1.isSome) && decide (([e]:List Expr).length+([]:List Keyword).length+(if ([]:List Keyword).isEmpty then 0 else 1)<30))=true:=by rfl)
  (hline:(ap.endLine == cp.line)=true:=by rfl) (hs:starEach [e] X.env=(false,eval e X.env) :: starEach [] X.env:=by rfl) (hplain:(backTo cp (starEach [] X.env)).any (·.1)=false:=by rfl)
  (hsw:swapsWith (.Call (.Attribute (.Name x p) "extend" ap) [e] [] cp) none pos.line X.env=pure false:=by rfl):DS M X (.Expr (.Call (.Attribute (.Name x p) "extend" ap) [e] [] cp) pos) (t9 i fa):=λhK hM =>
 DX PySem.F.slot_list_extend PySem.F.type_list_extend xf (ju hN hv hd hcd) (FJ h hs hK hM) (λ_ _ _ q=>HY q) hbase hfew hline hs hplain hsw hK
theorem sE {p2:Pos} (i:Nat) (hb:DE M X b fb) (h:DE M X e fa) (hix:rL b) (hN:X.N[i]?=some x:=by rfl) (hv:Vis X.env.scope x:=by first | exact Or.inl rfl | exact Or.inr (Or.inl rfl) | exact Or.inr (Or.inr rfl)) (hd:(x == ("__debug__" : Str))=false:=by decide) (hcd:(x == ("__classdict__" : Str))=false:=by decide)
  (hbase:attributeBase (.Subscript (.Name x p) b p2) "append" X.env (eval (.Subscript (.Name x p) b p2) X.env)=eval (.Subscript (.Name x p) b p2) X.env:=by rfl)
  (hfew:((backTo cp (starEach [e] X.env)).all (λx=>!x.1) && (backToKw cp (keywordEach [] X.env)).all (λx=>x.1.isSome) && decide (([e]:List Expr).length+([]:List Keyword).length+(if ([]:List Keyword).isEmpty then 0 else 1)<30))=true:=by rfl)
  (hline:(ap.endLine == cp.line)=true:=by rfl) (hs:starEach [e] X.env=(false,eval e X.env) :: starEach [] X.env:=by rfl) (hplain:(backTo cp (starEach [] X.env)).any (·.1)=false:=by rfl)
  (hsw:swapsWith (.Call (.Attribute (.Subscript (.Name x p) b p2) "append" ap) [e] [] cp) none pos.line X.env=pure false:=by rfl):DS M X (.Expr (.Call (.Attribute (.Subscript (.Name x p) b p2) "append" ap) [e] [] cp) pos) (lL i fb fa):=λhK hM =>
 DX PySem.F.slot_list_append PySem.F.type_list_append k7 (Cq (zP M.K hK) (ju hN hv hd hcd) (hb hK hM) hix) (FJ h hs hK hM) (λ_ _ _ q=>AO q) hbase hfew hline hs hplain hsw hK
theorem uR {tg:Expr} {is:List Nat} {gg:Fg} (i:Nat) (hg:DG M X tg is gg) (hN:X.N[i]?=some x:=by rfl) (hv:Vis X.env.scope x:=by first | exact Or.inl rfl | exact Or.inr (Or.inl rfl) | exact Or.inr (Or.inr rfl)) (hd:(x == ("__debug__" : Str))=false:=by decide) (hcd:(x == ("__classdict__" : Str))=false:=by decide)
  (hbase:attributeBase (.Name x p) "pop" X.env (eval (.Name x p) X.env)=eval (.Name x p) X.env:=by rfl) (hline:(ap.endLine == cp.line)=true:=by rfl)
  (hs:swapsWithSole [tg] (.Call (.Attribute (.Name x p) "pop" ap) [] [] cp) pos.line X.env=pure false:=by rfl) (hw:swappedStores [tg] (.Call (.Attribute (.Name x p) "pop" ap) [] [] cp) X.env=pure none:=by rfl) (h1:(assignEach [tg] X.env).map (·.2)=[assign tg X.env]:=by rfl) :
  DS M X (.Assign [tg] (.Call (.Attribute (.Name x p) "pop" ap) [] [] cp) pos) (tu i gg):=λhK hM=>by
 have q:=ze (apos:=ap) (cpos:=cp) PySem.F.plainAttrs_list PySem.F.slot_list_pop PySem.F.type_list_pop yV (ju (pos:=p) hN hv hd hcd) hbase hline;rw [hK]at q;exact psI (uG q (hg hK hM) hs hw h1) λ_ _ _ z=>s_pop z
theorem gG {p2:Pos} (i:Nat) (hb:DE M X b fb) (h:DE M X e fa) (hN:X.N[i]?=some x:=by rfl) (hv:Vis X.env.scope x:=by first | exact Or.inl rfl | exact Or.inr (Or.inl rfl) | exact Or.inr (Or.inr rfl)) (hd:(x == ("__debug__" : Str))=false:=by decide) (hcd:(x == ("__classdict__" : Str))=false:=by decide)
  (hs:swapsWithSole [.Subscript (.Name x p) b p2] e pos.line X.env=pure false:=by rfl) (hw:swappedStores [.Subscript (.Name x p) b p2] e X.env=pure none:=by rfl)
  (ha:∀v,assign (.Subscript (.Name x p) b p2) X.env v=(do
   let ov <-holding [v] (eval (.Name x p) X.env)
   let iv <-holding [v,ov] (eval b X.env)
   standAt p2
   holding [v,ov,iv] (setItem ov iv v)
   release [v,ov,iv] []):=by intro _;rfl) (h1:(assignEach [.Subscript (.Name x p) b p2] X.env).map (·.2)=[assign (.Subscript (.Name x p) b p2) X.env]:=by rfl):DS M X (.Assign [.Subscript (.Name x p) b p2] e pos) (jB i fb fa):=λhK hM =>
 psI (uG (h hK hM) (Eu (ju hN hv hd hcd) (hb hK hM) set_list ha) hs hw h1) λ_ _ _ q=>Iy q
variable {sc scope:Scope} {outs:List (Nat×Str)} {elt tg iter:Expr} {ifs:List Expr} {it:Fi} {gg:Fg} {is:List Nat} {el:Fe}
theorem cB:DF M X [] bQ:=λ_ _=>λpins s σ H Q I q=>Dw pins s σ H Q I (by
 obtain ⟨F,ρ,fp,S,p⟩:=q;exact p F H (Ext.refl S.same))
theorem i5 (h:DT M X c ta):DF M X [c] ta:=λhK hM=>EX (h hK hM)
theorem mK (own:List Str) (s:Shared) (H:Hp) (C:Addr) (ex:List Addr) (pins:List (Addr×Obj)):(cxB X (own++outs.map (·.2)) scope s H C ex pins).N.length=own.length+outs.length:=by
 show (own++outs.map (·.2)).length=_
 rw [Zd,Zc]
theorem b7 (own:List Str) (B:Blk X sc scope outs) (hcalm:X.calm=true) (hk:∀j∈is,j<own.length) (hi:DI M X tg iter it)
  (hg:∀s H C ex pins,DG M (cxB X (own++outs.map (·.2)) scope s H C ex pins) tg is gg) (hc:∀s H C ex pins,DF M (cxB X (own++outs.map (·.2)) scope s H C ex pins) ifs ta) (he:∀s H C ex pins,DE M (cxB X (own++outs.map (·.2)) scope s H C ex pins) elt el)
  (hs:∀x,foldedSetIterable iter X.env x=pure x:=by intro _;rfl):DE M X (.ListComp elt [⟨tg,iter,ifs,0⟩] scope pos) (bD it gg ta el own.length (outs.map (·.1))):=λhK hM =>
 peI (Am (wi:=tI M X.N.length it) (g:=tG M (own.length+outs.length) is gg) (tc:=tT M (own.length+outs.length) ta) (te:=tD M (own.length+outs.length) el) own B hcalm (hi hK hM)
  (λs H C ex pins=>by have q:=hg s H C ex pins hK hM;rw [mK]at q;exact q) (λs H C ex pins=>by have q:=hc s H C ex pins hK hM;rw [mK]at q;exact q) (λs H C ex pins=>by have q:=he s H C ex pins hK hM;rw [mK]at q;exact q) hs) λ_ _ _ q=>uh hk q
theorem gP {fe:Fe} {i:Nat} {spos:Pos} (own:List Str) (w:∀σ H Q,tD M X.N.length fe σ H Q->tD M X.N.length (bD it gg ta el own.length (outs.map (·.1))) σ H Q) (hN:X.N.Nodup) (hix:X.N[i]?=some x) (hx:Loc X.env.scope x) (B:Blk X sc scope outs) (hcalm:X.calm=true) (hk:∀j∈is,j<own.length) (hi:DI M X tg iter it)
  (hg:∀s H C ex pins,DG M (cxB X (own++outs.map (·.2)) scope s H C ex pins) tg is gg) (hc:∀s H C ex pins,DF M (cxB X (own++outs.map (·.2)) scope s H C ex pins) ifs ta) (he:∀s H C ex pins,DE M (cxB X (own++outs.map (·.2)) scope s H C ex pins) elt el)
  (hsw:swapsWith (.ListComp elt [⟨tg,iter,ifs,0⟩] scope pos) (some (.Name x p)) spos.line X.env=pure true:=by rfl)
  (hs:∀x,foldedSetIterable iter X.env x=pure x:=by intro _;rfl) (hf:X.fn x=true\/X.env.scope.names.lookup x=some .local:=by first | exact .inl rfl | exact .inr rfl | assumption) :
  DS M X (.Assign [.Name x p] (.ListComp elt [⟨tg,iter,ifs,0⟩] scope pos) spos) (aN i fe):=λhK hM =>
 psI (AN (wi:=tI M X.N.length it) (g:=tG M (own.length+outs.length) is gg) (tc:=tT M (own.length+outs.length) ta) (te:=tD M (own.length+outs.length) el) own hN hix hx B hcalm (hi hK hM)
  (λs H C ex pins=>by have q:=hg s H C ex pins hK hM;rw [mK]at q;exact q) (λs H C ex pins=>by have q:=hc s H C ex pins hK hM;rw [mK]at q;exact q) (λs H C ex pins=>by have q:=he s H C ex pins hK hM;rw [mK]at q;exact q) hsw hs hf) λD σ H q=>by
  have q':=BZ (vp hix) q;exact uh hk (w _ _ _ q')
end
noncomputable def oI (i:Int):R OD:=.ok (.sh (.int i))
noncomputable def oB (b:Bool):R OD:=.ok (.sh (.bool b))
noncomputable def oD (d:PyData):R OD:=.ok (.sh d)
noncomputable def cH:PyData->PyData->R OD
 |.int i,.int j=>oI (i+j)
 |.str x,.str y=>if x.length+y.length<=BIG then oD (.str (x++y)) else .bad
 |.list xs,.list ys=>if xs.length+ys.length<=BIG then .ok (.ol ((xs++ys).map OD.sh)) else .bad
 |_,_=>.bad
noncomputable def eE:PyData->PyData->R OD
 |.int i,.int j=>oI (i-j)
 |_,_=>.bad
noncomputable def jk (i j:Int):Bool:=(decide (-(2 ^ 64)<i) && decide (i<2 ^ 64)) || (decide (-(2 ^ 64)<j) && decide (j<2 ^ 64))
noncomputable def g7:PyData->PyData->R OD
 |.int i,.int j=>if jk i j=true then oI (i * j) else .bad
 |.list xs,.int k=>if (decide (-(2 ^ 63)<=k) && decide (k<2 ^ 63) && decide (xs.length * k.toNat<=BIG))=true then .ok (.ol ((List.replicate k.toNat xs).flatten.map OD.sh)) else .bad
 |_,_=>.bad
noncomputable def dR:PyData->PyData->R OD
 |.int i,.int j=>if 0<j then oI (i % j) else .bad
 |_,_=>.bad
noncomputable def ft:PyData->PyData->R OD
 |.int i,.int j=>if 0<j/\j<1073741824 then oI (i / j) else .bad
 |_,_=>.bad
noncomputable def Ar:PyData->PyData->R OD
 |.int i,.int j=>if 0<=j/\j<=1000000/\i.natAbs<2 ^ 64 then oI (i ^ j.toNat) else .bad
 |_,_=>.bad
noncomputable def fN:PyData->R OD
 |.int i=>oI (-i)
 |_=>.bad
noncomputable def gLt:PyData->PyData->R OD
 |.int i,.int j=>oB (decide (i<j))
 |_,_=>.bad
noncomputable def gLe:PyData->PyData->R OD
 |.int i,.int j=>oB (decide (i<=j))
 |_,_=>.bad
noncomputable def gGt:PyData->PyData->R OD
 |.int i,.int j=>oB (decide (j<i))
 |_,_=>.bad
noncomputable def gGe:PyData->PyData->R OD
 |.int i,.int j=>oB (decide (j<=i))
 |_,_=>.bad
noncomputable def iV (x y:PyData):R Bool:=if (SeqAt.shaped x && SeqAt.shaped y)=true then .ok (PyData.eqv x y) else .bad
noncomputable def eqD:PyData->PyData->R Bool
 |.int i,.int j=>.ok (decide (i=j))
 |.str x,.str y=>.ok (decide (x=y))
 |.bool x,.bool y=>.ok (decide (x=y))
 |x,y=>iV x y
noncomputable def gEq (x y:PyData):R OD:=(eqD x y).bind λb=>oB b
noncomputable def gNe (x y:PyData):R OD:=(eqD x y).bind λb=>oB (!b)
noncomputable def i4 (o:Option PyData):R OD:=match o with
 |some d=>oD d
 |none=>.bad
noncomputable def gIx:PyData->PyData->R OD
 |.list xs,.int i=>i4 (atI xs i)
 |.tuple xs,.int i=>i4 (atI xs i)
 |.str z,.int i=>if z.length<=BIG then i4 ((atI z.cps.toList i).map λc=>.str ⟨#[c]⟩) else .bad
 |_,_=>.bad
noncomputable def cutD (xs:List PyData) (lo hi:Option Int):List PyData:=(xs.drop (HT.sIx xs.length 0 lo)).take (HT.sIx xs.length xs.length hi-HT.sIx xs.length 0 lo)
noncomputable def l7 (x:PyData) (lo hi:Option Int):R OD:=match x with
 |.list xs=>.ok (.ol ((cutD xs lo hi).map OD.sh))
 |_=>.bad
noncomputable def bP:List PyData->R OD
 |[.list xs]=>oI xs.length
 |[.tuple xs]=>oI xs.length
 |[.str x]=>if x.length<=BIG then oI x.length else .bad
 |_=>.bad
noncomputable def p8:List PyData->R OD
 |[.int i,.int j]=>oI (if j<i then j else i)
 |_=>.bad
noncomputable def p9:List PyData->R OD
 |[.int i,.int j]=>oI (if i<j then j else i)
 |_=>.bad
noncomputable def dJ:List PyData->Option (List Int)
 |[]=>some []
 |.int i :: r=>(dJ r).map (i :: ·)
 |_ :: _=>none
theorem gb:∀ns:List Int,dJ (ns.map PyData.int)=some ns
 |[]=>rfl
 |n :: ns=>by rw [Zk,dJ,gb ns];rfl
theorem jV:∀{ds:List PyData} {ns:List Int},dJ ds=some ns->ds=ns.map PyData.int
 |[],ns,h=>by cases h;rfl
 |.int i :: r,ns,h=>by
  rw [dJ]at h;obtain ⟨ms,h1,rfl⟩:=Zp.mp h;rw [jV h1];rfl
 |.none :: _,_,h=>by cases h
 |.bool _ :: _,_,h=>by cases h
 |.str _ :: _,_,h=>by cases h
 |.list _ :: _,_,h=>by cases h
 |.tuple _ :: _,_,h=>by cases h
 |.dict _ :: _,_,h=>by cases h
noncomputable def mT:Int->List Int->Int
 |m,[]=>m
 |m,n :: ns=>mT (if m<n then n else m) ns
noncomputable def qI:Int->List Int->Int
 |m,[]=>m
 |m,n :: ns=>qI (if n<m then n else m) ns
noncomputable def n6:List PyData->R OD
 |[.list ds]=>match dJ ds with
  |some (n :: ns)=>oI (mT n ns)
  |_=>.bad
 |_=>.bad
noncomputable def l4:List PyData->R OD
 |[.list ds]=>match dJ ds with
  |some (n :: ns)=>oI (qI n ns)
  |_=>.bad
 |_=>.bad
noncomputable def jJ:List PyData->R OD
 |[.list ds]=>match dJ ds with
  |some ns=>oI ns.sum
  |_=>.bad
 |_=>.bad
noncomputable def ij:List PyData->R OD
 |[.list ds]=>.ok (.ol (ds.map OD.sh))
 |[.tuple ds]=>.ok (.ol (ds.map OD.sh))
 |_=>.bad
noncomputable def JA:List PyData->R OD
 |[.int i]=>oI i
 |[.bool b]=>oI (if b then 1 else 0)
 |_=>.bad
noncomputable def qt (ds:List PyData) (y:PyData):R OD:=match y with
 |.int z=>match dJ ds with
  |some ns=>if z∈ns then oI (ns.idxOf z:Nat) else .bad
  |none=>.bad
 |_=>.bad
noncomputable def Cm:PyData->Option String
 |.int _=>some "int"
 |.bool _=>some "bool"
 |.str _=>some "str"
 |.list _=>some "list"
 |.tuple _=>some "tuple"
 |.none=>some "NoneType"
 |.dict _=>none
noncomputable def Bm (T:String) (d:PyData):Option Bool:=match Cm d with
 |some U=>if T = "int" \/ T = "bool" \/ T = "str" \/ T = "list" \/ T = "tuple" then some (decide (T=U\/(U = "bool" /\ T = "int"))) else none
 |none=>none
noncomputable def jR (T:String) (x:PyData):R OD:=match Bm T x with
 |some b=>oB b
 |none=>.bad
section
variable {M:Mx} {X:Cx}
theorem okI {F H:Hp} {fp:List Addr} {Q:VK} {i:Int} (s:bb F H) (p:aG M H fp (OkE M F H Q) (oI i)):Q (.int i) H:=OkE.val s p (.int i)
theorem okB {F H:Hp} {fp:List Addr} {Q:VK} {i:Bool} (s:bb F H) (p:aG M H fp (OkE M F H Q) (oB i)):Q (.bl i) H:=OkE.val s p (.bl i)
noncomputable def Cs (K:PySem.W.Frag):R2:=λx y H Q=>∃l b xs zs,x=.ref l/\y=.ref b/\RdK K H l xs/\RdK K H b zs/\xs.length+zs.length<=sizeLine/\∀p,H p=none->Q (.ref p) (upd H p (.lst (xs++zs)))
theorem Ba:OpR X (binaryOp .Add) (Cs X.K):=by
 intro pins s σ H x y v u Q I rx ry h;obtain ⟨l,b,xs,zs,rfl,rfl,hH,hB,hz,q⟩:=h;cases rx;cases ry;obtain ⟨z,its,n,r,hl,e⟩:=hH.obj I;obtain ⟨z2,its2,n2,r2,hl2,e2⟩:=hB.obj I;refine PySem.P.add_list e e2 ?_ (by rw [ZA,ZA];lia)
 have ea:its.toArray++its2.toArray=(its++its2).toArray:=by simp
 rw [ea];exact ⟨.ref _,_,I.lnew (t':=s.toks) (r.append r2) (by rw [Zd];lia),rfl,q _ I.fresh⟩
noncomputable def Ci (K:PySem.W.Frag):R2:=λx y H Q=>rI0 (λi j=>.int (i+j)) x y H Q\/(∃i j,x=.str i/\y=.str j/\i.length+j.length<=sizeLine/\Q (.str (i++j)) H)\/Cs K x y H Q
theorem aV:OpR X (binaryOp .Add) (Ci X.K):=DV.or (uz.or Ba)
theorem bh (hK:X.K=M.K):Ok2 M (Ci X.K) cH:=by
 rw [hK];intro x y dx dy F H fp Q s rx ry p;unfold cH at p;split at p
 ·cases rx;cases ry
  exact .inl ⟨_,_,rfl,rfl,okI s p⟩
 ·cases rx;cases ry
  split at p
  ·rename_i hl
   exact .inr (.inl ⟨_,_,rfl,rfl,jq hl,OkE.val s p (.str _)⟩)
  ·exact p.elim
 ·split at p
  ·rename_i hl
   cases rx with
   |lst h1 h2 =>
    cases ry with
    |lst h3 h4=>exact .inr (.inr ⟨_,_,_,_,rfl,rfl,h1.same s,h3.same s,by rw [RepAll.len h2,RepAll.len h4];exact jq hl,λa ha=>OkE.lstD s p (RepAll.app h2 h4) ha⟩)
  ·exact p.elim
 ·exact p.elim
theorem gp:Ok2 M (rI0 λi j=>.int (i-j)) eE:=by
 intro x y dx dy F H fp Q s rx ry p;unfold eE at p;split at p
 ·cases rx;cases ry
  exact ⟨_,_,rfl,rfl,okI s p⟩
 ·exact p.elim
theorem BE {i j:Int} (h:jk i j=true):xO i j:=by
 unfold jk at h;rw [Bool.or_eq_true,Zv,Zv,decide_eq_true_eq,decide_eq_true_eq,decide_eq_true_eq,decide_eq_true_eq]at h;exact h
noncomputable def Ct (K:PySem.W.Frag):R2:=λx y H Q=>∃l k xs,x=.ref l/\y=.int k/\RdK K H l xs/\-(2 ^ 63)<=k/\k<2 ^ 63/\xs.length * k.toNat<=sizeLine /\
 ∀p,H p=none->Q (.ref p) (upd H p (.lst (List.replicate k.toNat xs).flatten))
theorem AE:OpR X (binaryOp .Mult) (Ct X.K):=by
 intro pins s σ H x y v u Q I rx ry h;obtain ⟨l,k,xs,rfl,rfl,hH,h1,h2,hz,q⟩:=h;cases rx;obtain ⟨t,rfl⟩:=ry;obtain ⟨z,its,n,r,hl,e⟩:=hH.obj I;have hlen:its.toArray.size * k.toNat<=sizeLine:=by rw [ZA,<-hl];exact hz
 have hcap:¬its.toArray.size * k.toNat > (2 ^ 63-1) / 8:=by
  have:(sizeLine:Nat)<=(2 ^ 63-1) / 8:=by decide
  lia
 have hfit:¬(!Builtin.List.listFitsIndex k)=true:=by
  rw [fitsIndex_both h1 h2];exact Zm
 have hlong:¬Builtin.List.listTooLong (its.toArray.size * k.toNat)=true:=by
  rw [si hlen];exact Zm
 have hnew:List.foldl (λx1 x2=>x1++x2) #[] (List.replicate (if its.toArray.isEmpty=true then 0 else k.toNat) its.toArray)=(List.replicate k.toNat its).flatten.toArray:=by
  have f0:∀m:Nat,List.foldl (λx1 x2=>x1++x2) #[] (List.replicate m its.toArray)=(List.replicate m its).flatten.toArray:=λm=>by
   have:=foldl_rep its m [];rw [List.nil_append]at this;exact this
  rw [f0];cases its with
  |nil=>simp
  |cons a r'=>rw [if_neg (by simp)]
 refine wpAny_binaryOp_repeat_ref (T := "list") (U := "int") (by decide) ⟨_,e,rfl⟩ (λs'=>typeIs_int s' k t) noFill_list_mul F.fills_int_mul F.slot_int_rmul repeat_list F.slot_int_index.lookup
  (call_meets F.slot_int_rmul (typeIs_int s k t) F.entry_int_rmul (F.args_int_rmul_2 _ _) (int___rmul___int_list k t l its.toArray n)
   ⟨e,rfl,⟨_,e,rfl⟩,call_meets F.slot_list_mul ⟨_,e,rfl⟩ F.entry_list_mul (F.args_list_mul_2 _ _) (AutoListH.list___mul___list_int_3 l its.toArray n k t hfit hcap hlong) ⟨e,?_⟩⟩)
 rw [hnew];exact ⟨.ref _,_,I.lnew (t':=s.toks) (r.rep k.toNat) (by rw [len_rep,Nat.mul_comm];exact hz),rfl,q _ I.fresh⟩
noncomputable def BN (K:PySem.W.Frag):R2:=λx y H Q=>rI xO (λi j=>.int (i * j)) x y H Q\/Ct K x y H Q
theorem de:OpR X (binaryOp .Mult) (BN X.K):=FF.or AE
theorem RepAll.rep {K:PySem.W.Frag} {F:Hp} {vs:List V} {ds:List PyData} (h:RepAll K F vs ds):∀k:Nat,RepAll K F (List.replicate k vs).flatten (List.replicate k ds).flatten
 |0=>.nil
 |k+1=>by
  rw [List.replicate_succ,List.replicate_succ,List.flatten_cons,List.flatten_cons];exact RepAll.app h (RepAll.rep h k)
theorem eK (hK:X.K=M.K):Ok2 M (BN X.K) g7:=by
 rw [hK];intro x y dx dy F H fp Q s rx ry p;unfold g7 at p;split at p
 ·cases rx;cases ry
  split at p
  ·rename_i hc
   exact .inl ⟨_,_,rfl,rfl,BE hc,okI s p⟩
  ·exact p.elim
 ·cases ry
  split at p
  ·rename_i hc
   rw [Zv,Zv,decide_eq_true_eq,decide_eq_true_eq,decide_eq_true_eq]at hc;cases rx with
   |lst h1 h2=>exact .inr ⟨_,_,_,rfl,rfl,h1.same s,hc.1.1,hc.1.2,by rw [RepAll.len h2];exact jq hc.2,λa ha=>OkE.lstD s p (RepAll.rep h2 _) ha⟩
  ·exact p.elim
 ·exact p.elim
theorem br:Ok2 M (rI (λ_ j=>0<j) λi j=>.int (i % j)) dR:=by
 intro x y dx dy F H fp Q s rx ry p;unfold dR at p;split at p
 ·cases rx;cases ry
  split at p
  ·rename_i hc
   exact ⟨_,_,rfl,rfl,hc,okI s p⟩
  ·exact p.elim
 ·exact p.elim
theorem b8:Ok2 M (rI Ii λi j=>.int (i / j)) ft:=by
 intro x y dx dy F H fp Q s rx ry p;unfold ft at p;split at p
 ·cases rx;cases ry
  split at p
  ·rename_i hc
   exact ⟨_,_,rfl,rfl,hc,okI s p⟩
  ·exact p.elim
 ·exact p.elim
theorem Ei:Ok2 M (rI Ib λi j=>.int (i ^ j.toNat)) Ar:=by
 intro x y dx dy F H fp Q s rx ry p;unfold Ar at p;split at p
 ·cases rx;cases ry
  split at p
  ·rename_i hc
   exact ⟨_,_,rfl,rfl,hc,okI s p⟩
  ·exact p.elim
 ·exact p.elim
theorem et:Ok1 M (rU λi=>.int (-i)) fN:=by
 intro x dx F H fp Q s rx p;unfold fN at p;split at p
 ·cases rx
  exact ⟨_,rfl,okI s p⟩
 ·exact p.elim
theorem vO:Ok2 M (rI0 λi j=>.bl (decide (i<j))) gLt:=by
 intro x y dx dy F H fp Q s rx ry p;unfold gLt at p;split at p
 ·cases rx;cases ry
  exact ⟨_,_,rfl,rfl,okB s p⟩
 ·exact p.elim
theorem lX:Ok2 M (rI0 λi j=>.bl (decide (j<i))) gGt:=by
 intro x y dx dy F H fp Q s rx ry p;unfold gGt at p;split at p
 ·cases rx;cases ry
  exact ⟨_,_,rfl,rfl,okB s p⟩
 ·exact p.elim
theorem t5:Ok2 M (rI0 λi j=>.bl (decide (j<=i))) gGe:=by
 intro x y dx dy F H fp Q s rx ry p;unfold gGe at p;split at p
 ·cases rx;cases ry
  exact ⟨_,_,rfl,rfl,okB s p⟩
 ·exact p.elim
mutual
theorem Rep.to2 {K:PySem.W.Frag} {H:Hp} {v:V} {d:PyData}:Rep K H v d->d.canLay0=true->L2.Rep K H v d
 |.non,_=>.non
 |.bl b,_=>.bl b
 |.int i,_=>.int i
 |.str x,_=>.str x
 |.lst h r,c=>.lst h.sq (RepAll.to2 r (by rw [PyData.canLay0]at c;exact c))
 |.tup h r,c=>.tup (SqT.of h) (RepAll.to2 r (by rw [PyData.canLay0]at c;exact c))
 |.dct _ _ _,c=>by
  unfold dD at c;rw [PyData.canLay0]at c;cases c
theorem RepAll.to2 {K:PySem.W.Frag} {H:Hp} {vs:List V} {ds:List PyData}:RepAll K H vs ds->PyData.canLayAll0 ds=true->L2.RepAll K H vs ds
 |.nil,_=>.nil
 |.cons h r,c=>by
  rw [PyData.canLayAll0,Zv]at c;exact .cons (Rep.to2 h c.1) (RepAll.to2 r c.2)
end
noncomputable def Ia (K:PySem.W.Frag):R2:=λx y H Q=>rEq x y H Q\/JC K x y H Q
noncomputable def Gr (K:PySem.W.Frag):R2:=λx y H Q=>rNe x y H Q\/JL K x y H Q
theorem cm (hu:X.A.units+64<cLine):OpR X (compareOp .Eq) (Ia X.K):=Hb.or (Dk hu)
theorem lE (hu:X.A.units+64<cLine):OpR X (compareOp .NotEq) (Gr X.K):=Jd.or (Ep hu)
theorem zY {K:PySem.W.Frag} {F H:Hp} {fp:List Addr} {x y:V} {dx dy:PyData} {P:Bool->Prop} (rx:Rep K F x dx) (ry:Rep K F y dy) (p:aG M H fp P (eqD dx dy)) :
  (De x y=true/\P (decide (x=y)))\/(SeqAt.shaped dx=true/\SeqAt.shaped dy=true/\P (PyData.eqv dx dy)):=by
 unfold eqD at p;split at p
 ·cases rx;cases ry
  refine .inl ⟨rfl,?_⟩;have e:∀i j:Int,decide (V.int i=V.int j)=decide (i=j):=λi j=>by
   by_cases h:i=j
   ·rw [h];simp
   ·rw [decide_eq_false h,decide_eq_false λz=>h (V.int.inj z)]
  rw [e];exact p
 ·cases rx;cases ry
  refine .inl ⟨rfl,?_⟩;have e:∀i j:Str,decide (V.str i=V.str j)=decide (i=j):=λi j=>by
   by_cases h:i=j
   ·rw [h];simp
   ·rw [decide_eq_false h,decide_eq_false λz=>h (V.str.inj z)]
  rw [e];exact p
 ·cases rx;cases ry
  refine .inl ⟨rfl,?_⟩;have e:∀i j:Bool,decide (V.bl i=V.bl j)=decide (i=j):=λi j=>by
   by_cases h:i=j
   ·rw [h];simp
   ·rw [decide_eq_false h,decide_eq_false λz=>h (V.bl.inj z)]
  rw [e];exact p
 ·unfold iV at p
  split at p
  ·rename_i h
   rw [Zv]at h;exact .inr ⟨h.1,h.2,p⟩
  ·exact p.elim
theorem dH (hK:X.K=M.K):Ok2 M (Ia X.K) gEq:=by
 rw [hK];intro x y dx dy F H fp Q s rx ry p;rcases zY rx ry (aG.bind p) with ⟨h,q⟩ | ⟨h1,h2,q⟩
 ·exact .inl ⟨h,okB s q⟩
 ·exact .inr ⟨dx,dy,(rx.same s).to2 (SeqAt.canLay_of_shaped h1),(ry.same s).to2 (SeqAt.canLay_of_shaped h2),h1,h2,okB s q⟩
theorem nT (hK:X.K=M.K):Ok2 M (Gr X.K) gNe:=by
 rw [hK];intro x y dx dy F H fp Q s rx ry p;rcases zY rx ry (aG.bind p) with ⟨h,q⟩ | ⟨h1,h2,q⟩
 ·exact .inl ⟨h,okB s q⟩
 ·exact .inr ⟨dx,dy,(rx.same s).to2 (SeqAt.canLay_of_shaped h1),(ry.same s).to2 (SeqAt.canLay_of_shaped h2),h1,h2,okB s q⟩
theorem vm {K:PySem.W.Frag} {F:Hp} {vs:List V} {ds:List PyData} {i:Int} {d:PyData} (h:RepAll K F vs ds) (e:atI ds i=some d):∃v,atI vs i=some v/\Rep K F v d:=by
 unfold atI at e ⊢;rw [RepAll.len h];cases q:ixN ds.length i with
 |none=>rw [q]at e;cases e
 |some j =>
  rw [q]at e;obtain ⟨v,h1,h2⟩:=RepAll.get h e;exact ⟨v,h1,h2⟩
theorem aB (hK:X.K=M.K):Ok2 M (rIx X.K) gIx:=by
 rw [hK];intro x y dx dy F H fp Q s rx ry p;unfold gIx at p;split at p
 ·cases ry
  unfold i4 at p;split at p
  ·rename_i d hd
   cases rx with
   |lst h1 h2 =>
    obtain ⟨v,e,r⟩:=vm h2 hd;exact .inl ⟨_,_,_,v,rfl,rfl,(h1.same s).sq,e,OkE.val s p r⟩
  ·exact p.elim
 ·cases ry
  unfold i4 at p;split at p
  ·rename_i d hd
   cases rx with
   |tup h1 h2 =>
    obtain ⟨v,e,r⟩:=vm h2 hd;exact .inr (.inl ⟨_,_,_,v,rfl,rfl,SqT.of (s _ _ h1),e,OkE.val s p r⟩)
  ·exact p.elim
 ·cases ry
  cases rx;split at p
  ·rename_i hl
   unfold i4 at p;split at p
   ·rename_i d hd
    obtain ⟨c,hc,rfl⟩:=Zp.mp hd;exact .inr (.inr ⟨_,_,c,rfl,rfl,jq hl,hc,OkE.val s p (.str _)⟩)
   ·exact p.elim
  ·exact p.elim
 ·exact p.elim
theorem i6 (hK:X.K=M.K):OkS M (Jq X.K) l7:=by
 rw [hK];intro x lo hi dx F H fp Q s rx p;unfold l7 at p;split at p
 ·cases rx with
  |@lst a vs ds h1 h2 =>
   refine ⟨a,vs,rfl,(h1.same s).sq,λq hq=>?_⟩
   refine OkE.lstD s p ?_ hq;unfold yT cutD;rw [RepAll.len h2];exact RepAll.take _ (RepAll.drop _ h2)
 ·exact p.elim
noncomputable def BQ (K:PySem.W.Frag):List V->Hp->VK->Prop:=λxs H Q=>(∃p ys,xs=[.ref p]/\(SqL K H p ys\/SqT K H p ys)/\Q (.int ys.length) H)\/(∃z,xs=[.str z]/\z.length<=sizeLine/\Q (.int z.length) H)
theorem az:fg X (.builtin "len") (BQ X.K):=qH.or rb
theorem aT (hK:X.K=M.K):OkC M (BQ X.K) bP:=by
 rw [hK];intro x dx F H fp Q s rx p;unfold bP at p;split at p
 ·cases rx with
  |cons h r =>
   cases r;cases h with
   |lst h1 h2=>exact .inl ⟨_,_,rfl,.inl (h1.same s).sq,by rw [RepAll.len h2];exact okI s p⟩
 ·cases rx with
  |cons h r =>
   cases r;cases h with
   |tup h1 h2=>exact .inl ⟨_,_,rfl,.inr (SqT.of (s _ _ h1)),by rw [RepAll.len h2];exact okI s p⟩
 ·cases rx with
  |cons h r =>
   cases r;cases h;split at p
   ·rename_i hl
    exact .inr ⟨_,rfl,jq hl,okI s p⟩
   ·exact p.elim
 ·exact p.elim
theorem sA {K:PySem.W.Frag} {F:Hp} {x:List V} {i j:Int} (r:RepAll K F x [.int i,.int j]):x=[.int i,.int j]:=by
 cases r with
 |cons h r =>
  cases h;cases r with
  |cons h r =>
   cases h;cases r;rfl
theorem rA:OkC M (λxs H Q=>∃i j,xs=[.int i,.int j]/\Q (.int (if j<i then j else i)) H) p8:=by
 intro x dx F H fp Q s rx p;unfold p8 at p;split at p
 ·exact ⟨_,_,sA rx,okI s p⟩
 ·exact p.elim
theorem wc:OkC M (λxs H Q=>∃i j,xs=[.int i,.int j]/\Q (.int (if j > i then j else i)) H) p9:=by
 intro x dx F H fp Q s rx p;unfold p9 at p;split at p
 ·exact ⟨_,_,sA rx,okI s p⟩
 ·exact p.elim
theorem mR:∀(ns:List Int) (m:Int),mT m ns∈m :: ns/\∀z∈m :: ns,z<=mT m ns
 |[],m=>⟨Zf,λz h=>by simp at h;rw [h];exact Int.le_refl _⟩
 |n :: ns,m=>by
  obtain ⟨h1,h2⟩:=mR ns (if m<n then n else m)
  rw [mT];have hm:m<=(if m<n then n else m):=by split <;> lia
  have hn:n<=(if m<n then n else m):=by split <;> lia
  have ht:=h2 _ Zf;refine ⟨?_,λz hz=>?_⟩
  ·rcases Zo.mp h1 with h | h
   ·rw [h]
    split <;> simp
   ·simp [h]
  ·rcases Zo.mp hz with rfl | hz
   ·lia
   ·rcases Zo.mp hz with rfl | hz
    ·lia
    ·exact h2 z (Ze _ hz)
theorem mB:∀(ns:List Int) (m:Int),qI m ns∈m :: ns/\∀z∈m :: ns,qI m ns<=z
 |[],m=>⟨Zf,λz h=>by simp at h;rw [h];exact Int.le_refl _⟩
 |n :: ns,m=>by
  obtain ⟨h1,h2⟩:=mB ns (if n<m then n else m)
  rw [qI];have hm:(if n<m then n else m)<=m:=by split <;> lia
  have hn:(if n<m then n else m)<=n:=by split <;> lia
  have ht:=h2 _ Zf;refine ⟨?_,λz hz=>?_⟩
  ·rcases Zo.mp h1 with h | h
   ·rw [h]
    split <;> simp
   ·simp [h]
  ·rcases Zo.mp hz with rfl | hz
   ·lia
   ·rcases Zo.mp hz with rfl | hz
    ·lia
    ·exact h2 z (Ze _ hz)
theorem nM {K:PySem.W.Frag} {F:Hp} {x:List V} {ds:List PyData} {ns:List Int} (s:bb F H') (r:RepAll K F x [.list ds]) (e:dJ ds=some ns):∃a,x=[.ref a]/\SqL K H' a (ns.map V.int):=by
 cases r with
 |cons h r =>
  cases r;cases h with
  |lst h1 h2 =>
   rw [jV e]at h2;rw [RepAll.toInts h2]at h1;exact ⟨_,rfl,(h1.same s).sq⟩
theorem BD (hK:X.K=M.K):OkC M (Cy X.K) n6:=by
 rw [hK];intro x dx F H fp Q s rx p;unfold n6 at p;split at p
 ·split at p
  ·rename_i n ns e
   obtain ⟨a,rfl,h⟩:=nM s rx e;refine ⟨a,n :: ns,rfl,h,by simp,λm h1 h2=>?_⟩
   obtain ⟨k1,k2⟩:=mR ns n;have e:mT n ns=m:=Int.le_antisymm (h2 _ k1) (k2 _ h1);rw [<-e];exact okI s p
  ·exact p.elim
 ·exact p.elim
theorem vM (hK:X.K=M.K):OkC M (Ck X.K) l4:=by
 rw [hK];intro x dx F H fp Q s rx p;unfold l4 at p;split at p
 ·split at p
  ·rename_i n ns e
   obtain ⟨a,rfl,h⟩:=nM s rx e;refine ⟨a,n :: ns,rfl,h,by simp,λm h1 h2=>?_⟩
   obtain ⟨k1,k2⟩:=mB ns n;have e:qI n ns=m:=Int.le_antisymm (k2 _ h1) (h2 _ k1);rw [<-e];exact okI s p
  ·exact p.elim
 ·exact p.elim
theorem ie (hK:X.K=M.K):OkC M (Cp X.K) jJ:=by
 rw [hK];intro x dx F H fp Q s rx p;unfold jJ at p;split at p
 ·split at p
  ·rename_i ns e
   obtain ⟨a,rfl,h⟩:=nM s rx e;exact ⟨a,ns,rfl,h,okI s p⟩
  ·exact p.elim
 ·exact p.elim
theorem lB (hK:X.K=M.K):OkC M (IT X.K) ij:=by
 rw [hK];intro x dx F H fp Q s rx p;unfold ij at p;split at p
 ·cases rx with
  |cons h r =>
   cases r;cases h with
   |lst h1 h2=>exact ⟨_,_,rfl,.inl (h1.same s).sq,λl hl=>OkE.lstD s p h2 hl⟩
 ·cases rx with
  |cons h r =>
   cases r;cases h with
   |tup h1 h2=>exact ⟨_,_,rfl,.inr (SqT.of (s _ _ h1)),λl hl=>OkE.lstD s p h2 hl⟩
 ·exact p.elim
noncomputable def Af (T:String) (a:Fe):Fe:=fun ρ=>(a ρ).bind λx=>jR T x.er
noncomputable def Ce (K:PySem.W.Frag) (T:String):List V->Hp->VK->Prop:=λxs H Q=>∃x d b,xs=[x,.ty T]/\Rep K H x d/\Bm T d=some b/\Q (.bl b) H
theorem EO {K:PySem.W.Frag} {T U:String} (hU:U = "int" \/ U = "bool" \/ U = "str" \/ U = "list" \/ U = "tuple" \/ U = "NoneType") (hT:T = "int" \/ T = "bool" \/ T = "str" \/ T = "list" \/ T = "tuple"):PySem.W.kitOne K (.type U) (.type T)=some (decide (T=U\/(U = "bool" /\ T = "int"))):=by
 rcases hU with rfl | rfl | rfl | rfl | rfl | rfl <;> rcases hT with rfl | rfl | rfl | rfl | rfl <;> rfl
theorem wZ {K:PySem.W.Frag} {T U:String} {d:PyData} {b:Bool} (hk:Cm d=some U) (hU:U = "int" \/ U = "bool" \/ U = "str" \/ U = "list" \/ U = "tuple" \/ U = "NoneType") (e:Bm T d=some b):PySem.W.kitOne K (.type U) (.type T)=some b:=by
 unfold Bm at e;rw [hk]at e;have e':(if T = "int" \/ T = "bool" \/ T = "str" \/ T = "list" \/ T = "tuple" then some (decide (T=U\/(U = "bool" /\ T = "int"))) else none)=some b:=e
 by_cases hT:T = "int" \/ T = "bool" \/ T = "str" \/ T = "list" \/ T = "tuple"
 ·rw [if_pos hT]at e'
  rw [<-e'];exact EO hU hT
 ·rw [if_neg hT]at e'
  cases e'
end
section
variable {M:Mx} {X:Cx} {e a b c:Expr} {es:List Expr} {pos:Pos} {fa fb:Fe} {ta tb:Ft} {al:Fa}
theorem xm (T:String):fg X (.builtin "isinstance") (Ce X.K T):=by
 intro pins s σ H xs us Q I r h;obtain ⟨x,d,b,rfl,rd,e,q⟩:=h;obtain ⟨u,v,rfl,ru,rv⟩:=Vals.two r;cases rv;have fin:∀tk,EP X pins σ Q (.bool b) { s with toks:=tk }:=λtk=>⟨.bl b,H,I.tok tk,rfl,q⟩
 cases rd with
 |non =>
  cases (show u=Value.none from ru)
  exact PySem.W.kia_one PySem.W.kitx_none I.kIn True.intro (wZ rfl (by simp) e) (λz=>nomatch z) fin
 |bl y =>
  cases (show u=Value.bool y from ru)
  exact PySem.W.kia_one PySem.W.kitx_bool I.kIn True.intro (wZ rfl (by simp) e) (λz=>nomatch z) fin
 |int i =>
  obtain ⟨t,hq⟩:=(show ∃t,u=Value.int i t from ru)
  cases hq;exact PySem.W.kia_one PySem.W.kitx_int I.kIn True.intro (wZ rfl (by simp) e) (λz=>nomatch z) fin
 |str y =>
  obtain ⟨t,hq⟩:=(show ∃t,u=Value.str y t from ru)
  cases hq;exact PySem.W.kia_one PySem.W.kitx_str I.kIn True.intro (wZ rfl (by simp) e) (λz=>nomatch z) fin
 |@lst a xs ds h1 h2 =>
  cases (show u=Value.ref a from ru)
  obtain ⟨_,its,n,_,_,he⟩:=h1.obj I;exact PySem.W.kia_one PySem.W.kitx_list I.kIn ⟨_,he,rfl⟩ (wZ (d:=.list ds) rfl (by simp) e) (λz=>nomatch z) fin
 |@tup a xs ds h1 h2 =>
  cases (show u=Value.ref a from ru)
  obtain ⟨_,_,_,p⟩:=(show eY X.prog X.w H s.heap a (.tup xs) from I.hok a _ h1)
  obtain ⟨o,k1,k2,_⟩:=p;exact PySem.W.kia_one PySem.W.kitx_tuple I.kIn ⟨o,k1,k2⟩ (wZ (d:=.tuple ds) rfl (by simp) e) (λz=>nomatch z) fin
 |dct _ _ _ =>
  have e':(none:Option Bool)=some b:=e;cases e'
theorem Ju {n:Nat} {σ:St} {H:Hp} {Q:VK} {T:String} (h:tD M n (Af T fa) σ H Q):tCB (Ce M.K T) (mX (tD M n fa) (mX (tC (.ty T)) vh)) σ H Q:=by
 obtain ⟨F,ρ,fp,S,p⟩:=h;refine ⟨F,ρ,fp,S,(aG.bind p).mono λx px v F1 H1 fx e1 r1 w1=>?_⟩
 obtain ⟨G1,d1,k1⟩:=r1.frz e1 w1;unfold jR at px;split at px
 ·rename_i b hb
  exact ⟨v,x.er,b,rfl,k1.same d1.fh,hb,OkE.val d1.fh (OkE.pre d1 px) (.bl b)⟩
 ·exact px.elim
theorem CW {T:String} {x:Str} {p p2:Pos} (hg:Gl X "isinstance") (hm:X.mg "isinstance" = none) (hgT:Gl X x) (hmT:X.mg x=none) (hT:bootBuiltins x=some (.type T)) (h:DE M X e fa) (hnT:x ≠ "__name__" := by decide) (hdT:(x == ("__debug__" : Str))=false:=by decide)
  (hs1:starEach [e,.Name x p2] X.env=(false,eval e X.env) :: starEach [.Name x p2] X.env:=by rfl) (hs2:starEach [.Name x p2] X.env=(false,eval (.Name x p2) X.env) :: starEach [] X.env:=by rfl) (hpl:(backTo pos (starEach [.Name x p2] X.env)).any (·.1)=false:=by rfl) :
  DE M X (.Call (.Name "isinstance" p) [e,.Name x p2] [] pos) (Af T fa):=λhK hM=>by
 have q:=sv (p:=p) (pos:=pos) (xm T) hg hm mV (lS (h hK hM) (lS (AF (v:=V.ty T) (pos:=p2) hgT hmT hT rfl hnT hdT) rH hs2) hs1) (by decide) (by decide) hs1 hpl
 rw [hK]at q;exact peI q λ_ _ _ z=>Ju z
noncomputable def zl (a b:Fe):Fe:=fun ρ=>(a ρ).bind λx=>match x.er with
 |.list ds=>(b ρ).bind λy=>qt ds y.er
 |_=>.bad
theorem xQ {ap cp:Pos} (ha:DE M X a fa) (h:DE M X e fb)
  (hbase:attributeBase a "index" X.env (eval a X.env)=eval a X.env:=by rfl)
  (hfew:((backTo cp (starEach [e] X.env)).all (λx=>!x.1) && (backToKw cp (keywordEach [] X.env)).all (λx=>x.1.isSome) && decide (([e]:List Expr).length+([]:List Keyword).length+(if ([]:List Keyword).isEmpty then 0 else 1)<30))=true:=by rfl)
  (hline:(ap.endLine == cp.line)=true:=by rfl) (hs:starEach [e] X.env=(false,eval e X.env) :: starEach [] X.env:=by rfl) (hplain:(backTo cp (starEach [] X.env)).any (·.1)=false:=by rfl) :
  DE M X (.Call (.Attribute a "index" ap) [e] [] cp) (zl fa fb):=λhK hM=>by
 have q:=Cu (apos:=ap) (cpos:=cp) PySem.F.plainAttrs_list PySem.F.slot_list_index PySem.F.type_list_index yL (ha hK hM) (lS (h hK hM) rH hs) hbase hfew hline hs hplain;refine peI q fun σ H Q h=>?_
 obtain ⟨F,ρ,fp,S,p⟩:=h;refine ⟨F,ρ,fp,S,(aG.bind p).mono λx px v F1 H1 fx e1 r1 w1=>?_⟩
 obtain ⟨G1,d1,k1⟩:=r1.frz e1 w1;generalize x.er=d at px k1
 cases k1 with
 |@lst a' vs ds h1 h2 =>
  have px':aG M H fp (OkE M F H Q) ((fb ρ).bind λy=>qt ds y.er):=px
  refine ⟨.inl ⟨rfl,vs,by rw [hK];exact (h1.same d1.fh).sq⟩,G1,ρ,fp,S.ext d1,((aG.bind px').ext d1).mono λy py w F2 H2 fy e2 r2 w2=>?_⟩
  obtain ⟨G2,d2,k2⟩:=r2.frz e2 w2;unfold qt at py;generalize y.er=d' at py k2
  cases k2 with
  |int z =>
   have py':aG M H fp (OkE M F H Q) (match dJ ds with | some ns=>if z∈ns then oI (ns.idxOf z:Nat) else .bad | none=>.bad):=py
   split at py'
   ·rename_i ns hn
    split at py'
    ·rename_i hz
     rw [jV hn]at h2;rw [RepAll.toInts h2]at h1;exact ⟨a',ns,z,rfl,rfl,by rw [hK];exact ((h1.same d2.ff).same d2.fh).sq,hz,OkE.val d2.fh (OkE.pre (d1.trans d2) py') (.int _)⟩
    ·exact py'.elim
   ·exact py'.elim
  |non=>exact py.elim
  |bl _=>exact py.elim
  |str _=>exact py.elim
  |dct _ _ _=>exact py.elim
  |lst _ _=>exact py.elim
  |tup _ _=>exact py.elim
 |non=>exact px.elim
 |bl _=>exact px.elim
 |int _=>exact px.elim
 |str _=>exact px.elim
 |dct _ _ _=>exact px.elim
 |tup _ _=>exact px.elim
end
theorem mM {K:PySem.W.Frag} {F H:Hp} (m:Nat):∀{vs:List V} {ds:List PyData},RepAll K F vs ds->OwnS K F H (vs.map some++List.replicate m none) ((ds.map λd=>some (OD.sh d))++List.replicate m none) []
 |_,_,.nil=>by
  show OwnS K F H (List.replicate m none) (List.replicate m none) []
  have:=OwnS.nones (K:=K) (F:=F) (H:=H) m .nil;rw [Zx,Zx]at this;exact this
 |_,_,.cons h r=>.yes (f:=[]) (.sh h) (mM m r)
theorem fn3 {P:Program} {w:World} {K:PySem.W.Frag} {mg:Str->Option Value} {base:Heap} {x qual:Str} {st:Stmt} {f:Addr} {fd:FuncData} {N ps:List Str} {k:Nat} {body:Fs} (F:Fun K x qual st f fd) (S:FnScope N ps (aj st))
  (h:∀(cdv:Value) (A:Around) (outer:List PySem.Env) (s:Shared) (H:Hp) (E:XK),Room k (A.deeper (envOfC qual (aj st) s.heap.objs.size f cdv))->DSs ⟨K,mg,E⟩ (pq CX0 P w K mg base N qual (aj st) f cdv A outer s H E).nox (aI st) body) :
  FnOk P w K mg base CX0 (k+1) f fd ps (sp3 K mg (cq ps.length N.length body)):=by
 have hpl:ps.length<=N.length:=by
  have:=congrArg List.length S.pre;rw [ZE]at this
  lia
 have hlen:∀vs H Q E,sp3 K mg (cq ps.length N.length body) vs H Q E->vs.length=ps.length:=by
  rintro vs H Q E ⟨F,ds,sm,ra,p⟩;by_cases hl:ds.length=ps.length
  ·rw [RepAll.len ra]
   exact hl
  ·unfold cq at p
   rw [if_neg hl]at p;exact p.elim
 refine F.ok S hlen λcdv A outer s H vs Q E hr hs=>?_
 have hvl:=hlen _ _ _ _ hs;obtain ⟨F0,ds,sm,ra,p⟩:=hs;have hdl:ds.length=ps.length:=by rw [<-RepAll.len ra];exact hvl
 unfold cq at p;rw [if_pos hdl]at p;refine ⟨_,h cdv A outer s H E hr rfl rfl,F0,m_ N.length ds,[],⟨sm,?_,List.nodup_nil,(λ_ m=>by cases m),?_⟩,(aG.bind p).mono λo po=>?_⟩
 ·unfold L2.start m_
  rw [hvl,hdl];exact mM _ ra
 ·unfold m_
  show _=N.length
  rw [Zd,Zc,List.length_replicate,hdl]
  lia
 ·cases o with
  |nx ρ=>exact fun σ' F' H' fp' S' st=>po .non F' H' [] ⟨st.ff,λa o q=>st.keep a o q (by simp),S'.same,λa q z=>st.nw a q (by simp) z⟩ (Res.sh .non) λ_ m=>by cases m
  |rt y=>exact λv F' H' fx sm' r st=>po v F' H' fx ⟨st.ff,λa o q=>st.keep a o q (by simp),sm',λa q z=>st.nw a q (by simp) z⟩ r λa m=>(st.new a m).elim (λz=>by cases z) id
  |bk ρ=>exact po.elim
  |ct ρ=>exact po.elim
theorem wF {P:Program} {w:World} {K:PySem.W.Frag} {mg mb:Str->Option Value} {CX:CXT} {k:Nat} {fa a:Addr} {fd:FuncData} {x:Str} {sp:Sp} {s₁:Shared} {vs:List Value} {ns:List Int}
  (KX:K.In s₁.heap) (hns:s₁.heap.Ns mainGlobals mg) (hb:s₁.heap.Ns builtinsNs mb) (hbb:∀x:Str,x ≠ "__name__" -> mb x=bootBuiltins x) (hlim:s₁.heap.NoLimit) (hg:s₁.gens=#[])
  (ha:s₁.heap.get? a=some { cls:=.type "list",data:=.seq vs.toArray }) (hi:IntsAre vs ns) (hl:ns.length<=sizeLine) (hr:Room k callerA)
  (F:∀base:Heap,K.In base->base.Ns mainGlobals mg->FnOk P w K mg base CX k fa fd [x] sp) (hbind:∀(s:Shared) (u:Value),BindsTo s fd ⟨[u],[]⟩ [(x,u)])
  (hsp:∀H:Hp,w8 H->RdK K H a (ns.map V.int)->sp [.ref a] H (λv _=>v=.bl true) λ_ _ _=>False)
  (hCX:∀H e s',CX [] H s₁ (λ_ _ _=>False) e s'->False) :
  codeAny (model P w) callerA (.call (.ref fa) ⟨[.ref a],[]⟩) (λr s'=>r=.ok (.ret (.bool true))/\OldK s₁.heap s'.heap/\s'.os=s₁.os/\AllBare s'.gens) s₁:=by
 have rv:=jE hi;have lenV:=hi.length;have core:∀H:Hp,w8 H->RdK K H a (ns.map V.int)->HOk P w H s₁.heap->(∀b,H b≠none->b=a)->(H a≠none->K.lookup a=none) ->
   codeAny (model P w) callerA (.call (.ref fa) ⟨[.ref a],[]⟩) (λr s'=>r=.ok (.ret (.bool true))/\OldK s₁.heap s'.heap/\s'.os=s₁.os/\AllBare s'.gens) s₁:=by
  intro H hO hS hok hA hK;have base_of:∀{b:Addr} {o:Obj},s₁.heap.get? b=some o->H b=none->(me s₁.heap H).get? b=some o:=λe n=>rX e n
  have noA:∀{b:Addr} {o:Obj} {es:Array DictEntry} {ep:Nat},s₁.heap.get? b=some o->o.data=.dict es ep->H b=none:=fun {b o es ep} e d=>by
   cases q:H b with
   |none=>rfl
   |some u =>
    have e':b=a:=hA b (by rw [q];simp)
    subst e';rw [ha]at e;cases e;have d':Data.seq vs.toArray _=Data.dict es ep:=d;cases d'
  have nsK:∀{b:Addr} {m:Str->Option Value},s₁.heap.Ns b m->(me s₁.heap H).Ns b m:=fun {b m} ⟨o,es,ep,e,d,r⟩=>⟨o,es,ep,base_of e (noA e d),d,r⟩
  have hKb:K.In (me s₁.heap H):=λb o e=>base_of (KX b o e) (by
   cases q:H b with
   |none=>rfl
   |some u =>
    have e':b=a:=hA b (by rw [q];simp)
    subst e';rw [hK (by rw [q];simp)]at e;cases e)
  have hM:Mod K mg (me s₁.heap H):=⟨hKb,nsK hns,⟨mb,nsK hb,hbb⟩,let ⟨mc,h1,h2⟩:=hlim;⟨mc,nsK h1,h2⟩⟩;have e0:Env0 P w K mg (me s₁.heap H) callerA [] s₁ H:=⟨rfl,hM,λb o e=>vD e,Nat.le_of_eq (qa _ _),trivial,λb hb=>absurd (show b∈([]:List Addr) from hb) (by simp),hok,.of_eq hg⟩
  refine codeAny_mono ((F _ hKb (nsK hns)).run callerA [] s₁ H ⟨[.ref a],[]⟩ [.ref a] [.ref a] _ _ hr e0 (hbind s₁ (.ref a)) (.cons rfl .nil) (hsp H hO hS)) λr s' h=>?_
  cases r with
  |error e=>exact (hCX H e s' h).elim
  |ok fl =>
   cases fl with
   |next=>exact False.elim h
   |brk=>exact False.elim h
   |cont=>exact False.elim h
   |ret u =>
    obtain ⟨v,H',os,bare,un,hok',r',q⟩:=h;have q':v=.bl true:=q;subst q';obtain rfl:u=Value.bool true:=r';refine ⟨rfl,OldK.of_keep λb o e=>?_,os,bare⟩
    cases q:H b with
    |none=>exact un.keep b o e q (by intro z;exact absurd (show b∈([]:List Addr) from z) (by simp)) (by simp)
    |some u =>
     rcases hO b with z | ⟨ob,xs,z⟩
     ·rw [q]at z;cases z
     ·have z2:=un.frzs b ob _ z
      obtain ⟨e1,_⟩:=hok b _ z;obtain ⟨e2,_⟩:=hok' b _ z2;rw [e]at e1;cases e1;exact e2
 cases hk:K.lookup a with
 |some o =>
  have e:=KX a o hk;rw [ha]at e;cases e;refine core (λ_=>none) (λ_=>.inl rfl) (.inr ⟨vs.toArray,_,hk,by rw [ZA,lenV];exact hl,by simpa using rv⟩) (λb u z=>by have z':(none:Option HO)=some u:=z;cases z') (λb z=>absurd rfl z) λz=>absurd rfl z
 |none =>
  refine core (λb=>if b=a then some (.frz { cls:=.type "list",data:=.seq vs.toArray } (.lst (ns.map V.int))) else none) (λb=>?_) (.inl (.inr ⟨{ cls:=.type "list",data:=.seq vs.toArray },if_pos rfl⟩)) (λb u z=>?_) (λb z=>?_) λ_=>hk
  ·by_cases hb:b=a
   ·exact .inr ⟨_,_,if_pos hb⟩
   ·exact .inl (if_neg hb)
  ·by_cases hb:b=a
   ·have z':=(if_pos hb).symm.trans z
    cases z';subst hb;exact ⟨ha,by rw [Zc];exact hl,vs,_,rv,ha⟩
   ·have z':=(if_neg hb).symm.trans z
    cases z'
  ·by_cases hb:b=a
   ·exact hb
   ·exact absurd (if_neg hb) z
theorem yu {l:PySem.W.OpenLaw} {n k:Nat} {q:Program} {loose:List Str} {XP:(Str->Option Value)->Heap->Prop} {YP:World->Heap->Prop} {d:DefRec} {K:Params->PySem.W.Frag} {CX:World->CXT} {sp:World->Sp} {x:Str}
  (hn:l.most=some n) (hn2:n<=sizeLine) (hdf:d.params.defaults=[]) (hr:Room k callerA)
  (hY:∀(w:World) (h:Heap),YP w h->(K w.params).In h)
  (F:∀(w:World) (mg:Str->Option Value) (fa:Addr) (h:Heap),(K w.params).In h->h.Ns mainGlobals mg->mg d.name=some (.ref fa) ->
   ∃fd:FuncData,(∀(s:Shared) (u:Value),BindsTo s fd ⟨[u],[]⟩ [(x,u)]) /\
    ∀base:Heap,(K w.params).In base->base.Ns mainGlobals mg->FnOk l.prog w (K w.params) mg base (CX w) k fa fd [x] (sp w))
  (hsp:∀(w:World) (H:Hp) (a:Addr) (ns:List Int),ns.length<=n->w8 H->RdK (K w.params) H a (ns.map V.int)->sp w [.ref a] H (λv _=>v=.bl true) λ_ _ _=>False)
  (hCX:∀(w:World) (H:Hp) (s:Shared) (e:Value) (s':Shared),CX w [] H s (λ_ _ _=>False) e s'->False) :
  PySem.W.WalkO q loose XP YP l.row.toRowW d [] (λf vs=>PySem.call f vs):=by
 refine Att.m8 hn hdf λw s₀ s₁ mg mb fa o pm cd doc a vs ns G Y ho hd hcd hmg hobj hints hlen hg=>?_
 have KX:=hY w _ Y;obtain ⟨fd,hb,hF⟩:=F w mg fa _ KX G.T.g hmg;exact wF KX G.T.g G.T.b G.T.builtins G.T.nolimit hg hobj hints (ZG hlen hn2) hr hF hb (λH hO hS=>hsp w H a ns hlen hO hS) λH e s'=>hCX w H s₁ e s'
theorem IK {l:PySem.W.OpenLaw} {q:Program} {loose:List Str} {XP:(Str->Option Value)->Heap->Prop} {YP:World->Heap->Prop} {d:DefRec} {K:Params->PySem.W.Frag} {x:Str} {k:Nat} {fn:Fn} (hn:l.most=some 63) (hdf:d.params.defaults=[]) (hr:Room k callerA)
  (hY:∀(w:World) (h:Heap),YP w h->(K w.params).In h) (hl:∀ns:List Int,ns.length<=63->fn [.list (ns.map PyData.int)]=.ok (.sh (.bool true)))
  (F:∀(w:World) (mg:Str->Option Value) (fa:Addr) (h:Heap),(K w.params).In h->h.Ns mainGlobals mg->mg d.name=some (.ref fa) ->
   ∃fd:FuncData,(∀(s:Shared) (u:Value),BindsTo s fd ⟨[u],[]⟩ [(x,u)])/\∀base:Heap,(K w.params).In base->base.Ns mainGlobals mg->FnOk l.prog w (K w.params) mg base CX0 k fa fd [x] (sp3 (K w.params) mg fn)) :
  PySem.W.WalkO q loose XP YP l.row.toRowW d [] (λf vs=>PySem.call f vs):=by
 refine yu (n:=63) (k:=k) (x:=x) (CX:=λ_=>CX0) (sp:=λw vs H Q E=>∃F ds x,bb F H/\RepAll (K w.params) F vs ds/\fn ds=.ok x/\OkE ⟨K w.params,λ_=>none,E⟩ F H Q x) hn (by decide) hdf hr hY (λw mg fa h a b c=>?_) (λw H a ns hlen _ hS=>?_) λ_ _ _ _ _ z=>z
 ·obtain ⟨fd,h1,h2⟩:=F w mg fa h a b c
  refine ⟨fd,h1,λbase kb nb=>(h2 base kb nb).imp ?_⟩
  rintro vs H Q E ⟨F0,ds,y,sm,ra,e,p⟩;refine ⟨F0,ds,sm,ra,?_⟩;rw [e];exact λv F' H' fx=>p v F' H' fx
 ·refine ⟨H,[.list (ns.map PyData.int)],_,bb.refl _,.cons (.lst hS (RepAll.ofInts ns)) .nil,hl ns hlen,?_⟩
  intro v F' H' fx e r w;cases r.own with
  |sh q =>
   cases q;rfl
end L3
namespace L3
open PySem L2 PySem.Spec PyProof.Rows
theorem dX {P:Program} {w:World} {K:PySem.W.Frag} {mg:Str->Option Value} {base:Heap} {x qual:Str} {st:Stmt} {f:Addr} {fd:FuncData} {N ps:List Str} {k np n:Nat} {body:Fs} {fn:Fn} (hf:fn=cq np n body) (hp:ps.length=np) (hn:N.length=n) (F:Fun K x qual st f fd) (S:FnScope N ps (aj st))
  (h:∀(cdv:Value) (A:Around) (outer:List PySem.Env) (s:Shared) (H:Hp) (E:XK),Room k (A.deeper (envOfC qual (aj st) s.heap.objs.size f cdv))->DSs ⟨K,mg,E⟩ (pq CX0 P w K mg base N qual (aj st) f cdv A outer s H E).nox (aI st) body) :
  FnOk P w K mg base CX0 (k+1) f fd ps (sp3 K mg fn):=by
 subst hf hp hn;exact fn3 F S h
theorem aU {X:Cx} {E:XK}:Passes CX0 X E:=λ_ _ _ _ _ _ _ h=>h.elim
noncomputable def vx:PyData->PyData->R OD
 |.int i,.int j=>oI (i+j)
 |_,_=>.bad
section
variable {M:Mx} {X:Cx}
theorem yc:Ok2 M (ipI λi j=>i+j) vx:=by
 intro x y dx dy F H fp Q s rx ry p;unfold vx at p;split at p
 ·cases rx;cases ry
  exact ⟨_,_,rfl,rfl,okI s p⟩
 ·exact p.elim
end
end L3
namespace L3
open PySem L2
theorem FH (i:Int):jR "int" (.int i)=oB true:=rfl
theorem F9 (i:Int):jR "bool" (.int i)=oB false:=rfl
theorem Gf (i:Int):jR "str" (.int i)=oB false:=rfl
theorem Ez (i:Int):jR "list" (.int i)=oB false:=rfl
theorem Ff (i:Int):jR "tuple" (.int i)=oB false:=rfl
theorem DM (i:Bool):jR "int" (.bool i)=oB true:=rfl
theorem FA (i:Bool):jR "bool" (.bool i)=oB true:=rfl
theorem EH (i:Str):jR "int" (.str i)=oB false:=rfl
theorem EA (i:Str):jR "bool" (.str i)=oB false:=rfl
theorem Dg (i:Str):jR "str" (.str i)=oB true:=rfl
theorem Ex (i:List PyData):jR "list" (.list i)=oB true:=rfl
theorem DQ (i:List PyData):jR "tuple" (.list i)=oB false:=rfl
theorem E_ (i:List PyData):jR "int" (.list i)=oB false:=rfl
theorem CU (i:List PyData):jR "tuple" (.tuple i)=oB true:=rfl
theorem FG (i:List PyData):jR "list" (.tuple i)=oB false:=rfl
theorem Ef (i:List PyData):jR "int" (.tuple i)=oB false:=rfl
theorem JX:(0<=BIG)=True:=by decide
theorem Kj:(1<=BIG)=True:=by decide
theorem KW:(2<=BIG)=True:=by decide
theorem JT:(3<=BIG)=True:=by decide
theorem Ko:(4<=BIG)=True:=by decide
theorem K0:(0<BIG)=True:=by decide
theorem sC {g:Fg} {b:Fs} (I:Nat->Env->Prop):∀(ds:List PyData) (k:Nat) (ρ:Env),I k ρ->(∀(i:Nat) (d:PyData) (ρ:Env),ds[i]?=some d->I (k+i) ρ->∃ρ1 ρ2,g (.sh d) ρ=.ok ρ1/\(b ρ1=.ok (.nx ρ2)\/b ρ1=.ok (.ct ρ2))/\I (k+i+1) ρ2) ->
  ∃ρ',bJ g b ds ρ=.ok (.nx ρ')/\I (k+ds.length) ρ'
 |[],k,ρ,h,_=>⟨ρ,rfl,h⟩
 |d :: ds,k,ρ,h,st=>by
  obtain ⟨ρ1,ρ2,h1,h2,h3⟩:=st 0 d ρ rfl h;obtain ⟨ρ',e,h4⟩:=sC I ds (k+1) ρ2 h3 λi d' ρ hd hi=>by
   have:=st (i+1) d' ρ (by simpa using hd) (by rw [show k+(i+1)=k+1+i by lia];exact hi)
   rw [show k+(i+1)+1=k+1+i+1 by lia]at this
   exact this
  refine ⟨ρ',?_,by rw [Zr,show k+(ds.length+1)=k+1+ds.length by lia];exact h4⟩
  rw [bJ,h1,c8];rcases h2 with h2 | h2
  ·rw [h2,c8]
   exact e
  ·rw [h2,c8]
   exact e
theorem xc {g:Fg} {b:Fs} {ds:List PyData} {ρ:Env} (S:Nat->Env->Prop) (h0:S 0 ρ) (st:∀(i:Nat) (d:PyData) (ρ:Env),ds[i]?=some d->S i ρ->∃ρ1 ρ2,g (.sh d) ρ=.ok ρ1/\(b ρ1=.ok (.nx ρ2)\/b ρ1=.ok (.ct ρ2))/\S (i+1) ρ2) :
  ∃ρ',bJ g b ds ρ=.ok (.nx ρ')/\S ds.length ρ':=by
 obtain ⟨ρ',e,h⟩:=sC S ds 0 ρ h0 λi d ρ hd hi=>by
  rw [Nat.zero_add]at hi ⊢;exact st i d ρ hd hi
 exact ⟨ρ',e,by rw [Nat.zero_add]at h;exact h⟩
theorem fZ {lo:Int} {n i:Nat} {d:PyData} (h:(kf lo n)[i]?=some d):i<n/\d=.int (lo+i):=by
 unfold kf at h;rw [Za]at h;obtain ⟨j,hj,rfl⟩:=Zp.mp h;obtain ⟨h1,h2⟩:=Zb.mp hj;have h3:i=j:=by simpa using h2
 subst h3;exact ⟨by simpa using h1,rfl⟩
theorem fR (lo:Int) (n:Nat):(kf lo n).length=n:=by unfold kf;simp
theorem wR {t:Ft} {b:Fs} {ρ:Env} {n:Nat} {o:Out} (h:eU t b n ρ=.ok o):fj t b ρ=.ok o:=by
 have mono:∀(n:Nat) (ρ:Env),eU t b n ρ≠.bad->∀m,n<=m->eU t b m ρ=eU t b n ρ:=by
  intro n
  induction n with
  |zero=>intro ρ hn;exact absurd rfl hn
  |succ n ih =>
   intro ρ hn m hm;obtain ⟨m,rfl⟩:∃k,m=k+1:=⟨m-1,by lia⟩
   rw [eU]at hn ⊢;rw [eU];cases ht:t ρ with
   |bad=>rfl
   |ex c=>rfl
   |ok c =>
    rw [ht,c8]at hn;rw [c8,c8];cases c with
    |false=>rfl
    |true =>
     rw [if_pos rfl]at hn ⊢;rw [if_pos rfl];cases hb:b ρ with
     |bad=>rfl
     |ex c=>rfl
     |ok o =>
      rw [hb,c8]at hn;rw [c8,c8];cases o with
      |nx ρ2=>exact ih ρ2 hn m (by lia)
      |ct ρ2=>exact ih ρ2 hn m (by lia)
      |bk ρ2=>rfl
      |rt x=>rfl
 unfold fj;have hx:∃n,eU t b n ρ≠.bad:=⟨n,by rw [h];exact λz=>by cases z⟩
 rw [dif_pos hx];have e1:=mono n ρ (by rw [h];exact λz=>by cases z) (n+hx.choose) (by lia)
 have e2:=mono hx.choose ρ hx.choose_spec (n+hx.choose) (by lia)
 rw [<-e2,e1,h]
theorem xn {t:Ft} {b:Fs} (I:Nat->Env->Prop) (Q:Env->Prop) (st:∀m ρ,I m ρ->(t ρ=.ok false/\Q ρ)\/(t ρ=.ok true/\∃ρ2 m',(b ρ=.ok (.nx ρ2)\/b ρ=.ok (.ct ρ2))/\m'<m/\I m' ρ2)):∀(m:Nat) (ρ:Env),I m ρ->∃ρ',fj t b ρ=.ok (.nx ρ')/\Q ρ':=by
 have go:∀(m:Nat) (ρ:Env),I m ρ->∃n ρ',eU t b n ρ=.ok (.nx ρ')/\Q ρ':=by
  intro m
  induction m using Nat.strongRecOn with
  |ind m ih =>
   intro ρ h;rcases st m ρ h with ⟨h1,h2⟩ | ⟨h1,ρ2,m',h2,h3,h4⟩
   ·exact ⟨1,ρ,by rw [eU,h1];rfl,h2⟩
   ·obtain ⟨n,ρ',e,q⟩:=ih m' h3 ρ2 h4
    refine ⟨n+1,ρ',?_,q⟩;rw [eU,h1,c8,if_pos rfl];rcases h2 with h2 | h2
    ·rw [h2,c8]
     exact e
    ·rw [h2,c8]
     exact e
 intro m ρ h;obtain ⟨n,ρ',e,q⟩:=go m ρ h;exact ⟨ρ',wR e,q⟩
noncomputable def ER:Option (Option OD)->R OD
 |some (some (.sh d))=>.ok (.sh d)
 |_=>.bad
noncomputable def opK (g:PyData->PyData->R OD):R OD->R OD->R OD
 |.ok x,.ok y=>g x.er y.er
 |.ok _,.ex c=>.ex c
 |.ok _,.bad=>.bad
 |.ex c,_=>.ex c
 |.bad,_=>.bad
noncomputable def unK {α β:Type} (g:α->R β):R α->R β
 |.ok x=>g x
 |.ex c=>.ex c
 |.bad=>.bad
noncomputable def Dy (r:R Bool) (b:Ft) (ρ:Env):R Bool:=match r with
 |.ok true=>b ρ
 |.ok false=>.ok false
 |.ex c=>.ex c
 |.bad=>.bad
noncomputable def orK (r:R Bool) (b:Ft) (ρ:Env):R Bool:=match r with
 |.ok true=>.ok true
 |.ok false=>b ρ
 |.ex c=>.ex c
 |.bad=>.bad
noncomputable def Be (r:R Bool) (b:Fe) (ρ:Env):R OD:=match r with
 |.ok true=>b ρ
 |.ok false=>.ok (.sh (.bool false))
 |.ex c=>.ex c
 |.bad=>.bad
noncomputable def orV (r:R Bool) (b:Fe) (ρ:Env):R OD:=match r with
 |.ok true=>.ok (.sh (.bool true))
 |.ok false=>b ρ
 |.ex c=>.ex c
 |.bad=>.bad
noncomputable def ifV (r:R Bool) (a b:Fe) (ρ:Env):R OD:=match r with
 |.ok true=>a ρ
 |.ok false=>b ρ
 |.ex c=>.ex c
 |.bad=>.bad
noncomputable def ifK (r:R Bool) (a b:Fs) (ρ:Env):R Out:=match r with
 |.ok true=>a ρ
 |.ok false=>b ρ
 |.ex c=>.ex c
 |.bad=>.bad
noncomputable def Ca:R OD->R (List OD)->R (List OD)
 |.ok x,.ok xs=>.ok (x :: xs)
 |.ok _,.ex c=>.ex c
 |.ok _,.bad=>.bad
 |.ex c,_=>.ex c
 |.bad,_=>.bad
noncomputable def xC (r:R Out) (b:Fs):R Out:=match r with
 |.ok (.nx ρ)=>b ρ
 |.ok o=>.ok o
 |.ex c=>.ex c
 |.bad=>.bad
noncomputable def IA (r:R OD) (g:Fg) (ρ:Env):R Out:=match r with
 |.ok x=>unK (fun ρ'=>.ok (.nx ρ')) (g x ρ)
 |.ex c=>.ex c
 |.bad=>.bad
noncomputable def HI (r:R (List PyData)) (g:Fg) (b:Fs) (ρ:Env):R Out:=match r with
 |.ok ds=>bJ g b ds ρ
 |.ex c=>.ex c
 |.bad=>.bad
noncomputable def BX (r:R (List PyData)) (g:Fg) (t:Ft) (el:Fe) (ρ0:Env):R OD:=match r with
 |.ok ds=>unK (λxs=>.ok (.ol xs)) (ba g t el ρ0 ds [])
 |.ex c=>.ex c
 |.bad=>.bad
noncomputable def slK (g:PyData->Option Int->Option Int->R OD) (a:R OD) (l h:R (Option Int)):R OD:=match a,l,h with
 |.ok x,.ok i,.ok j=>g x.er i j
 |.ok _,.ok _,.ex c=>.ex c
 |.ok _,.ok _,.bad=>.bad
 |.ok _,.ex c,_=>.ex c
 |.ok _,.bad,_=>.bad
 |.ex c,_,_=>.ex c
 |.bad,_,_=>.bad
noncomputable def JQ (a:R OD) (b:Fe) (ρ:Env):R OD:=match a with
 |.ok x=>match x.er with
  |.list ds=>unK (λy=>qt ds y.er) (b ρ)
  |_=>.bad
 |.ex c=>.ex c
 |.bad=>.bad
noncomputable def CJ (o:Option (Option OD)) (a:R OD) (i:Nat) (ρ:Env):R Out:=match o with
 |some (some (.ol xs))=>unK (λy=>if xs.length<BIG then .ok (.nx (ρ.set i (some (.ol (xs++[y]))))) else .bad) a
 |_=>.bad
noncomputable def yA:Option (Option OD)->R Out
 |some (some x)=>.ok (.rt x)
 |_=>.bad
noncomputable def Dz (o:Option (Option OD)) (i:Nat) (ρ:Env):Env:=match o with
 |some (some x)=>ρ.set i (some (.sh x.er))
 |_=>ρ
noncomputable def El:R Out->R OD
 |.ok (.rt x)=>.ok x
 |.ok (.nx _)=>.ok (.sh .none)
 |.ok (.bk _)=>.bad
 |.ok (.ct _)=>.bad
 |.ex c=>.ex c
 |.bad=>.bad
noncomputable def Dx (o:Option (Option OD)) (g:PyData->PyData->R OD) (a:R OD) (i:Nat) (ρ:Env):R Out:=match o with
 |some (some (.sh d))=>unK (λy=>unK (λz=>.ok (.nx (ρ.set i (some z)))) (g d y.er)) a
 |_=>.bad
section
variable {ρ:Env} {a b:Fe} {s t:Ft} {p q:Fs}
theorem v_var (i:Nat):ae i ρ=ER ρ[i]?:=by
 unfold ae ER;rfl
theorem v_c (d:PyData):eC d ρ=.ok (.sh d):=rfl
theorem KP (g:PyData->PyData->R OD):eOp g a b ρ=opK g (a ρ) (b ρ):=by
 unfold eOp;cases a ρ <;> cases b ρ <;> rfl
theorem eh {α β:Type} (r:R α) (g:α->R β):r.bind g=unK g r:=by cases r <;> rfl
theorem Kp (g:PyData->R OD):eUn g a ρ=unK (λx=>g x.er) (a ρ):=eh _ _
theorem Fl:aY a ρ=unK (λx=>truth x.er) (a ρ):=eh _ _
theorem Gd:lp s t ρ=Dy (s ρ) t ρ:=by
 unfold lp;cases s ρ with
 |ok c=>cases c <;> rfl
 |ex c=>rfl
 |bad=>rfl
theorem GZ:qC s t ρ=orK (s ρ) t ρ:=by
 unfold qC;cases s ρ with
 |ok c=>cases c <;> rfl
 |ex c=>rfl
 |bad=>rfl
theorem DR:kI s ρ=unK (λc=>.ok (!c)) (s ρ):=eh _ _
noncomputable def tru (r:R OD):R Bool:=unK (λx=>truth x.er) r
theorem v_and:nc a b ρ=Be (tru (a ρ)) b ρ:=by
 unfold nc tru;cases a ρ with
 |ok x =>
  show (truth x.er).bind _=Be (truth x.er) b ρ
  cases truth x.er with
  |ok c=>cases c <;> rfl
  |ex c=>rfl
  |bad=>rfl
 |ex c=>rfl
 |bad=>rfl
theorem v_or:eOr a b ρ=orV (tru (a ρ)) b ρ:=by
 unfold eOr tru;cases a ρ with
 |ok x =>
  show (truth x.er).bind _=orV (truth x.er) b ρ
  cases truth x.er with
  |ok c=>cases c <;> rfl
  |ex c=>rfl
  |bad=>rfl
 |ex c=>rfl
 |bad=>rfl
theorem v_not:wu a ρ=unK (λc=>.ok (.sh (.bool (!c)))) (tru (a ρ)):=by
 unfold wu tru;cases a ρ with
 |ok x =>
  show (truth x.er).bind _=unK _ (truth x.er)
  exact eh _ _
 |ex c=>rfl
 |bad=>rfl
theorem KG:eIf s a b ρ=ifV (s ρ) a b ρ:=by
 unfold eIf;cases s ρ with
 |ok c=>cases c <;> rfl
 |ex c=>rfl
 |bad=>rfl
theorem zT:av ρ=.ok []:=rfl
theorem nF {r:Fa}:af a r ρ=Ca (a ρ) (r ρ):=by
 unfold af;cases a ρ <;> cases r ρ <;> rfl
theorem Hq {r:Fa}:g5 r ρ=unK (λxs=>if xs.length<=BIG then .ok (mkT xs) else .bad) (r ρ):=eh _ _
theorem IB {r:Fa}:ez r ρ=unK (λxs=>if xs.length<=BIG then .ok (.ol xs) else .bad) (r ρ):=eh _ _
theorem CS {f:Fn} {r:Fa}:aL f r ρ=unK (λxs=>f (xs.map OD.er)) (r ρ):=eh _ _
theorem v_b {f:List PyData->R OD} {r:Fa}:eB f r ρ=unK (λxs=>f (xs.map OD.er)) (r ρ):=eh _ _
theorem KU:eSh a ρ=unK (λx=>.ok (.sh x.er)) (a ρ):=eh _ _
theorem v_bor:j4 a ρ=unK (λx=>if flat x.er=true then .ok (.sh x.er) else .bad) (a (erase ρ)):=eh _ _
theorem Fv:ve s ρ=s (erase ρ):=rfl
noncomputable def HV:OD->R OD
 |.ol xs=>if xs.all (λy=>flat y.er)=true then .ok (.ol (xs.map λy=>.sh y.er)) else .bad
 |_=>.bad
theorem Dj:vY a ρ=unK HV (a (erase ρ)):=by
 unfold vY;cases a (erase ρ) with
 |ok x=>cases x <;> rfl
 |ex c=>rfl
 |bad=>rfl
theorem G7:erase []=[]:=rfl
theorem GD (x:OD):erase (some x :: ρ)=some (.sh x.er) :: erase ρ:=rfl
theorem HG:erase (none :: ρ)=none :: erase ρ:=rfl
theorem AK:ji ρ=.ok none:=rfl
noncomputable def zz:PyData->R (Option Int)
 |.int i=>.ok (some i)
 |_=>.bad
theorem BC:iA a ρ=unK (λx=>zz x.er) (a ρ):=by
 unfold iA;rw [eh];cases a ρ with
 |ok x =>
  show (match x.er with | .int i=>R.ok (some i) | _=>.bad)=zz x.er
  cases x.er <;> rfl
 |ex c=>rfl
 |bad=>rfl
theorem KD {g:PyData->Option Int->Option Int->R OD} {l h:Fo}:eSl g a l h ρ=slK g (a ρ) (l ρ) (h ρ):=by
 unfold eSl;cases a ρ <;> cases l ρ <;> cases h ρ <;> rfl
noncomputable def lstK:PyData->R (List PyData)
 |.list ds=>.ok ds
 |_=>.bad
noncomputable def tupK:PyData->R (List PyData)
 |.tuple ds=>.ok ds
 |_=>.bad
noncomputable def r1K:PyData->R (List PyData)
 |.int j=>if aK j=true then .ok (kf 0 j.toNat) else .bad
 |_=>.bad
noncomputable def enK:PyData->R (List PyData)
 |.list ds=>.ok (gT ds)
 |_=>.bad
theorem Er:e7 a ρ=unK (λx=>lstK x.er) (a ρ):=by
 unfold e7;rw [eh];cases a ρ with
 |ok x =>
  show (match x.er with | .list ds=>R.ok ds | _=>.bad)=lstK x.er
  cases x.er <;> rfl
 |ex c=>rfl
 |bad=>rfl
theorem um:iTp a ρ=unK (λx=>tupK x.er) (a ρ):=by
 unfold iTp;rw [eh];cases a ρ with
 |ok x =>
  show (match x.er with | .tuple ds=>R.ok ds | _=>.bad)=tupK x.er
  cases x.er <;> rfl
 |ex c=>rfl
 |bad=>rfl
theorem JS:iR1 a ρ=unK (λx=>r1K x.er) (a ρ):=by
 unfold iR1;rw [eh];cases a ρ with
 |ok x =>
  show (match x.er with | .int j=>if aK j=true then R.ok (kf 0 j.toNat) else .bad | _=>.bad)=r1K x.er
  cases x.er <;> rfl
 |ex c=>rfl
 |bad=>rfl
theorem Kn:iEn a ρ=unK (λx=>enK x.er) (a ρ):=by
 unfold iEn;rw [eh];cases a ρ with
 |ok x =>
  show (match x.er with | .list ds=>R.ok (gT ds) | _=>.bad)=enK x.er
  cases x.er <;> rfl
 |ex c=>rfl
 |bad=>rfl
noncomputable def Eb (g:PyData->PyData->R (List PyData)):R OD->R OD->R (List PyData)
 |.ok x,.ok y=>g x.er y.er
 |.ok _,.ex c=>.ex c
 |.ok _,.bad=>.bad
 |.ex c,_=>.ex c
 |.bad,_=>.bad
theorem KQ:iR2 a b ρ=Eb r2F (a ρ) (b ρ):=by
 unfold iR2;cases a ρ <;> cases b ρ <;> rfl
theorem KI:iZp a b ρ=Eb Ap (a ρ) (b ρ):=by
 unfold iZp;cases a ρ <;> cases b ρ <;> rfl
theorem Ie (i:Nat) (x:OD):gNm i x ρ=.ok (ρ.set i (some x)):=rfl
theorem JM:eR [] ρ=.ok ρ:=rfl
theorem Iu {g:Fg} {r:Fgs} {x:OD} {xs:List OD}:aO g r (x :: xs) ρ=unK (fun ρ'=>r xs ρ') (g x ρ):=eh _ _
theorem GO {n:Nat} {r:Fgs} {ds:List PyData}:gTp n r (.sh (.tuple ds)) ρ=if ds.length=n then r (ds.map OD.sh) ρ else .bad:=rfl
theorem iI {n:Nat} {r:Fgs} {xs:List OD}:gTp n r (.ot xs) ρ=if xs.length=n then r xs ρ else .bad:=rfl
theorem Gh {it:Fi} {g:Fg} {k:Nat} {outs:List Nat}:bD it g t a k outs ρ=BX (it ρ) g t a (sl3 k outs ρ):=by
 unfold bD;cases it ρ with
 |ok ds=>exact eh _ _
 |ex c=>rfl
 |bad=>rfl
theorem Hh {k:Nat} {outs:List Nat}:sl3 k outs ρ=List.replicate k none++outs.map λi=>mI ρ[i]?:=rfl
theorem Km:sNx ρ=.ok (.nx ρ):=rfl
theorem Kt:sBk ρ=.ok (.bk ρ):=rfl
theorem JV:sCt ρ=.ok (.ct ρ):=rfl
theorem Jl:aD p q ρ=xC (p ρ) q:=by
 unfold aD;cases p ρ with
 |ok o=>cases o <;> rfl
 |ex c=>rfl
 |bad=>rfl
theorem Hs {g:Fg}:tQ a g ρ=IA (a ρ) g ρ:=by
 unfold tQ;cases a ρ with
 |ok x=>exact eh _ _
 |ex c=>rfl
 |bad=>rfl
theorem G8 (i:Nat):aN i a ρ=unK (λx=>.ok (.nx (ρ.set i (some x)))) (a ρ):=eh _ _
theorem CG:tL a ρ=unK (λ_=>.ok (.nx ρ)) (a ρ):=eh _ _
theorem HM:eO a ρ=unK (λx=>.ok (.rt x)) (a ρ):=eh _ _
theorem EI:IQ ρ=.ok (.rt (.sh .none)):=rfl
theorem FI (i:Nat):eX i ρ=yA ρ[i]?:=by
 unfold eX yA;rfl
theorem Ji:sIf s p q ρ=ifK (s ρ) p q ρ:=by
 unfold sIf;cases s ρ with
 |ok c=>cases c <;> rfl
 |ex c=>rfl
 |bad=>rfl
theorem JB (i:Nat):ke i p ρ=p (zJ i ρ):=rfl
theorem FN (i:Nat):zJ i ρ=Dz ρ[i]? i ρ:=by
 unfold zJ Dz;rfl
theorem Hw (i:Nat) {g:PyData->PyData->R OD}:wD i g a ρ=Dx ρ[i]? g (a ρ) i ρ:=by
 unfold wD Dx;generalize ρ[i]?=o
 cases o with
 |none=>rfl
 |some o =>
  cases o with
  |none=>rfl
  |some x =>
   cases x with
   |sh d =>
    show ((a ρ).bind λy=>(g d y.er).bind λz=>R.ok (Out.nx (ρ.set i (some z))))=_
    rw [eh];show unK _ (a ρ)=unK _ (a ρ)
    first
     |done
     | (congr 1;funext y;exact eh _ _)
     | (congr 1)
   |ol xs=>rfl
   |ot xs=>rfl
   |od xs=>rfl
theorem Ha (i:Nat):iZ i a ρ=CJ ρ[i]? (a ρ) i ρ:=by
 unfold iZ CJ;generalize ρ[i]?=o
 cases o with
 |none=>rfl
 |some o =>
  cases o with
  |none=>rfl
  |some x =>
   cases x with
   |sh d=>rfl
   |ol xs=>exact eh _ _
   |ot xs=>rfl
   |od xs=>rfl
theorem JH {it:Fi} {g:Fg}:fV it g p ρ=HI (it ρ) g p ρ:=by
 unfold fV;cases it ρ <;> rfl
theorem Hy (T:String):Af T a ρ=unK (λx=>jR T x.er) (a ρ):=eh _ _
theorem IZ:zl a b ρ=JQ (a ρ) b ρ:=by
 unfold zl;cases a ρ with
 |ok x =>
  show (match x.er with | .list ds=>(b ρ).bind λy=>qt ds y.er | _=>.bad)=(match x.er with | .list ds=>unK (λy=>qt ds y.er) (b ρ) | _=>.bad)
  cases x.er with
  |list ds=>exact eh _ _
  |_=>rfl
 |ex c=>rfl
 |bad=>rfl
theorem G0 {np n:Nat} {ds:List PyData}:cq np n p ds=if ds.length=np then El (p (m_ n ds)) else .bad:=by
 unfold cq;congr 1
 cases p (m_ n ds) with
 |ok o=>cases o <;> rfl
 |ex c=>rfl
 |bad=>rfl
theorem HW (d:PyData):ER (some (some (.sh d)))=.ok (.sh d):=rfl
theorem KA {g:PyData->PyData->R OD} {x y:OD}:opK g (.ok x) (.ok y)=g x.er y.er:=rfl
theorem Hf {g:PyData->PyData->R (List PyData)} {x y:OD}:Eb g (.ok x) (.ok y)=g x.er y.er:=rfl
theorem J0 {α β:Type} {g:α->R β} {x:α}:unK g (.ok x)=g x:=rfl
theorem Jf {α β:Type} {g:α->R β} {c:Str}:unK g (.ex c)=.ex c:=rfl
theorem DZ:Dy (.ok true) t ρ=t ρ:=rfl
theorem DL:Dy (.ok false) t ρ=.ok false:=rfl
theorem JG:orK (.ok true) t ρ=.ok true:=rfl
theorem G9:orK (.ok false) t ρ=t ρ:=rfl
theorem Ao:Be (.ok true) a ρ=a ρ:=rfl
theorem Ae:Be (.ok false) a ρ=.ok (.sh (.bool false)):=rfl
theorem Fw:orV (.ok true) a ρ=.ok (.sh (.bool true)):=rfl
theorem Dh:orV (.ok false) a ρ=a ρ:=rfl
theorem FP:ifV (.ok true) a b ρ=a ρ:=rfl
theorem Dp:ifV (.ok false) a b ρ=b ρ:=rfl
theorem Ip:ifK (.ok true) p q ρ=p ρ:=rfl
theorem HX:ifK (.ok false) p q ρ=q ρ:=rfl
theorem ES {x:OD} {xs:List OD}:Ca (.ok x) (.ok xs)=.ok (x :: xs):=rfl
theorem Ih:xC (.ok (.nx ρ)) p=p ρ:=rfl
theorem En {x:OD}:xC (.ok (.rt x)) p=.ok (.rt x):=rfl
theorem F8:xC (.ok (.ct ρ)) p=.ok (.ct ρ):=rfl
theorem DD:xC (.ok (.bk ρ)) p=.ok (.bk ρ):=rfl
theorem JD {x:OD} {g:Fg}:IA (.ok x) g ρ=unK (fun ρ'=>.ok (.nx ρ')) (g x ρ):=rfl
theorem GY {ds:List PyData} {g:Fg}:HI (.ok ds) g p ρ=bJ g p ds ρ:=rfl
theorem Ek {ds:List PyData} {g:Fg}:BX (.ok ds) g t a ρ=unK (λxs=>.ok (.ol xs)) (ba g t a ρ ds []):=rfl
theorem Kc {g:PyData->Option Int->Option Int->R OD} {x:OD} {i j:Option Int}:slK g (.ok x) (.ok i) (.ok j)=g x.er i j:=rfl
theorem GN {xs:List OD} {y:OD} {i:Nat}:CJ (some (some (.ol xs))) (.ok y) i ρ=if xs.length<BIG then .ok (.nx (ρ.set i (some (.ol (xs++[y]))))) else .bad:=rfl
theorem Fp {x:OD}:yA (some (some x))=.ok (.rt x):=rfl
theorem Jh {x:OD} {i:Nat}:Dz (some (some x)) i ρ=ρ.set i (some (.sh x.er)):=rfl
theorem Eo {x:OD}:El (.ok (.rt x))=.ok x:=rfl
theorem CY:El (.ok (.nx ρ))=.ok (.sh .none):=rfl
theorem Hu (x:OD):tru (.ok x)=truth x.er:=rfl
theorem AG (c:Bool):truth (.bool c)=.ok c:=rfl
theorem GU {ds:List PyData}:JQ (.ok (.sh (.list ds))) b ρ=unK (λy=>qt ds y.er) (b ρ):=rfl
theorem JP {d:PyData} {g:PyData->PyData->R OD} {y:OD} {i:Nat}:Dx (some (some (.sh d))) g (.ok y) i ρ=unK (λz=>.ok (.nx (ρ.set i (some z)))) (g d y.er):=rfl
theorem IH (ds:List PyData):lstK (.list ds)=.ok ds:=rfl
theorem Ab (ds:List PyData):tupK (.tuple ds)=.ok ds:=rfl
theorem Kx (ds:List PyData):enK (.list ds)=.ok (gT ds):=rfl
theorem Kr (j:Int):r1K (.int j)=if aK j=true then .ok (kf 0 j.toNat) else .bad:=rfl
theorem KL (i j:Int):r2F (.int i) (.int j)=if (aK i && aK j)=true then .ok (kf i (j-i).toNat) else .bad:=rfl
theorem H_ (ds es:List PyData):Ap (.list ds) (.list es)=.ok (oU ds es):=rfl
theorem DU (i:Int):zz (.int i)=.ok (some i):=rfl
theorem ED (n:Nat) (ds:List PyData):m_ n ds=(ds.map λd=>some (OD.sh d))++List.replicate (n-ds.length) none:=rfl
theorem IF (d:PyData):mI (some (some (.sh d)))=some (.sh d):=rfl
theorem I_:mI (some none)=none:=rfl
theorem Dv (xs:List OD):mI (some (some (.ol xs)))=none:=rfl
theorem IM (d:PyData):mkT [.sh d]=.sh (.tuple [d]):=rfl
theorem JJ (d e:PyData):mkT [.sh d,.sh e]=.sh (.tuple [d,e]):=rfl
theorem G6 (d e f:PyData):mkT [.sh d,.sh e,.sh f]=.sh (.tuple [d,e,f]):=rfl
theorem He (d e f g:PyData):mkT [.sh d,.sh e,.sh f,.sh g]=.sh (.tuple [d,e,f,g]):=rfl
theorem Hv (i j:Int):cH (.int i) (.int j)=.ok (.sh (.int (i+j))):=rfl
theorem HN (i j:Int):eE (.int i) (.int j)=.ok (.sh (.int (i-j))):=rfl
theorem GK (i j:Int):g7 (.int i) (.int j)=if jk i j=true then .ok (.sh (.int (i * j))) else .bad:=rfl
theorem GF (i j:Int):dR (.int i) (.int j)=if 0<j then .ok (.sh (.int (i % j))) else .bad:=rfl
theorem Je (i j:Int):ft (.int i) (.int j)=if 0<j/\j<1073741824 then .ok (.sh (.int (i / j))) else .bad:=rfl
theorem Hl (i j:Int):Ar (.int i) (.int j)=if 0<=j/\j<=1000000/\i.natAbs<2 ^ 64 then .ok (.sh (.int (i ^ j.toNat))) else .bad:=rfl
theorem Iz (i:Int):fN (.int i)=.ok (.sh (.int (-i))):=rfl
theorem Kb (i j:Int):gLt (.int i) (.int j)=.ok (.sh (.bool (decide (i<j)))):=rfl
theorem Ke (i j:Int):gLe (.int i) (.int j)=.ok (.sh (.bool (decide (i<=j)))):=rfl
theorem Ky (i j:Int):gGt (.int i) (.int j)=.ok (.sh (.bool (decide (j<i)))):=rfl
theorem KS (i j:Int):gGe (.int i) (.int j)=.ok (.sh (.bool (decide (j<=i)))):=rfl
theorem Kl (i j:Int):gEq (.int i) (.int j)=.ok (.sh (.bool (decide (i=j)))):=rfl
theorem JZ (i j:Int):gNe (.int i) (.int j)=.ok (.sh (.bool (!decide (i=j)))):=rfl
theorem EB (i j:Int):vx (.int i) (.int j)=.ok (.sh (.int (i+j))):=rfl
theorem Gz (xs:List PyData) (i:Int):gIx (.list xs) (.int i)=i4 (atI xs i):=rfl
theorem JI (xs:List PyData) (i:Int):gIx (.tuple xs) (.int i)=i4 (atI xs i):=rfl
theorem uL (xs:List PyData):bP [.list xs]=.ok (.sh (.int xs.length)):=rfl
theorem C0 (xs:List PyData):bP [.tuple xs]=.ok (.sh (.int xs.length)):=rfl
theorem FQ (x:Str):bP [.str x]=if x.length<=BIG then .ok (.sh (.int x.length)) else .bad:=rfl
theorem FE (i j:Int):p8 [.int i,.int j]=.ok (.sh (.int (if j<i then j else i))):=rfl
theorem xM (i j:Int):p9 [.int i,.int j]=.ok (.sh (.int (if i<j then j else i))):=rfl
theorem DP (n:Int) (ns:List Int):n6 [.list (PyData.int n :: ns.map PyData.int)]=.ok (.sh (.int (mT n ns))):=by
 show (match dJ ((n :: ns).map PyData.int) with | some (n :: ns)=>oI (mT n ns) | _=>.bad)=_
 rw [gb];rfl
theorem Ee (n:Int) (ns:List Int):l4 [.list (PyData.int n :: ns.map PyData.int)]=.ok (.sh (.int (qI n ns))):=by
 show (match dJ ((n :: ns).map PyData.int) with | some (n :: ns)=>oI (qI n ns) | _=>.bad)=_
 rw [gb];rfl
theorem jt (ns:List Int):jJ [.list (ns.map PyData.int)]=.ok (.sh (.int ns.sum)):=by
 show (match dJ (ns.map PyData.int) with | some ns=>oI ns.sum | _=>.bad)=_
 rw [gb];rfl
theorem FK (ds:List PyData):ij [.list ds]=.ok (.ol (ds.map OD.sh)):=rfl
theorem IS (i:Int):JA [.int i]=.ok (.sh (.int i)):=rfl
theorem Fz (c:Bool):JA [.bool c]=.ok (.sh (.int (if c then 1 else 0))):=rfl
theorem Im (ns:List Int) (z:Int) (h:z∈ns):qt (ns.map PyData.int) (.int z)=.ok (.sh (.int (ns.idxOf z:Nat))):=by
 show (match dJ (ns.map PyData.int) with | some ns=>if z∈ns then oI (ns.idxOf z:Nat) else .bad | none=>.bad)=_
 rw [gb];show (if z∈ns then oI (ns.idxOf z:Nat) else .bad)=_
 rw [if_pos h];rfl
theorem ID (xs:List PyData) (i j:Option Int):l7 (.list xs) i j=.ok (.ol ((cutD xs i j).map OD.sh)):=rfl
theorem EM (d:PyData):i4 (some d)=.ok (.sh d):=rfl
theorem at0 {α:Type} (x:α) (xs:List α):atI (x :: xs) 0=some x:=by
 have:atI (x :: xs) ((0:Nat):Int)=some x:=fJ rfl;exact this
theorem at1 {α:Type} (x y:α) (xs:List α):atI (x :: y :: xs) 1=some y:=by
 have:atI (x :: y :: xs) ((1:Nat):Int)=some y:=fJ rfl;exact this
theorem at2 {α:Type} (x y z:α) (xs:List α):atI (x :: y :: z :: xs) 2=some z:=by
 have:atI (x :: y :: z :: xs) ((2:Nat):Int)=some z:=fJ rfl;exact this
theorem IG (c:Bool):oB c=.ok (.sh (.bool c)):=rfl
end
theorem wG {i j:Int} (h1:-18446744073709551616<i) (h2:i<18446744073709551616):jk i j=true:=by
 unfold jk;rw [Bool.or_eq_true,Zv,decide_eq_true_eq,decide_eq_true_eq];exact .inl ⟨by lia,by lia⟩
theorem G4 {i j:Int} (h1:-18446744073709551616<j) (h2:j<18446744073709551616):jk i j=true:=by
 unfold jk;rw [Bool.or_eq_true,Zv,Zv,decide_eq_true_eq,decide_eq_true_eq,decide_eq_true_eq,decide_eq_true_eq];exact .inr ⟨by lia,by lia⟩
theorem iH {i:Int} (h1:-4611686018427387904<=i) (h2:i<4611686018427387904):aK i=true:=f_.mpr ⟨by lia,by lia⟩
theorem eg {n:Nat} (h:n<1000):(n<BIG)=True:=eq_true (ZI h (by decide))
theorem aW {n:Nat} (h:n<=1000):(n<=BIG)=True:=eq_true (ZG h (by decide))
theorem cW (i:Int) {j:Int} (h:0<j):0<=i % j/\i % j<j:=⟨Int.emod_nonneg _ (by lia),Int.emod_lt_of_pos _ h⟩
theorem ue {α:Type} (xs:List α) (i:Int) (h0:0<=i) (h1:i<xs.length):∃x,xs[i.toNat]?=some x/\atI xs i=some x:=by
 obtain ⟨j,rfl⟩:∃j:Nat,i=j:=⟨i.toNat,by lia⟩
 have hj:j<xs.length:=by lia
 exact ⟨xs[j],by simp [hj],fJ (by simp [hj])⟩
theorem yY {g:Fg} {b:Fs} {ds:List PyData} {ρ:Env} {r:R Out} (hL:bJ g b ds ρ=r) (S:Nat->Env->Prop) (h0:S 0 ρ) (st:∀(i:Nat) (d:PyData) (ρ:Env),ds[i]?=some d->S i ρ->∃ρ1 ρ2,g (.sh d) ρ=.ok ρ1/\(b ρ1=.ok (.nx ρ2)\/b ρ1=.ok (.ct ρ2))/\S (i+1) ρ2) :
  ∃ρ',r=.ok (.nx ρ')/\S ds.length ρ':=by
 obtain ⟨ρ',e,h⟩:=xc S h0 st;exact ⟨ρ',by rw [<-hL,e],h⟩
noncomputable def mN (S:Env->Prop):R Out->Prop
 |.ok (.nx ρ)=>S ρ
 |.ok (.ct ρ)=>S ρ
 |_=>False
theorem IY {S:Env->Prop} {ρ:Env}:mN S (.ok (.nx ρ))=S ρ:=rfl
theorem HE {S:Env->Prop} {ρ:Env}:mN S (.ok (.ct ρ))=S ρ:=rfl
theorem vR {S:Env->Prop} {b:Fs} {r:R Env} (h:mN S (unK b r)):∃ρ1 ρ2,r=.ok ρ1/\(b ρ1=.ok (.nx ρ2)\/b ρ1=.ok (.ct ρ2))/\S ρ2:=by
 cases r with
 |ok ρ1 =>
  have h':mN S (b ρ1):=h;cases hb:b ρ1 with
  |ok o =>
   rw [hb]at h';cases o with
   |nx ρ2=>exact ⟨ρ1,ρ2,rfl,.inl hb,h'⟩
   |ct ρ2=>exact ⟨ρ1,ρ2,rfl,.inr hb,h'⟩
   |bk _=>exact h'.elim
   |rt _=>exact h'.elim
  |ex _=>rw [hb]at h';exact h'.elim
  |bad=>rw [hb]at h';exact h'.elim
 |ex c=>exact h.elim
 |bad=>exact h.elim
theorem cT {P:Prop} {g:Fg} {b:Fs} {ds:List PyData} {ρ:Env} {r:R Out} (hL:bJ g b ds ρ=r) (S:Nat->Env->Prop) (h0:S 0 ρ) (st:∀(i:Nat) (d:PyData) (ρ:Env),ds[i]?=some d->S i ρ->mN (S (i+1)) (unK b (g (.sh d) ρ)))
  (fin:∀ρ',r=.ok (.nx ρ')->S ds.length ρ'->P):P:=by
 obtain ⟨ρ',e,h⟩:=yY hL S h0 λi d ρ hd hS=>by
  obtain ⟨ρ1,ρ2,a,b,c⟩:=vR (st i d ρ hd hS);exact ⟨ρ1,ρ2,a,b,c⟩
 exact fin ρ' e h
theorem mn {P:Prop} {t:Ft} {b:Fs} {ρ:Env} {r:R Out} (hL:fj t b ρ=r) (I:Nat->Env->Prop) (m:Nat) (h0:I m ρ) (Q:Env->Prop) (st:∀m ρ,I m ρ->(t ρ=.ok false/\Q ρ)\/(t ρ=.ok true/\mN (fun ρ2=>∃m',m'<m/\I m' ρ2) (b ρ)))
  (fin:∀ρ',r=.ok (.nx ρ')->Q ρ'->P):P:=by
 obtain ⟨ρ',e,h⟩:=xn I Q (λm ρ hI=>by
  rcases st m ρ hI with h | ⟨h1,h2⟩
  ·exact .inl h
  ·obtain ⟨ρ1,ρ2,a,b,m',c,d⟩:=vR (r:=.ok ρ) h2
   cases a;exact .inr ⟨h1,ρ2,m',b,c,d⟩) m ρ h0
 exact fin ρ' (by rw [<-hL,e]) h
noncomputable def FL (o:Option (Option OD)) (a k:R OD) (i:Nat) (ρ:Env):R Out:=match o with
 |some (some (.ol xs))=>unK (λy=>unK (λz=>match z.er with
  |.int q=>match ixN xs.length q with
   |some j=>.ok (.nx (ρ.set i (some (.ol (xs.set j y)))))
   |none=>.bad
  |_=>.bad) k) a
 |_=>.bad
theorem qP {β:Type} (o:Option (Option OD)):o=none\/o=some none\/(∃d,o=some (some (.sh d)))\/(∃xs,o=some (some (.ol xs)))\/(∃xs,o=some (some (.ot xs)))\/∃xs,o=some (some (.od xs)):=by
 cases o with
 |none=>exact .inl rfl
 |some o =>
  cases o with
  |none=>exact .inr (.inl rfl)
  |some x =>
   cases x with
   |sh d=>exact .inr (.inr (.inl ⟨d,rfl⟩))
   |ol xs=>exact .inr (.inr (.inr (.inl ⟨xs,rfl⟩)))
   |ot xs=>exact .inr (.inr (.inr (.inr (.inl ⟨xs,rfl⟩))))
   |od xs=>exact .inr (.inr (.inr (.inr (.inr ⟨xs,rfl⟩))))
section
variable {ρ:Env} {a b k:Fe} {s t:Ft} {p q:Fs}
theorem v_sub (i:Nat):jB i k a ρ=FL ρ[i]? (a ρ) (k ρ) i ρ:=by
 unfold jB FL;generalize ρ[i]?=o
 rcases qP (β:=Nat) o with rfl | rfl | ⟨d,rfl⟩ | ⟨xs,rfl⟩ | ⟨xs,rfl⟩ | ⟨xs,rfl⟩
 ·rfl
 ·rfl
 ·rfl
 ·cases a ρ <;> cases k ρ <;> rfl
 ·rfl
 ·rfl
theorem i8 {xs:List OD} {y:OD} {z:Int} {i j:Nat} (h:ixN xs.length z=some j):FL (some (some (.ol xs))) (.ok y) (.ok (.sh (.int z))) i ρ=.ok (.nx (ρ.set i (some (.ol (xs.set j y))))):=by
 show (match (OD.sh (PyData.int z)).er with
  |.int q=>match ixN xs.length q with
   |some j=>R.ok (Out.nx (ρ.set i (some (.ol (xs.set j y)))))
   |none=>.bad
  |_=>.bad)=_
 rw [ee];show (match ixN xs.length z with
   |some j=>R.ok (Out.nx (ρ.set i (some (.ol (xs.set j y)))))
   |none=>.bad)=_
 rw [h]
theorem cz {n j:Nat} (h:j<n):ixN n (j:Int)=some j:=by
 unfold ixN;rw [if_pos (by lia),if_pos (by lia)]
 simp
noncomputable def Ga (o:Option (Option OD)) (i:Nat) (ρ:Env):R Out:=match o with
 |some (some (.ol xs))=>.ok (.nx (ρ.set i (some (.ol xs.reverse))))
 |_=>.bad
noncomputable def EV (o:Option (Option OD)) (i:Nat) (ρ:Env):R Out:=match o with
 |some (some (.ol xs))=>.ok (.nx (ρ.set i (some (.ol []))))
 |_=>.bad
theorem HL (i:Nat):GR i ρ=Ga ρ[i]? i ρ:=by unfold GR Ga;rfl
theorem GC (i:Nat):G_ i ρ=EV ρ[i]? i ρ:=by unfold G_ EV;rfl
theorem Jz {xs:List OD} {i:Nat}:Ga (some (some (.ol xs))) i ρ=.ok (.nx (ρ.set i (some (.ol xs.reverse)))):=rfl
theorem HD {xs:List OD} {i:Nat}:EV (some (some (.ol xs))) i ρ=.ok (.nx (ρ.set i (some (.ol [])))):=rfl
noncomputable def AR (o:Option (Option OD)) (g:Fg) (i:Nat) (ρ:Env):R Out:=match o with
 |some (some (.ol xs))=>match xs.getLast? with
  |some (.sh d)=>unK (fun ρ'=>.ok (.nx ρ')) (g (.sh d) (ρ.set i (some (.ol xs.dropLast))))
  |_=>.bad
 |_=>.bad
theorem JK (i:Nat) {g:Fg}:tu i g ρ=AR ρ[i]? g i ρ:=by
 unfold tu AR;generalize ρ[i]?=o
 rcases qP (β:=Nat) o with rfl | rfl | ⟨d,rfl⟩ | ⟨xs,rfl⟩ | ⟨xs,rfl⟩ | ⟨xs,rfl⟩
 ·rfl
 ·rfl
 ·rfl
 ·show (match xs.getLast? with
   |some (.sh d)=>(g (.sh d) (ρ.set i (some (.ol xs.dropLast)))).bind fun ρ'=>R.ok (Out.nx ρ')
   |_=>.bad)=(match xs.getLast? with
   |some (.sh d)=>unK (fun ρ'=>R.ok (Out.nx ρ')) (g (.sh d) (ρ.set i (some (.ol xs.dropLast))))
   |_=>R.bad)
  cases xs.getLast? with
  |none=>rfl
  |some x =>
   cases x with
   |sh d=>exact eh _ _
   |ol _=>rfl
   |ot _=>rfl
   |od _=>rfl
 ·rfl
 ·rfl
theorem se {xs:List OD} {d:PyData} {i:Nat} {g:Fg}:AR (some (some (.ol (xs++[.sh d])))) g i ρ=unK (fun ρ'=>R.ok (Out.nx ρ')) (g (.sh d) (ρ.set i (some (.ol xs)))):=by
 have h1:(xs++[OD.sh d]).getLast?=some (.sh d):=by simp
 unfold AR;simp only [h1,List.dropLast_concat]
noncomputable def Ge (o:Option (Option OD)) (a:R OD) (i:Nat) (ρ:Env):R Out:=match o with
 |some (some (.ol xs))=>unK (λy=>match y with
  |.ol ys=>if xs.length+ys.length<=BIG then .ok (.nx (ρ.set i (some (.ol (xs++ys))))) else .bad
  |_=>.bad) a
 |_=>.bad
theorem JN (i:Nat):t9 i a ρ=Ge ρ[i]? (a ρ) i ρ:=by
 unfold t9 Ge;generalize ρ[i]?=o
 rcases qP (β:=Nat) o with rfl | rfl | ⟨d,rfl⟩ | ⟨xs,rfl⟩ | ⟨xs,rfl⟩ | ⟨xs,rfl⟩
 ·rfl
 ·rfl
 ·rfl
 ·cases a ρ with
  |ok y=>cases y <;> rfl
  |ex c=>rfl
  |bad=>rfl
 ·rfl
 ·rfl
theorem zq {xs ys:List OD} {i:Nat}:Ge (some (some (.ol xs))) (.ok (.ol ys)) i ρ=if xs.length+ys.length<=BIG then .ok (.nx (ρ.set i (some (.ol (xs++ys))))) else .bad:=rfl
theorem qE {i:Nat} {xs ys:List OD} {z:Int} {j:Nat} {y:OD} (h1:ρ[i]?=some (some (.ol xs))) (h2:k ρ=.ok (.sh (.int z))) (h3:ixN xs.length z=some j) (h4:xs[j]?=some (.ol ys)) (h5:a ρ=.ok y) (h6:ys.length<BIG) :
  lL i k a ρ=.ok (.nx (ρ.set i (some (.ol (xs.set j (.ol (ys++[y]))))))):=by
 unfold lL;rw [h1,h2];simp only [c8,ee,h3,h4,h5,h6,if_true]
end
theorem dc {α:Type} {g:Fg} {el:Fe} {ρ0:Env} {ds:List PyData} {r:R (List OD)} (hL:ba g bQ el ρ0 ds []=r) (emb:α->PyData) (y:α->OD) (L:List α) (e:ds=L.map emb) (hl:L.length<=BIG) (h:∀x∈L,unK el (g (.sh (emb x)) ρ0)=.ok (y x)):r=.ok (L.map y):=by
 subst e;rw [<-hL];have go:∀(L:List α) (acc:List OD),(∀x∈L,unK el (g (.sh (emb x)) ρ0)=.ok (y x))->acc.length+L.length<=BIG->ba g bQ el ρ0 (L.map emb) acc=.ok (acc++L.map y):=by
  intro L
  induction L with
  |nil=>intro acc _ _;rw [List.map_nil,ba,List.map_nil,Zx]
  |cons x L ih =>
   intro acc h hl;have hx:=h x Zf;rw [Zr]at hl;rw [Zk,ba];cases hg:g (.sh (emb x)) ρ0 with
   |ok ρ =>
    rw [hg]at hx;have hx':el ρ=.ok (y x):=hx;simp only [qv,c8,bQ,if_true,hx'];rw [if_pos (by lia),ih (acc++[y x]) (λz hz=>h z (Ze _ hz)) (by rw [Zd,List.length_singleton];lia),Zk,ZD]
    rfl
   |ex c=>rw [hg]at hx;cases hx
   |bad=>rw [hg]at hx;cases hx
 rw [go L [] h (by simpa using hl)]
 rfl
theorem gR {α:Type} {g:Fg} {t:Ft} {el:Fe} {ρ0:Env} {ds:List PyData} {r:R (List OD)} (hL:ba g t el ρ0 ds []=r) (emb:α->PyData) (p:α->Bool) (y:α->OD) (L:List α) (e:ds=L.map emb) (hl:L.length<=BIG) (h:∀x∈L,unK t (g (.sh (emb x)) ρ0)=.ok (p x)/\(p x=true->unK el (g (.sh (emb x)) ρ0)=.ok (y x))):r=.ok ((L.filter p).map y):=by
 subst e;rw [<-hL];have go:∀(L:List α) (acc:List OD),(∀x∈L,unK t (g (.sh (emb x)) ρ0)=.ok (p x)/\(p x=true->unK el (g (.sh (emb x)) ρ0)=.ok (y x)))->acc.length+L.length<=BIG->ba g t el ρ0 (L.map emb) acc=.ok (acc++(L.filter p).map y):=by
  intro L
  induction L with
  |nil=>intro acc _ _;rw [List.map_nil,ba,List.filter_nil,List.map_nil,Zx]
  |cons x L ih =>
   intro acc h hl;obtain ⟨hx,hy⟩:=h x Zf;rw [Zr]at hl;rw [Zk,ba];cases hg:g (.sh (emb x)) ρ0 with
   |ok ρ =>
    rw [hg]at hx hy;have hx':t ρ=.ok (p x):=hx;have hy':p x=true->el ρ=.ok (y x):=hy;simp only [qv,c8,hx'];by_cases hp:p x=true
    ·rw [if_pos hp,hy' hp]
     simp only [c8];rw [if_pos (by lia),ih (acc++[y x]) (λz hz=>h z (Ze _ hz)) (by rw [Zd,List.length_singleton];lia),List.filter_cons_of_pos hp,Zk,ZD]
     rfl
    ·rw [if_neg hp,ih acc (λz hz=>h z (Ze _ hz)) (by lia),List.filter_cons_of_neg hp]
   |ex c=>rw [hg]at hx;cases hx
   |bad=>rw [hg]at hx;cases hx
 rw [go L [] h (by simpa using hl)]
 rfl
noncomputable def lay (n:Nat) (d:PyData):Prop:=d.canLay0=true/\d.depth<=n
theorem jQ (i:Int):lay 0 (.int i):=⟨rfl,Zn _⟩
theorem BA {x:Str} (h:PyData.strOk x=true):lay 0 (.str x):=⟨h,Zn _⟩
theorem qk {n:Nat}:∀{xs:List PyData},(∀x∈xs,lay n x)->PyData.canLayAll0 xs=true/\PyData.depthAll xs<=n
 |[],_=>⟨rfl,Nat.zero_le _⟩
 |x :: xs,h=>by
  obtain ⟨a1,a2⟩:=h x Zf;obtain ⟨b1,b2⟩:=qk (xs:=xs) λy hy=>h y (Ze _ hy)
  unfold PyData.canLayAll0 PyData.depthAll;rw [a1,b1];exact ⟨rfl,by lia⟩
theorem kx {n:Nat} {xs:List PyData} (h:∀x∈xs,lay n x):lay (n+1) (.list xs):=by
 obtain ⟨b1,b2⟩:=qk h;refine ⟨by unfold PyData.canLay0;exact b1,?_⟩
 unfold PyData.depth
 lia
theorem jG {n:Nat} {xs:List PyData} (h:∀x∈xs,lay n x):lay (n+1) (.tuple xs):=by
 obtain ⟨b1,b2⟩:=qk h;refine ⟨by unfold PyData.canLay0;exact b1,?_⟩
 unfold PyData.depth
 lia
theorem cS {n:Nat} {d:PyData} (h:lay n d) (hn:n<=64):SeqAt.shaped d=true:=by
 unfold SeqAt.shaped;rw [Zv];exact ⟨h.1,decide_eq_true (ZG h.2 hn)⟩
theorem lay_ints (ns:List Int):lay 1 (.list (ns.map PyData.int)):=kx λx hx=>by
 obtain ⟨n,_,rfl⟩:=ZC.mp hx;exact jQ n
theorem jN (a b:List PyData):eqD (.list a) (.list b)=iV (.list a) (.list b):=rfl
theorem pZ {n:Nat} {d:PyData} (h:lay n d) (hn:n<=64):iV d d=.ok true:=by
 unfold iV;rw [cS h hn,Bool.and_self,if_pos rfl,SeqAt.eqv_refl _ (SeqAt.canLay_of_shaped (cS h hn))]
theorem yQ {n:Nat} {a:List PyData} (h:lay n (.list a)) (hn:n<=64:=by decide):gEq (.list a) (.list a)=.ok (.sh (.bool true)):=by
 unfold gEq;rw [jN,pZ h hn];rfl
theorem ow {n:Nat} {a:List PyData} (h:lay n (.list a)) (hn:n<=64:=by decide):gNe (.list a) (.list a)=.ok (.sh (.bool false)):=by
 unfold gNe;rw [jN,pZ h hn];rfl
theorem Hj (z:Str) (i:Int):gIx (.str z) (.int i)=if z.length<=BIG then i4 ((atI z.cps.toList i).map λc=>.str ⟨#[c]⟩) else .bad:=rfl
theorem FT (x y:Str):cH (.str x) (.str y)=if x.length+y.length<=BIG then .ok (.sh (.str (x++y))) else .bad:=rfl
theorem uT (x y:List PyData):cH (.list x) (.list y)=if x.length+y.length<=BIG then .ok (.ol ((x++y).map OD.sh)) else .bad:=rfl
theorem Ew (xs:List PyData) (k:Int):g7 (.list xs) (.int k)=if (decide (-(2 ^ 63)<=k) && decide (k<2 ^ 63) && decide (xs.length * k.toNat<=BIG))=true then .ok (.ol ((List.replicate k.toNat xs).flatten.map OD.sh)) else .bad:=rfl
theorem BJ (x:PyData) (n:Nat) (h:n<=1000):g7 (.list [x]) (.int n)=.ok (.ol ((List.replicate n x).map OD.sh)):=by
 rw [Ew,if_pos]
 ·rw [Int.toNat_natCast]
  congr 2
  induction n with
  |zero=>rfl
  |succ n ih=>rw [List.replicate_succ,List.flatten_cons,Zl,ih (by lia),List.replicate_succ,Zk];rfl
 ·rw [Zv,Zv,decide_eq_true_eq,decide_eq_true_eq,decide_eq_true_eq]
  refine ⟨⟨by lia,by lia⟩,?_⟩
  rw [Int.toNat_natCast,List.length_singleton,Nat.one_mul];exact of_eq_true (aW h)
theorem IE (x y:Str):gEq (.str x) (.str y)=.ok (.sh (.bool (decide (x=y)))):=rfl
theorem GS (x y:Str):gNe (.str x) (.str y)=.ok (.sh (.bool (!decide (x=y)))):=rfl
noncomputable def qd (S:Env->Prop) (T:OD->Prop):R Out->Prop
 |.ok (.nx ρ)=>S ρ
 |.ok (.ct ρ)=>S ρ
 |.ok (.rt x)=>T x
 |_=>False
theorem Hg {S:Env->Prop} {T:OD->Prop} {ρ:Env}:qd S T (.ok (.nx ρ))=S ρ:=rfl
theorem Io {S:Env->Prop} {T:OD->Prop} {ρ:Env}:qd S T (.ok (.ct ρ))=S ρ:=rfl
theorem Jc {S:Env->Prop} {T:OD->Prop} {x:OD}:qd S T (.ok (.rt x))=T x:=rfl
theorem DK {P:Prop} {g:Fg} {b:Fs} {ds:List PyData} {ρ:Env} {r:R Out} (hL:bJ g b ds ρ=r) (S:Nat->Env->Prop) (T:OD->Prop) (h0:S 0 ρ) (st:∀(i:Nat) (d:PyData) (ρ:Env),ds[i]?=some d->S i ρ->qd (S (i+1)) T (unK b (g (.sh d) ρ)))
  (fin:∀ρ',r=.ok (.nx ρ')->S ds.length ρ'->P) (fin2:∀x,r=.ok (.rt x)->T x->P):P:=by
 have go:∀(es:List PyData) (k:Nat) (ρ:Env),S k ρ->(∀(i:Nat) (d:PyData) (ρ:Env),es[i]?=some d->S (k+i) ρ->qd (S (k+i+1)) T (unK b (g (.sh d) ρ)))->(∃ρ',bJ g b es ρ=.ok (.nx ρ')/\S (k+es.length) ρ')\/∃x,bJ g b es ρ=.ok (.rt x)/\T x:=by
  intro es
  induction es with
  |nil=>exact λk ρ h _=>.inl ⟨ρ,rfl,h⟩
  |cons d es ih =>
   intro k ρ h st;have h1:=st 0 d ρ rfl h;rw [bJ];cases hg:g (.sh d) ρ with
   |bad=>rw [hg]at h1;exact h1.elim
   |ex c=>rw [hg]at h1;exact h1.elim
   |ok ρ1 =>
    rw [hg]at h1;have h2:qd (S (k+0+1)) T (b ρ1):=h1;rw [c8];cases hb:b ρ1 with
    |bad=>rw [hb]at h2;exact h2.elim
    |ex c=>rw [hb]at h2;exact h2.elim
    |ok o =>
     rw [hb]at h2;rw [c8];have nxt:∀ρ2,S (k+1) ρ2->(∃ρ',bJ g b es ρ2=.ok (.nx ρ')/\S (k+(d :: es).length) ρ')\/∃x,bJ g b es ρ2=.ok (.rt x)/\T x:=fun ρ2 h3=>by
      have:=ih (k+1) ρ2 h3 λi d' ρ hd hi=>by
       have:=st (i+1) d' ρ (by simpa using hd) (by rw [show k+(i+1)=k+1+i by lia];exact hi)
       rw [show k+(i+1)+1=k+1+i+1 by lia]at this
       exact this
      rw [Zr,show k+(es.length+1)=k+1+es.length by lia]
      exact this
     cases o with
     |nx ρ2=>exact nxt ρ2 h2
     |ct ρ2=>exact nxt ρ2 h2
     |bk _=>exact h2.elim
     |rt x=>exact .inr ⟨x,rfl,h2⟩
 rcases go ds 0 ρ h0 λi d ρ hd hi=>by rw [Nat.zero_add]at hi ⊢;exact st i d ρ hd hi with ⟨ρ',e,h⟩ | ⟨x,e,h⟩
 ·rw [Nat.zero_add]at h
  exact fin ρ' (by rw [<-hL,e]) h
 ·exact fin2 x (by rw [<-hL,e]) h
theorem km {α:Type} (p:α->Bool):∀(L:List α) (i:Nat),(∀k,k<i->∀x,L[k]?=some x->p x=true)->(∀x,L[i]?=some x->p x=false)->i<=L.length->L.takeWhile p=L.take i
 |[],i,_,_,_=>by simp
 |x :: L,0,_,h,_=>by rw [List.takeWhile_cons,h x rfl,List.take_zero];rfl
 |x :: L,i+1,h1,h2,h3=>by
  rw [List.takeWhile_cons,h1 0 (by lia) x rfl,List.take_succ_cons,km p L i (λk hk y hy=>h1 (k+1) (by lia) y (by simpa using hy)) (λy hy=>h2 y (by simpa using hy)) (by simpa using h3)]
  rfl
theorem Bl (xs:List PyData) (a b:Nat) (ha:a<=xs.length) (hb:b<=xs.length):cutD xs (some (a:Int)) (some (b:Int))=(xs.drop a).take (b-a):=by
 unfold cutD;rw [HT.nu,HT.nu,Nat.min_eq_left ha,Nat.min_eq_left hb]
theorem jM (xs:List PyData) (a:Nat) (ha:a<=xs.length):cutD xs (some (a:Int)) none=xs.drop a:=by
 unfold cutD;rw [HT.nu,HT.r9,Nat.min_eq_left ha,List.take_of_length_le (by rw [ZF];lia)]
end L3
namespace L3
open PySem L2 PySem.Spec PyProof.Rows
noncomputable def Itd (lo:Int) (n:Nat):It:=⟨λi _=>i<n,λi H x H'=>H'=H/\x=.int (lo-i),λi _=>n<=i⟩
theorem wI {P:Program} {w:World} {K:PySem.W.Frag} {tg:Expr} (it:Addr) (lo:Int) (n:Nat):Turn P w K tg (Itd lo n) [it] it (λi h=>IsRangeIter h it (lo+(i:Nat) * (-1)) ((n:Int)-(i:Nat)) (-1)) where
 mem:=by simp
 obj:=λi h st b hb=>by
  have e:b=it:=by simpa using hb
  subst e;exact ⟨_,st,λv z=>by
   have z':Data.fields _=Data.cell v:=z;cases z'⟩
 keep:=λi h h' st k=>k it (by simp) _ st
 item:=by
  intro X hP hw hK hc i pins s σ H E I hf st hg;subst hP hw hK;obtain ⟨f0,f1,f2,f3,f4,f5⟩:=hf it (by simp)
  have W:=PySem.Walks.range (prog:=X.prog) (w:=X.w) (I.ok.hd hc) it lo (-1) n;refine W.item i s _ _ hg st λv h' tk hv st' kk=>?_
  obtain ⟨t,rfl⟩:=hv;have I1:Inv X pins σ H { s with heap:=h',toks:=tk }:=I.turned (λb o hb e=>kk b o (by simpa using hb) e) f0 f1 f3 f4 f5
  refine ⟨_,rfl,vV (s:={ s with heap:=h',toks:=tk }) (n := "range_iterator") st' rfl rfl (by decide) ⟨.int (lo-i),H,I1,⟨t,?_⟩,⟨rfl,rfl⟩,st',λb hb=>(hf b hb).1⟩⟩
  congr 1
  lia
 done:=by
  intro X hP hw hK hc i pins s σ H E I hf st hg;subst hP hw hK;obtain ⟨f0,f1,f2,f3,f4,f5⟩:=hf it (by simp)
  exact wpAny_pyNext_range_end (I.ok.hd hc) st (by have:n<=i:=hg;lia) λh' eb=>⟨rfl,I.turned (t':=s.toks) (λb o hb e=>eb b o hb e) f0 f1 f3 f4 f5⟩
 self:=λ_ _ _ _ _ st h=>wpAny_pyIter_rangeiter st h
theorem rangeSize_down (a b:Int):Builtin.Range.rangeSize a b (-1)=if a > b then a-b else 0:=by
 unfold Builtin.Range.rangeSize;simp only [show ¬((-1:Int) > 0) by decide,if_false]
 have:(-(-1:Int))=1:=by decide
 rw [this,Int.ediv_one];split <;> lia
theorem small_down {a b:Int} (ha:-(2 ^ 62)<=a) (ha':a<2 ^ 62) (hb:-(2 ^ 62)<=b) (hb':b<2 ^ 62):Builtin.Range.small a b (-1)=true:=by
 unfold Builtin.Range.small;rw [rangeSize_down];simp only [Builtin.Range.rangeFitsLong,Zv,Bool.or_eq_true,decide_eq_true_eq,beq_iff_eq,show ¬((-1:Int) > 0) by decide,if_false]
 split <;> lia
section
variable {X:Cx} {tg:Expr}
theorem By {pins:List (Addr×Obj)} {σ:St} {H:Hp} {s:Shared} {R:It->Hp->Prop} {E:Value->Shared->Prop} {lo hi:Int} {t u v:Tok} {tk:Nat} (I:Inv X pins σ H s) (h1:-(2 ^ 62)<=lo) (h2:lo<2 ^ 62) (h3:-(2 ^ 62)<=hi) (h4:hi<2 ^ 62)
  (q:R (Itd lo (lo-hi).toNat) H):wpAny (model X.prog X.w) X.A (pyIter (.ref s.heap.objs.size)) (PIE X pins σ tg R) E { s with heap:=s.heap.push { cls:=.type "range",data:=.fields #[.int lo t,.int hi u,.int (-1) v] },toks:=tk }:=by
 refine wpAny_pyIter_range (IsRange.new ..) (small_down h1 h2 h3 h4) ?_;have I1:Inv X pins σ H { s with heap:=s.heap.push { cls:=.type "range",data:=.fields #[.int lo t,.int hi u,.int (-1) v] },toks:=tk }:=I.kept λb o e=>Heap.get?_push_of_some _ e
 refine ⟨(s.heap.push { cls:=.type "range",data:=.fields #[.int lo t,.int hi u,.int (-1) v] }).objs.size,[(s.heap.push { cls:=.type "range",data:=.fields #[.int lo t,.int hi u,.int (-1) v] }).objs.size],_,_,H,rfl,
  I1.kept (t':=tk) λb o e=>Heap.get?_push_of_some _ e,wI _ lo (lo-hi).toNat,?_,λb hb=>?_,q⟩
 ·have e1:lo+((0:Nat):Int) * (-1)=lo:=by simp
  have e2:(((lo-hi).toNat:Nat):Int)-((0:Nat):Int)=Builtin.Range.rangeSize lo hi (-1):=by rw [rangeSize_down];split <;> lia
  show IsRangeIter _ _ (lo+((0:Nat):Int) * (-1)) ((((lo-hi).toNat:Nat):Int)-((0:Nat):Int)) (-1)
  rw [e1,e2];exact Heap.get?_push_size _ rfl
 ·have e:b=(s.heap.push { cls:=.type "range",data:=.fields #[.int lo t,.int hi u,.int (-1) v] }).objs.size:=by simpa using hb
  subst e;exact I1.fpOk (Zn _) (I1.hok.fresh (Zn _))
noncomputable def Cg (ta:TA):TI:=fun σ H R=>ta σ H λvs H1=>∃i j:Int,vs=[.int i,.int j,.int (-1)]/\(-(2 ^ 62)<=i/\i<2 ^ 62/\-(2 ^ 62)<=j/\j<2 ^ 62)/\R (Itd i (i-j).toNat) H1
theorem wB {a b c:Expr} {ta:TA} {p pos:Pos} (hg:Gl X "range") (hm:X.mg "range" = none) (ha:PA X [a,b,c] ta) (hs:starEach [a,b,c] X.env=(false,eval a X.env) :: starEach [b,c] X.env) (hs2:(backTo pos (starEach [b,c] X.env)).any (·.1)=false) :
  PI X tg (.Call (.Name "range" p) [a,b,c] [] pos) (Cg ta):=by
 intro pins s σ H R I h;refine Call_ (jX I hg hm boot_range (PyProof.Rows.callWith_type1 (thn (ha pos pins s σ H _ I h) λus s1 ⟨vs,H1,I1,r1,q1⟩=>?_) hs hs2))
 obtain ⟨i,j,e,⟨q1,q2,q3,q4⟩,q⟩:=q1;subst e;cases r1 with
 |cons r rr =>
  cases rr with
  |cons r' rr =>
   cases rr with
   |cons r'' rr =>
    cases rr;obtain ⟨t,rfl⟩:=r;obtain ⟨t',rfl⟩:=r';obtain ⟨t'',rfl⟩:=r'';exact call_range_3 (by decide) (By I1 q1 q2 q3 q4 q) (.inl (PyProof.noPylong_small (by decide)))
end
noncomputable def qA (lo:Int) (n:Nat):List PyData:=(List.range n).map λk:Nat=>PyData.int (lo-k)
noncomputable def iR3 (a b c:Fe):Fi:=fun ρ=>(a ρ).bind λx=>(b ρ).bind λy=>(c ρ).bind λz=>match x.er,y.er,z.er with
 |.int i,.int j,.int k=>if (aK i && aK j && decide (k=-1))=true then .ok (qA i (i-j).toNat) else .bad
 |_,_,_=>.bad
theorem uq {K:PySem.W.Frag} {F:Hp} (lo:Int) (k:Nat):Walks K F (Itd lo k) (qA lo k):=by
 intro i G H s1 s2;unfold qA;refine ⟨λd hd=>?_,λhl=>(show k<=i by simpa using hl)⟩
 rw [Za]at hd;obtain ⟨j,hj,rfl⟩:=Zp.mp hd;obtain ⟨h1,h2⟩:=Zb.mp hj;have h3:i=j:=by simpa using h2
 subst h3;refine ⟨(show i<k by simpa using h1),λx H' y=>?_⟩
 obtain ⟨rfl,rfl⟩:=y;exact ⟨G,Ext.refl s2,.int _⟩
section
variable {M:Mx} {n:Nat} {H:Hp} {σ:St} {R':It->Hp->Prop} {X:Cx} {a b c e:Expr} {fa fb fc:Fe} {pos:Pos} {D:Ends}
theorem Ka (h:tI M n (iR3 fa fb fc) σ H R'):Cg (tA M n (af fa (af fb (af fc av)))) σ H R':=by
 obtain ⟨F,ρ,fp,S,p⟩:=h;refine ⟨F,ρ,fp,S,?_⟩;unfold iR3 at p;have p1:=aG.bind p;show aG M H fp _ (af fa (af fb (af fc av)) ρ)
 rw [nF,nF,nF,zT];cases ha:fa ρ with
 |bad=>rw [ha]at p1;exact p1
 |ex c=>rw [ha]at p1;exact p1
 |ok x =>
  rw [ha]at p1;have p2:aG M H fp _ (fb ρ):=aG.bind p1;cases hb:fb ρ with
  |bad=>rw [hb]at p2;exact p2
  |ex c=>rw [hb]at p2;exact p2
  |ok y =>
   rw [hb]at p2;have p3:aG M H fp _ (fc ρ):=aG.bind p2;cases hc:fc ρ with
   |bad=>rw [hc]at p3;exact p3
   |ex c=>rw [hc]at p3;exact p3
   |ok z =>
    rw [hc]at p3;intro vs F1 H1 fx e1 r1 w1;obtain ⟨G1,d1,k1⟩:=r1.frz e1 w1;cases k1 with
    |@cons v _ _ _ k1 k2 =>
     cases k2 with
     |@cons w _ _ _ k2 k3 =>
      cases k3 with
      |@cons u _ _ _ k3 k4 =>
       cases k4;have p4:aG M H fp (OkI M.K F H R') (match x.er,y.er,z.er with
        |.int i,.int j,.int k=>if (aK i && aK j && decide (k=-1))=true then .ok (qA i (i-j).toNat) else .bad
        |_,_,_=>.bad):=p3
       generalize x.er=dx at p4 k1
       generalize y.er=dy at p4 k2
       generalize z.er=dz at p4 k3
       split at p4
       ·rename_i i j k
        cases k1;cases k2;cases k3;by_cases hs:(aK i && aK j && decide (k=-1))=true
        ·rw [if_pos hs]at p4
         rw [Zv,Zv,decide_eq_true_eq]at hs;obtain ⟨⟨h1,h2⟩,rfl⟩:=hs;have h1:=f_.mp h1;have h2:=f_.mp h2;exact ⟨i,j,rfl,⟨h1.1,h1.2,h2.1,h2.2⟩,p4 _ G1 H1 d1 (uq _ _)⟩
        ·rw [if_neg hs]at p4
         exact p4.elim
       ·exact p4.elim
theorem CD {tg:Expr} {p:Pos} (hg:Gl X "range") (hm:X.mg "range" = none) (h:DE M X a fa) (k:DE M X b fb) (l:DE M X c fc) (hs1:starEach [a,b,c] X.env=(false,eval a X.env) :: starEach [b,c] X.env:=by rfl) (hs0:starEach [b,c] X.env=(false,eval b X.env) :: starEach [c] X.env:=by rfl)
  (hs3:starEach [c] X.env=(false,eval c X.env) :: starEach [] X.env:=by rfl) (hs2:(backTo pos (starEach [b,c] X.env)).any (·.1)=false:=by rfl):DI M X tg (.Call (.Name "range" p) [a,b,c] [] pos) (iR3 fa fb fc):=λhK hM =>
 λpins s σ H R' I z=>wB hg hm ((ab h (ab k (ab l ao hs3) hs0) hs1) hK hM) hs1 hs2 pins s σ H R' I (Ka z)
noncomputable def Cb (K:PySem.W.Frag):V->Hp->VK->Prop:=λx H Q=>∃a xs,x=.ref a/\SqL K H a xs/\∀p,H p=none->Q (.ref p) (upd H p (.lst xs.reverse))
noncomputable def tRv (r:V->Hp->VK->Prop) (te ts:TE):TE:=fun σ H Q=>te σ H λx H1=>ts σ H1 λz H2=>z=.int (-1)/\r x H2 Q
theorem Gk {te ts:TE} {st:Expr} {p2:Pos} {ops:Value->Value->List Value} (he:PE X e te) (hs:PE X st ts) (hsub:∀v u,subscripted (.Slice none none (some st) p2) false v u=operate (ops v u) (getItem v u)):PE X (.Subscript e (.Slice none none (some st) p2) pos) (tRv (Cb X.K) te ts):=by
 intro pins s σ H Q I h;refine Subscript_ (thn (he pins s σ H _ I h) λv s1 ⟨x,H1,I1,r1,q1⟩=>?_)
 refine wpAny_Slice ?_;rw [evalPart_none];refine wpAny_pure ?_;refine wpAny_pure ?_;rw [evalPart_some];refine thn (hs pins s1 σ H1 _ I1 q1) λvs s3 ⟨z,H3,I3,r3,q3⟩=>?_
 obtain ⟨rfl,q3⟩:=q3;obtain ⟨t3,rfl⟩:=r3;obtain ⟨a,xs,rfl,hx,q⟩:=q3;cases r1;have I4:Inv X pins σ H3 { s3 with heap:=s3.heap.push { cls:=.type "slice",data:=.fields #[.none,.none,.int (-1) t3] } }:=I3.kept (t':=s3.toks) λb ob q=>Heap.get?_push_of_some _ q
 show wpAny (model X.prog X.w) X.A (subscriptTail e (.Slice none none (some st) p2) (.ref a) (.ref s3.heap.objs.size)) (EP X pins σ Q) X.xe { s3 with heap:=s3.heap.push { cls:=.type "slice",data:=.fields #[.none,.none,.int (-1) t3] } }
 obtain ⟨its,r,ht,hz⟩:=I4.list hx;refine tail_any (ops:=ops (.ref a) (.ref s3.heap.objs.size)) ht.isList.typeIs slot_list_getitem.lookup ?_ (hsub _ _);refine wpAny_getItem_list_slice ht.isList (Heap.IsSliceOf.new ..) .none .none (.int (-1) t3) (by simp) ?_ (by rw [ZA,<-r.length];exact hz)
 rw [PySem.W.krv_pick];refine ⟨.ref _,_,I4.laid (t':=s3.toks) (o:=.lst xs.reverse) (λb ob q=>Heap.get?_push_of_some _ q) (Zn _) ?_,rfl,q _ (I4.hok.fresh (Zn _))⟩
 refine ⟨by rw [List.length_reverse];exact hz,its.reverse,0,r.reverse,?_⟩
 have e:its.toArray.toList.reverse.toArray=its.reverse.toArray:=by simp
 rw [e];exact Heap.get?_push_size _ rfl
noncomputable def pI (a s:Fe):Fe:=fun ρ=>(a ρ).bind λx=>(s ρ).bind λz=>match x.er,z.er with
 |.list ds,.int k=>if k=-1 then .ok (.ol (ds.reverse.map OD.sh)) else .bad
 |_,_=>.bad
theorem RepAll.rev {K:PySem.W.Frag} {F:Hp}:∀{vs:List V} {ds:List PyData},RepAll K F vs ds->RepAll K F vs.reverse ds.reverse
 |_,_,.nil=>.nil
 |_,_,.cons h r=>by
  rw [List.reverse_cons,List.reverse_cons];exact RepAll.app (RepAll.rev r) (.cons h .nil)
theorem I0 {Q:VK} (h:tD M n (pI fa fb) σ H Q):tRv (Cb M.K) (tD M n fa) (tD M n fb) σ H Q:=by
 obtain ⟨F,ρ,fp,S,p⟩:=h;refine ⟨F,ρ,fp,S,(aG.bind p).mono λx px v F1 H1 fx e1 r1 w1=>?_⟩
 obtain ⟨G1,d1,k1⟩:=r1.frz e1 w1;refine ⟨G1,ρ,fp,S.ext d1,((aG.bind px).ext d1).mono λy py v2 F2 H2 fy e2 r2 w2=>?_⟩
 obtain ⟨G2,d2,k2⟩:=r2.frz e2 w2;have e12:=d1.trans d2;generalize x.er=dx at py k1
 generalize y.er=dy at py k2
 split at py
 ·rename_i ds k
  cases k2;by_cases hk:k=-1
  ·rw [if_pos hk]at py
   cases k1 with
   |@lst a vs _ h1 h2=>exact ⟨by rw [hk],a,vs,rfl,((h1.same d2.ff).same d2.fh).sq,λp hp=>OkE.lstD d2.fh (OkE.pre e12 py) (RepAll.rev (h2.same d2.ff)) hp⟩
  ·rw [if_neg hk]at py
   exact py.elim
 ·exact py.elim
theorem uZ {st:Expr} {p2:Pos} (ops:Value->Value->List Value) (he:DE M X e fa) (hs:DE M X st fb) (hsub:∀v u,subscripted (.Slice none none (some st) p2) false v u=operate (ops v u) (getItem v u):=by intro _ _;with_unfolding_all rfl):DE M X (.Subscript e (.Slice none none (some st) p2) pos) (pI fa fb):=λhK hM=>by
 have q:=Gk (pos:=pos) (p2:=p2) (he hK hM) (hs hK hM) hsub;rw [hK]at q;exact peI q λ_ _ _ z=>I0 z
theorem Hz {ρ:Env} {x y z:Int} (h1:fa ρ=.ok (.sh (.int x))) (h2:fb ρ=.ok (.sh (.int y))) (h3:fc ρ=.ok (.sh (.int z))) (hz:z=-1) (s1:aK x=true) (s2:aK y=true):iR3 fa fb fc ρ=.ok (qA x (x-y).toNat):=by
 unfold iR3;rw [h1,h2,h3];subst hz;simp only [c8,ee,s1,s2,Bool.and_self,decide_true,if_true]
theorem tw {lo:Int} {n i:Nat} {d:PyData} (h:(qA lo n)[i]?=some d):i<n/\d=.int (lo-i):=by
 unfold qA at h;rw [Za]at h;obtain ⟨j,hj,rfl⟩:=Zp.mp h;obtain ⟨h1,h2⟩:=Zb.mp hj;have h3:i=j:=by simpa using h2
 subst h3;exact ⟨by simpa using h1,rfl⟩
theorem tM (lo:Int) (n:Nat):(qA lo n).length=n:=by unfold qA;simp
end
section
variable {M:Mx} {n:Nat} {σ:L3.St} {H:Hp} {D:Ends}
end
section
variable {M:Mx} {X:Cx} {e b:Expr} {fa:Fe} {x y:Str} {p p1 p2 p3 pos pos':Pos}
end
noncomputable def keyOf:PyData->Option Key
 |.int i=>some (.inl i)
 |.str x=>some (.inr x)
 |_=>none
theorem tX (k:Key):keyOf (kD k)=some k:=by cases k <;> rfl
noncomputable def oJ (kvs:List (Key×PyData)) (k:Key):Option PyData:=(kvs.find? λkv=>decide (kv.1=k)).map (·.2)
noncomputable def putD (kvs:List (Key×PyData)) (k:Key) (d:PyData):List (Key×PyData) :=
 if (kvs.any λkv=>decide (kv.1=k))=true then kvs.map (λkv=>if kv.1=k then (kv.1,d) else kv) else kvs++[(k,d)]
noncomputable def pY (kvs:List (PyData×PyData)) (k:Key):Option PyData:=(kvs.find? λkv=>decide (keyOf kv.1=some k)).map (·.2)
theorem sj (kvs:List (Key×PyData)) (k:Key):pY (kvs.map λp=>(kD p.1,p.2)) k=oJ kvs k:=by
 unfold pY oJ
 induction kvs with
 |nil=>rfl
 |cons p r ih =>
  rw [Zk,List.find?_cons,List.find?_cons];by_cases h:p.1=k
  ·rw [decide_eq_true h,decide_eq_true (by show keyOf (kD p.1)=some k;rw [tX,h])]
   rfl
  ·rw [decide_eq_false h,decide_eq_false (by show ¬keyOf (kD p.1)=some k;rw [tX];exact λz=>h (Zz z))]
   exact ih
noncomputable def gDx:PyData->PyData->R OD
 |.dict kvs,y=>match keyOf y with
  |some k=>i4 (pY kvs k)
  |none=>.bad
 |_,_=>.bad
theorem KC (kvs:List (Key×PyData)) (i:Int):gDx (dD kvs) (.int i)=i4 (oJ kvs (.inl i)):=by
 show i4 (pY _ _)=_
 rw [sj]
noncomputable def eD1 (a b:Fe):Fe:=fun ρ=>(a ρ).bind λx=>(b ρ).bind λy=>match keyOf x.er with
 |some k=>.ok (.od [(k,y.er)])
 |none=>.bad
noncomputable def sDP (i:Nat) (k a:Fe):Fs:=fun ρ=>match ρ[i]? with
 |some (some (.od kvs))=>(a ρ).bind λy=>(k ρ).bind λz=>match keyOf z.er with
  |some q=>if kvs.length<BIG then .ok (.nx (ρ.set i (some (.od (putD kvs q y.er))))) else .bad
  |none=>.bad
 |_=>.bad
section
variable {K:PySem.W.Frag} {F H:Hp}
theorem sJ:∀{kvs:List (Key×V)} {ds:List (Key×PyData)} {k:Key} {d:PyData},kvs.map (·.1)=ds.map (·.1)->RepAll K F (kvs.map (·.2)) (ds.map (·.2))->oJ ds k=some d->∃v,nQ kvs k=some v/\Rep K F v d
 |[],[],_,_,_,_,e=>by cases e
 |[],_ :: _,_,_,h,_,_=>by cases h
 |_ :: _,[],_,_,h,_,_=>by cases h
 |p :: kvs,q :: ds,k,d,h,r,e=>by
  rw [Zk,Zk]at h r;obtain ⟨h1,h2⟩:=List.cons.inj h;cases r with
  |cons r1 r2 =>
   unfold oJ at e;rw [List.find?_cons]at e;by_cases hq:q.1=k
   ·rw [decide_eq_true hq]at e
    have e':=Zz e;exact ⟨p.2,lP (h1.trans hq),by rw [<-e'];exact r1⟩
   ·rw [decide_eq_false hq]at e
    obtain ⟨v,a,b⟩:=sJ (k:=k) (d:=d) h2 r2 e;exact ⟨v,by rw [l5 (λz=>hq (h1.symm.trans z))];exact a,b⟩
theorem zd {kvs:List (Key×V)} {ds:List (Key×PyData)} (k:Key) (h:kvs.map (·.1)=ds.map (·.1)):(kvs.any λkv=>decide (kv.1=k))=(ds.any λkv=>decide (kv.1=k)):=by
 have e1:(kvs.any λkv=>decide (kv.1=k))=(kvs.map (·.1)).any λx=>decide (x=k):=by rw [List.any_map];rfl
 have e2:(ds.any λkv=>decide (kv.1=k))=(ds.map (·.1)).any λx=>decide (x=k):=by rw [List.any_map];rfl
 rw [e1,e2,h]
theorem tN {k:Key} {v:V} {d:PyData} (hv:Rep K F v d):∀{kvs:List (Key×V)} {ds:List (Key×PyData)},kvs.map (·.1)=ds.map (·.1)->RepAll K F (kvs.map (·.2)) (ds.map (·.2)) ->
  (kvs.map λkv=>if kv.1=k then (kv.1,v) else kv).map (·.1)=(ds.map λkv=>if kv.1=k then (kv.1,d) else kv).map (·.1)/\RepAll K F ((kvs.map λkv=>if kv.1=k then (kv.1,v) else kv).map (·.2)) ((ds.map λkv=>if kv.1=k then (kv.1,d) else kv).map (·.2))
 |[],[],_,_=>⟨rfl,.nil⟩
 |[],_ :: _,h,_=>by cases h
 |_ :: _,[],h,_=>by cases h
 |p :: kvs,q :: ds,h,r=>by
  rw [Zk,Zk]at h r;obtain ⟨h1,h2⟩:=List.cons.inj h;cases r with
  |cons r1 r2 =>
   obtain ⟨a,b⟩:=tN hv h2 r2;rw [Zk,Zk,Zk,Zk,Zk,Zk,a];by_cases hq:q.1=k
   ·rw [if_pos hq,if_pos (h1.trans hq)]
    exact ⟨by rw [h1],.cons hv b⟩
   ·rw [if_neg hq,if_neg (λz=>hq (h1.symm.trans z))]
    exact ⟨by rw [h1],.cons r1 b⟩
theorem yy {kvs:List (Key×V)} {ds:List (Key×PyData)} {k:Key} {v:V} {d:PyData} (hv:Rep K F v d) (h:kvs.map (·.1)=ds.map (·.1)) (r:RepAll K F (kvs.map (·.2)) (ds.map (·.2))) :
  (putK kvs k v).map (·.1)=(putD ds k d).map (·.1)/\RepAll K F ((putK kvs k v).map (·.2)) ((putD ds k d).map (·.2)):=by
 unfold putK putD;rw [zd k h];by_cases ha:(ds.any λkv=>decide (kv.1=k))=true
 ·rw [if_pos ha,if_pos ha]
  exact tN hv h r
 ·rw [if_neg ha,if_neg ha,Zl,Zl,Zl,Zl,h]
  exact ⟨rfl,r.app (.cons hv .nil)⟩
theorem lz {y:V} {d:PyData} {k:Key} (r:Rep K F y d) (e:keyOf d=some k):y=kV k:=by
 cases r with
 |non=>cases e
 |bl _=>cases e
 |int i=>cases e;rfl
 |str x=>cases e;rfl
 |lst _ _=>cases e
 |tup _ _=>cases e
 |dct _ _ _ =>
  have e':(none:Option Key)=some k:=e;cases e'
end
section
variable {M:Mx} {n:Nat} {σ:L3.St} {H:Hp} {D:Ends} {Q:VK} {fa fb:Fe}
noncomputable def JF:R2:=λx y H Q=>∃a v,x=.ref a/\AZ H a y (some v)/\Q v H
theorem Jw:Ok2 M JF gDx:=by
 intro x y dx dy F H fp Q s rx ry p;cases rx with
 |non=>exact p.elim
 |bl _=>exact p.elim
 |int _=>exact p.elim
 |str _=>exact p.elim
 |lst _ _=>exact p.elim
 |tup _ _=>exact p.elim
 |@dct a kvs ds h1 h2 h3 =>
  have p1:aG M H fp (OkE M F H Q) (match keyOf dy with
   |some k=>i4 (pY (ds.map λp=>(kD p.1,p.2)) k)
   |none=>.bad):=p
  cases hk:keyOf dy with
  |none =>
   rw [hk]at p1;exact p1.elim
  |some k =>
   rw [hk]at p1;have p2:aG M H fp (OkE M F H Q) (i4 (pY (ds.map λp=>(kD p.1,p.2)) k)):=p1
   rw [sj]at p2;cases hv:oJ ds k with
   |none =>
    rw [hv]at p2;exact p2.elim
   |some d =>
    rw [hv]at p2;obtain ⟨v,v1,v2⟩:=sJ h2 h3 hv;exact ⟨a,v,rfl,.inl ⟨kvs,k,.inl (s _ _ h1),lz ry hk,v1.symm⟩,OkE.val s p2 v2⟩
theorem Az (h:tD M n (eD1 fa fb) σ H Q):Cz [(tD M n fa,tD M n fb)] σ H Q:=by
 obtain ⟨F,ρ,fp,S,p⟩:=h;intro q hq;have e0:Ext F H F (upd H q (.dK [])):=Ext.alloc S.same hq;refine ⟨F,ρ,fp,S.ext e0,((aG.bind p).ext e0).mono λx px v F1 H1 fx e1 r1 w1=>?_⟩
 obtain ⟨G1,d1,k1⟩:=r1.frz e1 w1;have e01:=e0.trans d1;refine ⟨G1,ρ,fp,(S.ext e0).ext d1,((aG.bind px).ext e01).mono λy py u F2 H2 fy e2 r2 w2=>?_⟩
 obtain ⟨G2,d2,k2⟩:=r2.frz e2 w2;have hq2:H2 q=some (.dK []):=d2.hh _ _ (d1.hh _ _ cA);refine ⟨hq2,?_⟩;cases hk:keyOf x.er with
 |none =>
  rw [hk]at py;exact py.elim
 |some k =>
  rw [hk]at py;have kv:=lz k1 hk;refine ⟨[(k,u)],by rw [kv];rfl,(show 1<=15 by decide),?_⟩
  have em:mS [] [(k,u)]=[(k,u)]:=rfl;rw [em];have py':OkE M F H Q (.od [(k,y.er)]):=py;have d02:=e01.trans d2;have Fq:F q=none:=S.same.free hq;have G2q:G2 q=none:=(d1.trans d2).nw q (cy cA) Fq;refine py' (.ref q) G2 _ [q] ⟨d02.ff,λb o z=>?_,λb o z=>?_,λb z w=>?_⟩ ⟨.od cA rfl (.cons k2 .nil),by simp,λb m=>?_⟩ λb m=>?_
  ·have hb:b≠q:=by
    rintro rfl;rw [hq]at z;cases z
   rw [aM hb];exact d2.hh _ _ (d1.hh _ _ (by rw [aM hb];exact z))
  ·have hb:b≠q:=by
    rintro rfl;rw [G2q]at z;cases z
   rw [aM hb];exact d2.fh _ _ z
  ·have hb:b≠q:=by
    rintro rfl;exact z hq
   exact (d1.trans d2).nw b (by rw [aM hb];exact z) w
  ·have:b=q:=by simpa using m
   rw [this];exact G2q
  ·have:b=q:=by simpa using m
   rw [this];exact hq
theorem Stt.writeD {K:PySem.W.Frag} {F:Hp} {ρ:Env} {fp:List Addr} (S:Stt K n F H σ ρ fp) {i:Nat} {ds:List (Key×PyData)} (hx:ρ[i]?=some (some (.od ds))) :
  ∃a kvs,σ[i]?=some (some (.ref a))/\H a=some (.dK kvs)/\kvs.map (·.1)=ds.map (·.1)/\RepAll K F (kvs.map (·.2)) (ds.map (·.2)) /\
   ∀F1 H1 kvs' ds',Ext F H F1 H1->kvs'.map (·.1)=ds'.map (·.1)->RepAll K F1 (kvs'.map (·.2)) (ds'.map (·.2)) ->
    ∃fp',Stt K n F1 (upd H1 a (.dK kvs')) σ (ρ.set i (some (.od ds'))) fp'/\Stp F H fp F1 (upd H1 a (.dK kvs')) fp':=by
 obtain ⟨v,f0,g1,g2,h1,h2,rfl,h4⟩:=S.own.at hx;cases h2 with
 |@od a kvs _ ha hk hr =>
  have nd:=S.nd;simp only [ZK,Zs,List.cons_append,List.nodup_cons,Zo,List.nil_append]at nd;obtain ⟨n1,⟨na,n2⟩,n5⟩:=nd;refine ⟨a,kvs,h1,ha,hk,hr,λF1 H1 kvs' ds' e q1 q2=>?_⟩
  have fa:F1 a=none:=e.nw a (cy ha) (S.fr a (by simp))
  have own:=h4 F1 (upd H1 a (.dK kvs')) e.ff (λb m o q=>by
   have:b≠a:=by
    rintro rfl;rcases Zs.mp m with m | m
    ·exact n5 b m b (.inl rfl) rfl
    ·exact na m
   rw [aM this];exact e.hh _ _ q) (.ref a) (.od ds') [a] (.od cA q1 q2)
  rw [oR h1]at own;have frs:∀b∈g1++([a]++g2),F1 b=none:=λb m=>let ⟨_,q⟩:=S.own.dom b m;e.nw b (cy q) (S.fr b m)
  refine ⟨g1++([a]++g2),⟨?_,own,S.nd,frs,by rw [ZJ];exact S.len⟩,⟨e.ff,λb o q m=>?_,λb m=>.inl m,λb q m z=>e.nw b q z⟩⟩
  ·intro b o q
   rw [aM (bG q fa)];exact e.fh _ _ q
  ·have hb:b≠a:=by
    rintro rfl;exact m (by simp)
   rw [aM hb];exact e.hh _ _ q
theorem Dm {i:Nat} {k a:Fe} (h:tS M n (sDP i k a) D σ H):BY (og i) (tD M n k) (tD M n a) D σ H:=by
 obtain ⟨F,ρ,fp,S,p⟩:=h;unfold sDP at p;split at p
 ·rename_i ds e
  refine ⟨F,ρ,fp,S,(aG.bind p).mono λy py v F1 H1 fy e1 r1 w1=>?_⟩
  obtain ⟨G1,d1,k1⟩:=r1.frz e1 w1;obtain ⟨l,kvs,h1,h2,h3,h4,wr⟩:=S.writeD e;refine ⟨_,h1,G1,ρ,fp,S.ext d1,((aG.bind py).ext d1).mono λz pz u F2 H2 fz e2 r2 w2=>?_⟩
  obtain ⟨G2,d2,k2⟩:=r2.frz e2 w2;have e12:=d1.trans d2;cases hk:keyOf z.er with
  |none =>
   rw [hk]at pz;exact pz.elim
  |some q =>
   rw [hk]at pz;have pz':aG M H fp (g8 M n F H fp D) (if ds.length<BIG then .ok (.nx (ρ.set i (some (.od (putD ds q y.er))))) else .bad):=pz
   by_cases hl:ds.length<BIG
   ·rw [if_pos hl]at pz'
    have hlen:kvs.length=ds.length:=by
     have:=congrArg List.length h3;rw [Zc,Zc]at this;exact this
    have rp:=yy (k:=q) (k1.same d2.ff) h3 (h4.same e12.ff);obtain ⟨fp',S',st⟩:=wr G2 H2 _ _ e12 rp.1 rp.2;exact ⟨l,_,rfl,.inl ⟨kvs,q,e12.hh _ _ h2,lz k2 hk,by rw [hlen];exact rD hl,rfl⟩,pz' σ G2 _ fp' S' st⟩
   ·rw [if_neg hl]at pz'
    exact pz'.elim
 ·exact p.elim
end
section
variable {M:Mx} {X:Cx} {a b e:Expr} {fa fb:Fe} {x:Str} {p pos pos':Pos}
theorem GV (hu:X.A.units+1<cLine) (ha:DE M X a fa) (hb:DE M X b fb) (hs:Fh b):DE M X (.Subscript a b pos) (eOp gDx fa fb):=λhK hM =>
 peI (Aj hu (ha hK hM) (hb hK hM) hs) λ_ _ _ q=>yM Jw q
theorem HP (ha:DE M X a fa) (hb:DE M X b fb):DE M X (.Dict [some a] [b] pos) (eD1 fa fb):=λhK hM =>
 peI (BF (zW (ha hK hM) (hb hK hM) Av) rfl rfl (by simp) (show 1<=15 by decide)) λ_ _ _ q=>Az q
theorem Al (i:Nat) (hu:X.A.units+1<cLine) (hb:DE M X b fb) (h:DE M X e fa) (hN:X.N[i]?=some x:=by rfl) (hv:Vis X.env.scope x:=by first | exact Or.inl rfl | exact Or.inr (Or.inl rfl) | exact Or.inr (Or.inr rfl)) (hd:(x == ("__debug__" : Str))=false:=by decide) (hcd:(x == ("__classdict__" : Str))=false:=by decide)
  (hs:swapsWith e (some (.Subscript (.Name x p) b pos')) pos.line X.env=pure false:=by rfl):DS M X (.Assign [.Subscript (.Name x p) b pos'] e pos) (sDP i fb fa):=λhK hM =>
 psI (Bx hu (ju hN hv hd hcd) (hb hK hM) (h hK hM) hs) λ_ _ _ q=>Dm q
end
section
variable {ρ:Env} {a b k:Fe}
noncomputable def zg (o:Option (Option OD)) (a k:R OD) (i:Nat) (ρ:Env):R Out:=match o with
 |some (some (.od kvs))=>unK (λy=>unK (λz=>match keyOf z.er with
  |some q=>if kvs.length<BIG then .ok (.nx (ρ.set i (some (.od (putD kvs q y.er))))) else .bad
  |none=>.bad) k) a
 |_=>.bad
theorem Gm (i:Nat):sDP i k a ρ=zg ρ[i]? (a ρ) (k ρ) i ρ:=by
 unfold sDP zg;generalize ρ[i]?=o
 rcases qP (β:=Nat) o with rfl | rfl | ⟨d,rfl⟩ | ⟨xs,rfl⟩ | ⟨xs,rfl⟩ | ⟨xs,rfl⟩
 ·rfl
 ·rfl
 ·rfl
 ·rfl
 ·rfl
 ·cases a ρ <;> cases k ρ <;> rfl
theorem E0 {kvs:List (Key×PyData)} {d:PyData} {z:Int} {i:Nat}:zg (some (some (.od kvs))) (.ok (.sh d)) (.ok (.sh (.int z))) i ρ=if kvs.length<BIG then .ok (.nx (ρ.set i (some (.od (putD kvs (.inl z) d))))) else .bad:=by
 show (match keyOf (OD.sh (PyData.int z)).er with
  |some q=>if kvs.length<BIG then R.ok (Out.nx (ρ.set i (some (.od (putD kvs q (OD.sh d).er))))) else .bad
  |none=>.bad)=_
 rw [ee,ee];rfl
end
theorem z_ {k:Nat} {A:Around} (r:Room k A):A.units+1<cLine:=by have:=r.units;lia
noncomputable def Bc (x:PyData) (lo hi:Option Int):R OD:=match x with
 |.str y=>if y.length<=BIG then .ok (.sh (.str (Txt.slice y lo hi))) else .bad
 |_=>.bad
noncomputable def GW:V->Option Int->Option Int->Hp->VK->Prop:=λx lo hi H Q=>∃y,x=.str y/\y.length<=sizeLine/\Q (.str (Txt.slice y lo hi)) H
section
variable {X:Cx} {M:Mx}
theorem part_of {v:Value} {o:Option Int} (h:IsPart v o):∃l:Option (Int×Tok),v=partValue l/\l.map (·.1)=o:=by
 cases h with
 |none=>exact ⟨none,rfl,rfl⟩
 |int i t=>exact ⟨some (i,t),rfl,rfl⟩
theorem Dl:SlR X GW:=by
 intro pins s σ H x v vl vu lo hi sl Q I rx hs pl pu h;obtain ⟨y,rfl,hy,q⟩:=h;obtain ⟨t,rfl⟩:=rx;obtain ⟨l,rfl,rfl⟩:=part_of pl;obtain ⟨u,rfl,rfl⟩:=part_of pu;refine ⟨"str",_,PySem.F.slot_str_getitem.lookup,typeIs_str _ _ _,wpAny_getItem_str_slice (l:=l) (u:=u) (st:=none) hs rfl (post_val_or_str ⟨ZG (Txt.slice_le y _ _) hy,λt' k=>?_⟩)⟩
 exact ⟨.str _,H,I.tok k,⟨t',rfl⟩,q⟩
theorem Ed (hK:X.K=M.K):OkS M GW Bc:=by
 intro x lo hi dx F H fp Q s rx p;unfold Bc at p;split at p
 ·cases rx
  split at p
  ·rename_i hl
   exact ⟨_,rfl,jq hl,OkE.val s p (.str _)⟩
  ·exact p.elim
 ·exact p.elim
theorem Jk (y:Str) (lo hi:Option Int):Bc (.str y) lo hi=if y.length<=BIG then .ok (.sh (.str (Txt.slice y lo hi))) else .bad:=rfl
end
section
variable {X:Cx} {M:Mx}
end
noncomputable def signs (x:Str):List PyData:=x.cps.toList.map λc=>PyData.str ⟨#[c]⟩
noncomputable def dfl (f:Fn) (dv:List PyData):Fn:=λds=>f (ds++dv)
section
variable {M:Mx} {n:Nat} {σ:L2.St} {H:Hp} {Q:VK} {al ak:Fa}
theorem A0 {f:Fn} {dv:List PyData} {dvs:List V} (hd:∀F:Hp,RepAll M.K F dvs dv) (h:tD M n (aL (dfl f dv) al) σ H Q):yI (sp3 M.K M.mg f) dvs M.E (tA M n al) σ H Q:=by
 obtain ⟨F,ρ,fp,S,p⟩:=h;refine ⟨F,ρ,fp,S,(aG.bind p).mono λxs px vs F1 H1 fx e1 r1 w1=>?_⟩
 obtain ⟨G1,d1,k1⟩:=r1.frz e1 w1;exact ⟨G1,xs.map OD.er++dv,d1.fh,k1.app (hd G1),(px.ext d1).nofp.mono λz hz=>hz.pre d1⟩
noncomputable def gK {α:Type} (m j:Nat) (us ws:List α):List α:=if us.length=m/\ws.length=j then us++ws else []
end
section
variable {M:Mx} {X:Cx} {e:Expr} {es:List Expr} {pos kpos:Pos} {fa:Fe} {al ak:Fa} {kws:List Keyword} {nm:Option Str}
theorem r_ {CX:CXT} {k:Nat} {f:Addr} {fd:FuncData} {ps:List Str} {x:Str} {p:Pos} {fn:Fn} {dv:List PyData} {dvs:List V} (F:FnOk X.prog X.w M.K M.mg X.base CX k f fd ps (sp3 M.K M.mg fn)) (hr:Room k X.A) (hg:Gl X x) (hm:M.mg x=some (.ref f)) (hk:PySem.W.keepIn M.K (.ref f)=true)
  (hb:∃ds,Binds M.K fd ps ds/\Vals dvs ds) (hd:∀F:Hp,RepAll M.K F dvs dv) (hx:Passes CX X M.E) (ha:DA M X (e :: es) al)
  (hdb:(x == ("__debug__" : Str))=false:=by decide) (he:starEach (e :: es) X.env=(false,eval e X.env) :: starEach es X.env:=by rfl) (hpl:(backTo pos (starEach es X.env)).any (·.1)=false:=by rfl) :
  DE M X (.Call (.Name x p) (e :: es) [] pos) (aL (dfl fn dv) al):=λhK hM=>by
 have F':FnOk X.prog X.w X.K X.mg X.base CX k f fd ps (sp3 M.K M.mg fn):=by
  rw [hK,hM];exact F
 obtain ⟨ds,hb,hv⟩:=hb;exact peI (vP F' hr hg (by rw [hM];exact hm) (by rw [hK];exact hk) (by rw [hK];exact hb) hv hx (ha hK hM) hdb he hpl) λ_ _ _ q=>A0 hd q
end
theorem AS {m j:Nat} {vs:List V} {us:List Value} {zs:List V} {ws:List Value} (a:Vals vs us) (b:Vals zs ws):Vals (gK m j vs zs) (gK m j us ws):=by
 unfold gK;rw [a.length,b.length];split
 ·exact a.append b
 ·exact .nil
structure FunD (K:PySem.W.Frag) (x qual:Str) (st:Stmt) (f:Addr) (fd:FuncData):Prop where
 ex:∃(oc:Value) (od:Option Addr) (dV kV doc pm:Value) (an:Option Addr) (cdv ct:Value) (osl:Array (Option Value)),
  fd=PySem.W.fnOf x qual (aJ st) (aI st) (aj st) dV kV doc pm an cdv ct/\K.lookup f=some ⟨oc,od,.func fd,osl⟩/\PySem.W.codeIn K cdv qual=true
 kp:PySem.W.keepIn K (.ref f)=true
theorem Bj {K:PySem.W.Frag} {x qual:Str} {st:Stmt} {f:Addr} {oc:Value} {od an:Option Addr} {osl:Array (Option Value)} {dV kV doc pm cdv ct:Value} (l:K.lookup f=some ⟨oc,od,.func (PySem.W.fnOf x qual (aJ st) (aI st) (aj st) dV kV doc pm an cdv ct),osl⟩)
  (c:PySem.W.codeIn K cdv qual=true) (k:PySem.W.keepIn K (.ref f)=true):FunD K x qual st f (PySem.W.fnOf x qual (aJ st) (aI st) (aj st) dV kV doc pm an cdv ct):=⟨⟨oc,od,dV,kV,doc,pm,an,cdv,ct,osl,rfl,l,c⟩,k⟩
theorem FunD.ok {P:Program} {w:World} {K:PySem.W.Frag} {mg:Str->Option Value} {base:Heap} {x qual:Str} {st:Stmt} {f:Addr} {fd:FuncData} {N ps:List Str} {k:Nat} {sp:Sp} (F:FunD K x qual st f fd) (S:FnScope N ps (aj st)) (len:∀vs H Q E,sp vs H Q E->vs.length=ps.length)
  (hbody:∀(cdv:Value) (A:Around) (outer:List PySem.Env) (s:Shared) (H:Hp) (vs:List V) (Q:VK) (E:XK),Room k (A.deeper (envOfC qual (aj st) s.heap.objs.size f cdv))->sp vs H Q E ->
   ∃t,PSs (pq CX0 P w K mg base N qual (aj st) f cdv A outer s H E).nox (aI st) t/\t { nx:=λ_ H'=>Q .non H',rt:=Q } (start N vs) H):FnOk P w K mg base CX0 (k+1) f fd ps sp:=by
 obtain ⟨oc,od,dV,kV,doc,pm,an,cdv,ct,osl,rfl,lk,hcd⟩:=F.ex;refine BP lk hcd S len λA outer s H vs Q E hr hsp=>?_
 obtain ⟨t,h,q⟩:=hbody cdv A outer s H vs Q E hr hsp;exact ⟨t,h.nox,q⟩
theorem Kq {P:Program} {w:World} {K:PySem.W.Frag} {mg:Str->Option Value} {base:Heap} {x qual:Str} {st:Stmt} {f:Addr} {fd:FuncData} {N ps:List Str} {k np n:Nat} {body:Fs} {fn:Fn} (hf:fn=cq np n body) (hp:ps.length=np) (hn:N.length=n) (F:FunD K x qual st f fd) (S:FnScope N ps (aj st))
  (h:∀(cdv:Value) (A:Around) (outer:List PySem.Env) (s:Shared) (H:Hp) (E:XK),Room k (A.deeper (envOfC qual (aj st) s.heap.objs.size f cdv))->DSs ⟨K,mg,E⟩ (pq CX0 P w K mg base N qual (aj st) f cdv A outer s H E).nox (aI st) body) :
  FnOk P w K mg base CX0 (k+1) f fd ps (sp3 K mg fn):=by
 subst hf hp hn;have hpl:ps.length<=N.length:=by
  have:=congrArg List.length S.pre;rw [ZE]at this
  lia
 have hlen:∀vs H Q E,sp3 K mg (cq ps.length N.length body) vs H Q E->vs.length=ps.length:=by
  rintro vs H Q E ⟨F,ds,sm,ra,p⟩;by_cases hl:ds.length=ps.length
  ·rw [RepAll.len ra]
   exact hl
  ·unfold cq at p
   rw [if_neg hl]at p;exact p.elim
 refine F.ok S hlen λcdv A outer s H vs Q E hr hs=>?_
 have hvl:=hlen _ _ _ _ hs;obtain ⟨F0,ds,sm,ra,p⟩:=hs;have hdl:ds.length=ps.length:=by rw [<-RepAll.len ra];exact hvl
 unfold cq at p;rw [if_pos hdl]at p;refine ⟨_,h cdv A outer s H E hr rfl rfl,F0,m_ N.length ds,[],⟨sm,?_,List.nodup_nil,(λ_ m=>by cases m),?_⟩,(aG.bind p).mono λo po=>?_⟩
 ·unfold L2.start m_
  rw [hvl,hdl];exact mM _ ra
 ·unfold m_
  show _=N.length
  rw [Zd,Zc,List.length_replicate,hdl]
  lia
 ·cases o with
  |nx ρ=>exact fun σ' F' H' fp' S' st=>po .non F' H' [] ⟨st.ff,λa o q=>st.keep a o q (by simp),S'.same,λa q z=>st.nw a q (by simp) z⟩ (Res.sh .non) λ_ m=>by cases m
  |rt y=>exact λv F' H' fx sm' r st=>po v F' H' fx ⟨st.ff,λa o q=>st.keep a o q (by simp),sm',λa q z=>st.nw a q (by simp) z⟩ r λa m=>(st.new a m).elim (λz=>by cases z) id
  |bk ρ=>exact po.elim
  |ct ρ=>exact po.elim
structure DefD (K:PySem.W.Frag) (mg:Str->Option Value) (x:Str) (st:Stmt) (ps ks:List Str) (m:Nat) (dvs:List V) (f:Addr) (fd:FuncData):Prop where
 F:FunD K x x st f fd
 g:mg x=some (.ref f)
 b:Binds K fd ps []
 d:∃ds,Binds K fd ps ds/\Vals dvs ds
 k:KBinds K fd ps ks (gK m dvs.length) (gK m dvs.length)
theorem IU {K:PySem.W.Frag} {fd:FuncData} {ps ks:List Str} {m j:Nat} (hne:0<ps.length) (h:∀(s:Shared) (us ws:List Value),K.In s.heap->us.length=m->ws.length=j->BindsTo s fd ⟨us,ks.zip ws⟩ (ps.zip (us++ws))):KBinds K fd ps ks (gK m j) (gK m j) :=
 ⟨λs us ws hK hl=>by
  unfold gK at hl ⊢;by_cases q:us.length=m/\ws.length=j
  ·rw [if_pos q]
   exact h s us ws hK q.1 q.2
  ·rw [if_neg q]at hl
   rw [<-hl]at hne;exact absurd hne (by simp),AS⟩
theorem sI {K:PySem.W.Frag} {fd:FuncData} {ps:List Str} {m:Nat} {ds:List Value} (hl:m+ds.length=ps.length) (h:∀(s:Shared) (us:List Value),K.In s.heap->us.length=m->BindsTo s fd ⟨us,[]⟩ (ps.zip (us++ds))):Binds K fd ps ds :=
 λs us hK q=>h s us hK (by rw [Zd]at q;lia)
theorem B0 {K:PySem.W.Frag} (b:Bool) (F:Hp):RepAll K F [.bl b] [.bool b]:=.cons (.bl b) .nil
theorem vn {f:Fn} {dv ds:List PyData}:dfl f dv ds=f (ds++dv):=rfl
section
variable {M:Mx} {n:Nat} {σ:L2.St} {H:Hp} {D:Ends}
end
section
variable {M:Mx} {X:Cx} {e b:Expr} {x:Str} {p ap cp pos:Pos} {fa fb:Fe}
end
section
variable {ρ:Env} {k a:Fe}
end
section
variable {M:Mx} {n:Nat} {σ:L2.St} {H:Hp} {D:Ends}
end
section
variable {M:Mx} {X:Cx} {sc scope:Scope} {p p1 p2 p3 p4 p5 pos spos:Pos} {x y z b:Str}
end
end L3
namespace L3
open PySem L2
end L3
namespace L2
open PySem PySem.Spec PyProof.Rows
noncomputable def sW (scope:Scope) (cl:List (Str×Addr)) (C:Addr) (env:Env):Env:=compEnvC scope (cellsFrom (C+1) scope.names cl) C env
theorem ly:∀(names:List (Str×NameKind)) (n:Nat) (acc:List (Str×Addr)) {x:Str} {c:Addr},(x,c)∈cellsFrom n names acc->(x,c)∈acc\/(n<=c/\(x,NameKind.cell)∈names)
 |[],n,acc,x,c,h=>.inl h
 | (y,k) :: r,n,acc,x,c,h=>by
  unfold cellsFrom at h;split at h
  ·rename_i hk
   have hk':k=.cell:=by simpa using hk
   rcases ly r (n+1) _ h with h | ⟨h1,h2⟩
   ·rcases Zo.mp h with e | h
    ·cases e
     exact .inr ⟨Zn _,by rw [<-hk'];exact Zf⟩
    ·exact .inl h
   ·exact .inr ⟨by lia,Ze _ h2⟩
  ·rcases ly r n _ h with h | ⟨h1,h2⟩
   ·exact .inl h
   ·exact .inr ⟨h1,Ze _ h2⟩
theorem gU:∀(names:List (Str×NameKind)) (n:Nat) (acc:List (Str×Addr)) {x:Str} {c:Addr},(cellsFrom n names acc).lookup x=some c->acc.lookup x=some c\/(n<=c/\(x,NameKind.cell)∈names)
 |[],n,acc,x,c,h=>.inl h
 | (y,k) :: r,n,acc,x,c,h=>by
  unfold cellsFrom at h;split at h
  ·rename_i hk
   have hk':k=.cell:=by simpa using hk
   rcases gU r (n+1) _ h with h | ⟨h1,h2⟩
   ·rw [List.lookup_cons]at h
    cases hx:x == y with
    |true =>
     rw [hx]at h;cases h;have:x=y:=by simpa using hx
     exact .inr ⟨Zn _,by rw [<-hk',this];exact Zf⟩
    |false =>
     rw [hx]at h;exact .inl h
   ·exact .inr ⟨by lia,Ze _ h2⟩
  ·rcases gU r n _ h with h | ⟨h1,h2⟩
   ·exact .inl h
   ·exact .inr ⟨h1,Ze _ h2⟩
theorem jA:∀(names:List (Str×NameKind)) (n:Nat) (acc:List (Str×Addr)) {x:Str},(x,NameKind.cell)∉names->(cellsFrom n names acc).lookup x=acc.lookup x
 |[],n,acc,x,h=>rfl
 | (y,k) :: r,n,acc,x,h=>by
  unfold cellsFrom;split
  ·rename_i hk
   have hk':k=.cell:=by simpa using hk
   rw [jA r (n+1) _ λz=>h (Ze _ z),List.lookup_cons]
   have:(x == y)=false:=by
    cases hx:x == y with
    |false=>rfl
    |true =>
     have e:x=y:=by simpa using hx
     exact absurd (by rw [e,<-hk'];exact Zf) h
   rw [this]
  ·exact jA r n _ λz=>h (Ze _ z)
theorem jy:∀(names:List (Str×NameKind)) (h:Heap) (acc:List (Str×Addr)) {x:Str} {c:Addr},(cellsFrom h.objs.size names acc).lookup x=some c->acc.lookup x=some c\/(pushCells h names).IsCell c none
 |[],h,acc,x,c,e=>.inl e
 | (y,k) :: r,h,acc,x,c,e=>by
  unfold cellsFrom at e;unfold pushCells;split at e
  ·rename_i hk
   rw [if_pos hk];have sz:(h.push { cls:=.type "cell",data:=.cell none }).objs.size=h.objs.size+1:=Heap.size_push ..;rw [<-sz]at e;rcases jy r (h.push { cls:=.type "cell",data:=.cell none }) _ e with q | q
   ·rw [List.lookup_cons]at q
    cases hx:x == y with
    |true =>
     rw [hx]at q;cases q;exact .inr ⟨_,pushCells_keeps _ _ _ _ (Heap.get?_push_size _ rfl),rfl⟩
    |false =>
     rw [hx]at q;exact .inl q
   ·exact .inr q
  ·rename_i hk
   rw [if_neg hk];exact jy r h _ e
theorem so {M:Model} {A:Around} {E:Value->Shared->Prop} {s:Shared} {scope:Scope} {globals:Addr} {closure:List (Str×Addr)} {qual:Str} {outer:Env} {Q:Env->Shared->Prop}
  (h:∀h1:Heap,(∀b o,s.heap.get? b=some o->h1.get? b=some o)->h1.Ns s.heap.objs.size (λ_=>none)->h1=pushCells (s.heap.push { cls:=.type "dict",data:=.dict #[] }) scope.names ->
   Q { scope:=scope,locals:=s.heap.objs.size,globals:=globals,cells:=cellsFrom (s.heap.objs.size+1) scope.names closure,qual:=qual,func:=none,code:=outer.code,frame:=outer.frame,builtins:=outer.builtins } { s with heap:=h1 }) :
  wpAny M A (newFunctionEnv scope globals closure [] qual none .none (some outer)) Q E s:=by
 simp only [newFunctionEnv,Option.isSome_some,if_true];refine wpAny_bind (wpAny_alloc ?_);refine wpAny_bind (wpAny_layCells _ (λname kind cells=>by cases hkc:kind == NameKind.cell <;> simp [hkc]) _ _ _ _ ?_)
 rw [show ({ s with heap:=s.heap.push { cls:=.type "dict",data:=.dict #[] } }:Shared).heap.objs.size=s.heap.objs.size+1 from Heap.size_push ..]
 refine wpAny_bind ?_;rw [List.forIn_nil];refine wpAny_pure (wpAny_pure (h _ (λb o e=>pushCells_keeps _ _ b o (Heap.get?_push_of_some _ e)) ((Heap.Ns.new s.heap (.type "dict")).keeps (pushCells_keeps _ _)) rfl))
theorem jr:∀(names:List (Str×NameKind)) (n:Nat) (acc:List (Str×Addr)),(∀x c,acc.lookup x=some c->@LT.lt Nat instLTNat c n)->(∀x y c,acc.lookup x=some c->acc.lookup y=some c->x=y)->∀x y c,(cellsFrom n names acc).lookup x=some c->(cellsFrom n names acc).lookup y=some c->x=y
 |[],n,acc,_,hi,x,y,c,h1,h2=>hi x y c h1 h2
 | (z,k) :: r,n,acc,hb,hi,x,y,c,h1,h2=>by
  unfold cellsFrom at h1 h2;split at h1
  ·rename_i hk
   rw [if_pos hk]at h2;have look:∀x c,((z,n) :: acc).lookup x=some c->(x=z/\c=n)\/acc.lookup x=some c:=λx c h=>by
    rw [List.lookup_cons]at h;cases hx:x == z with
    |true =>
     rw [hx]at h;exact .inl ⟨by simpa using hx,(Zz h).symm⟩
    |false =>
     rw [hx]at h;exact .inr h
   refine jr r (n+1) ((z,n) :: acc) (λx c h=>?_) (λx y c h1 h2=>?_) x y c h1 h2
   ·rcases look x c h with ⟨_,e⟩ | h
    ·rw [e]
     exact Nat.lt_succ_self n
    ·exact Nat.lt_succ_of_lt (hb x c h)
   ·rcases look x c h1 with ⟨e1,f1⟩ | h1
    ·rcases look y c h2 with ⟨e2,f2⟩ | h2
     ·rw [e1,e2]
     ·rw [f1]at h2
      exact absurd (hb y n h2) (Nat.lt_irrefl _)
    ·rcases look y c h2 with ⟨e2,f2⟩ | h2
     ·rw [f2]at h1
      exact absurd (hb x n h1) (Nat.lt_irrefl _)
     ·exact hi x y c h1 h2
  ·rename_i hk
   rw [if_neg hk]at h2;exact jr r n acc hb hi x y c h1 h2
theorem mF {env:Env} {x:Str} {c:Addr}:∀(l:List (Str×NameKind)) (cs:List (Str×Addr)),(frees env l cs).lookup x=some c->cs.lookup x=some c\/(x,NameKind.free)∈l
 |[],cs,h=>.inl h
 | (n,k) :: r,cs,h=>by
  unfold frees at h;split at h
  ·rename_i hk
   have hk':k=.free:=by simpa using hk
   rcases mF r _ h with h | h
   ·rw [List.lookup_cons]at h
    cases hx:x == n with
    |true =>
     have:x=n:=by simpa using hx
     exact .inr (by rw [this,<-hk'];exact Zf)
    |false =>
     rw [hx]at h;exact .inl h
   ·exact .inr (Ze _ h)
  ·rcases mF r _ h with h | h
   ·exact .inl h
   ·exact .inr (Ze _ h)
noncomputable def qM (scope:Scope) (x:Str):Bool:=scope.names.any λp=>p.1 == x && p.2 == NameKind.cell
theorem tq {scope:Scope} {x:Str} (h:qM scope x=true):(x,NameKind.cell)∈scope.names:=by
 unfold qM at h;rw [List.any_eq_true]at h;obtain ⟨⟨y,k⟩,hm,e⟩:=h;rw [Zv]at e;have e1:y=x:=by simpa using e.1
 have e2:k=.cell:=by simpa using e.2
 rw [e1,e2]at hm;exact hm
noncomputable def cxK (X:Cx) (N:List Str) (scope:Scope) (s:Shared) (H:Hp) (C:Addr) (ex:List Addr) (pins:List (Addr×Obj)):Cx :=
 { X with N:=N,s₀:=s,H₀:=H,env:=sW scope (frees X.env scope.names []) C X.env,outer:=X.stack,ex:=ex,fn:=qM scope,pn:=X.pn++pins,xe:=λ_ _=>False }
structure BlkK (X:Cx) (sc scope:Scope) (outs:List (Nat×Str)):Prop where
 hsc:X.env.scope=sc
 kind:scope.kind=.function
 loc:∀x∈scope.names,x.2=.local->scope.names.lookup x.1=some .local
 own:∀x∈scope.names,x.2=.cell->scope.names.lookup x.1=some .cell
 ap:∀x∈scope.names,x.2=.free->(x.1,NameKind.cell)∉scope.names
 fr:∀x∈scope.names,x.2=.free->sc.names.lookup x.1=some .cell\/sc.names.lookup x.1=some .free
 out:jw X scope outs
section
variable {X:Cx} {sc scope:Scope} {own:List Str} {outs:List (Nat×Str)} {elt tg iter:Expr} {ifs:List Expr} {pos:Pos} {g:TG} {tc:TT} {te:TE}
theorem qb (B:BlkK X sc scope outs) {pins:List (Addr×Obj)} {σ:St} {H:Hp} {s:Shared} (I:Inv X pins σ H s):∀x∈scope.names,x.2=.free->∃c,X.env.cells.lookup x.1=some c:=λx hx hf=>by
 refine I.ok.has x.1 ?_;show X.env.scope.names.lookup x.1=_\/X.env.scope.names.lookup x.1=_
 rw [B.hsc];exact B.fr x hx hf
theorem zk (B:BlkK X sc scope outs) {pins:List (Addr×Obj)} {σ:St} {H:Hp} {s:Shared} {fp:List Addr} (I:Inv X pins σ H s) (f2:∀b∈fp,lj X pins H b) (fo:∀b∈fp,∃o,s.heap.get? b=some o)
  {h1:Heap} {m:Str->Option Value} {tk:Nat} (hn:h1.Ns (s.heap.objs.size+1) m) (old:∀b o,s.heap.get? b=some o->h1.get? b=some o)
  (hD:h1.get? s.heap.objs.size=some { cls:=.type "list",data:=.seq #[] 0 })
  (hcl:∀x c,(cellsFrom (s.heap.objs.size+1+1) scope.names (frees X.env scope.names [])).lookup x=some c->(frees X.env scope.names []).lookup x=some c\/h1.IsCell c none) :
  Inv (cxK X (own++outs.map (·.2)) scope s H (s.heap.objs.size+1) fp pins) [] (slots own.length outs σ) (upd H s.heap.objs.size (.lst [])) { s with heap:=h1,toks:=tk }:=by
 have bf:=qb B I;have sub:∀x c,(frees X.env scope.names []).lookup x=some c->X.env.cells.lookup x=some c:=λx c e=>k5 _ _ bf (λc' e'=>by simp at e') e
 have clt:∀x c,X.env.cells.lookup x=some c->c<s.heap.objs.size:=λx c e=>(let ⟨v,q⟩:=I.cell x c e;q.lt)
 have flo:∀x c,(frees X.env scope.names []).lookup x=some c->(x,NameKind.cell)∉scope.names:=λx c e=>by
  rcases mF _ _ e with q | q
  ·simp at q
  ·exact B.ap _ q rfl
 have K1:∀x c,(cellsFrom (s.heap.objs.size+1+1) scope.names (frees X.env scope.names [])).lookup x=some c->X.env.cells.lookup x=some c\/(s.heap.objs.size+2<=c/\h1.IsCell c none):=λx c e=>by
  rcases gU _ _ _ e with q | ⟨q1,q2⟩
  ·exact .inl (sub x c q)
  ·rcases hcl x c e with z | z
   ·exact absurd q2 (flo x c z)
   ·exact .inr ⟨q1,z⟩
 have K2:∀x c,(frees X.env scope.names []).lookup x=some c->(cellsFrom (s.heap.objs.size+1+1) scope.names (frees X.env scope.names [])).lookup x=some c:=λx c e=>by rw [jA _ _ _ (flo x c e)];exact e
 have flt:∀b∈fp,b<s.heap.objs.size:=λb hb=>(let ⟨o,e⟩:=fo b hb;Heap.lt_size e)
 have un:Un (cxK X (own++outs.map (·.2)) scope s H (s.heap.objs.size+1) fp pins).fs (cxK X (own++outs.map (·.2)) scope s H (s.heap.objs.size+1) fp pins).ex H (upd H s.heap.objs.size (.lst [])) s.heap h1:=Un.laid old (Zn _) I.fresh;have hok:HOk X.prog X.w (upd H s.heap.objs.size (.lst [])) h1:=I.hok.laid old (Zn _) ⟨Nat.zero_le _,[],0,.nil,hD⟩;refine ⟨⟨I.ok.mod,B.kind,I.ok.glob,I.ok.blt,Nat.le_succ _,λx y c e1 e2=>jr _ _ _ (λx c e=>ZI (clt x c (sub x c e)) (ZG (Nat.le_succ _) (Nat.le_succ _))) (λx y c e1 e2=>I.ok.inj x y c (sub x c e1) (sub y c e2)) x y c e1 e2,λx hx=>?_,λx c hf hq=>?_,I.ok.hd,I.ok.frames,.inl rfl,λb hb=>⟨?_,λx c e=>?_⟩,I.bs,?_,λb o e hb=>?_,λb hb z=>?_,I.stack,I.stkFree⟩,
  rfl,I.bare,un,⟨m,hn,λi x v e1 e2 e3=>?_⟩,λx c e=>?_,?_,λx c e=>?_,λp hp=>?_,hok,?_⟩
 ·have go:∃k,scope.names.lookup x=some k/\(k=.free\/k=.cell):=by
   rcases hx with hx | hx
   ·obtain ⟨k,e,hk⟩:=p_ (show ((scope.names.map _).lookup x=some .cell) from hx)
    rcases hk with hk | hk
    ·exact ⟨k,e,.inr hk.symm⟩
    ·exact ⟨k,e,.inl hk.1⟩
   ·obtain ⟨k,e,hk⟩:=p_ (show ((scope.names.map _).lookup x=some .free) from hx)
    rcases hk with hk | hk
    ·exact ⟨k,e,.inl hk.symm⟩
    ·exact ⟨k,e,.inl hk.1⟩
  obtain ⟨k,e,hk⟩:=go;rcases hk with rfl | rfl
  ·obtain ⟨c,hc⟩:=iT (env:=X.env) (x:=x) scope.names [] (.inl (eG e))
   exact ⟨c,K2 x c hc⟩
  ·exact Option.isSome_iff_exists.mp (PySem.W.cellsFrom_some scope.names _ _ (.inl e))
 ·rcases gU _ _ _ hq with q | ⟨q1,_⟩
  ·exact absurd (tq hf) (flo x c q)
  ·exact ZG (ZG (Nat.le_succ _) (Nat.le_succ _)) q1
 ·exact Nat.ne_of_lt (Nat.lt_succ_of_lt (flt b hb))
 ·rcases K1 x c e with q | ⟨q1,_⟩
  ·exact (f2 b hb).2.2.2.2.1 x c q
  ·exact λz=>absurd (flt b hb) (Nat.not_lt.mpr (by rw [<-z];exact ZG (ZG (Nat.le_succ _) (Nat.le_succ _)) q1))
 ·exact ZG I.ok.bsz I.sz
 ·rcases (f2 b hb).2.2.2.1 with z | z
  ·exact I.ok.noex b o e z
  ·exact absurd (ZI (Heap.lt_size e) (ZG I.ok.bsz z)) (Nat.lt_irrefl _)
 ·rcases Zo.mp (I.stkSub b z) with q | q
  ·exact (f2 b hb).2.1 q
  ·exact (f2 b hb).2.2.1 q
 ·
  have hi:own.length<=i:=by
   by_cases hi:own.length<=i
   ·exact hi
   ·have e2':(slots own.length outs σ)[i]?=some (some v):=e2
    unfold slots at e2';rw [List.getElem?_append_left (by simpa using Nat.lt_of_not_le hi),List.getElem?_replicate]at e2'
    split at e2' <;> cases e2'
  have e1':(own++outs.map (·.2))[i]?=some x:=e1;have e2':(slots own.length outs σ)[i]?=some (some v):=e2;unfold slots at e2';rw [List.getElem?_append_right hi,Za]at e1';rw [List.getElem?_append_right (by simpa using hi),List.length_replicate,Za]at e2'
  cases ep:outs[i-own.length]? with
  |none =>
   rw [ep]at e1';cases e1'
  |some p =>
   rw [ep]at e1' e2';have ex:p.2=x:=Zz e1';have ev:(σ[p.1]?).join=some v:=Zz e2';obtain ⟨o1,o2⟩:=B.out.get ep;have es:σ[p.1]?=some (some v):=by
    cases q:σ[p.1]? with
    |none =>
     rw [q]at ev;cases ev
    |some w =>
     rw [q]at ev;have ew:w=some v:=ev;rw [ew]
   rw [ex]at o1 o2;have hk:X.env.scope.names.lookup x=some .cell\/X.env.scope.names.lookup x=some .free:=by
    rw [B.hsc];exact B.fr (x,.free) (eG o2) rfl
   obtain ⟨m0,hn0,hl0⟩:=I.loc;obtain ⟨u,r,l⟩:=hl0 p.1 x v o1 es (hk.elim (λz=>.inr (.inl z)) λz=>.inr (.inr z))
   refine ⟨u,r,.inr ?_⟩;rcases l with ⟨hl,_⟩ | ⟨_,c,ec,hc⟩
   ·have hl':X.env.scope.names.lookup x=some .local:=hl
    rcases hk with z | z <;> (rw [z]at hl';cases hl')
   ·obtain ⟨c',ec'⟩:=iT (env:=X.env) (x:=x) scope.names [] (.inl (eG o2))
    have e3:=sub x c' ec';rw [ec]at e3;cases e3;obtain ⟨oc,q1,q2⟩:=hc;exact ⟨iX o2,c,K2 x c ec',⟨oc,old _ _ q1,q2⟩⟩
 ·rcases K1 x c e with q | ⟨_,q⟩
  ·obtain ⟨v,oc,q1,q2⟩:=I.cell x c q
   exact ⟨v,oc,old _ _ q1,q2⟩
  ·exact ⟨_,q⟩
 ·show upd H s.heap.objs.size (.lst []) (s.heap.objs.size+1)=none
  rw [aM (Nat.succ_ne_self _)];exact I.hok.fresh (Nat.le_succ _)
 ·rcases K1 x c e with q | ⟨q1,_⟩
  ·rw [aM (Nat.ne_of_lt (clt x c q))]
   exact I.freeC x c q
  ·have hge:@LE.le Nat instLENat s.heap.objs.size c:=ZG (ZG (Nat.le_succ _) (Nat.le_succ _)) q1
   rw [aM (λz=>by rw [z]at q1;exact absurd q1 (Nat.not_le.mpr (Nat.lt_trans (Nat.lt_succ_self _) (Nat.lt_succ_self _))))]
   exact I.hok.fresh hge
 ·have hp':p∈X.pn++pins:=by
   have:p∈(X.pn++pins)++[]:=hp
   simpa using this
  obtain ⟨q1,q2,q3,q4,q5⟩:=I.pin p hp';refine ⟨old _ _ q1,?_,Nat.ne_of_lt (Nat.lt_succ_of_lt (Heap.lt_size q1)),λz=>?_,q5⟩
  ·rw [aM (Nat.ne_of_lt (Heap.lt_size q1))]
   exact q2
  ·rcases Zo.mp (I.stkSub p.1 z) with q | q
   ·exact q3 q
   ·exact q4 q
 ·show (slots own.length outs σ).length=(own++outs.map (·.2)).length
  unfold slots;simp
theorem yk (B:BlkK X sc scope outs) (hcalm:X.calm=true)
  (hg:∀s H C ex pins,PG (cxK X (own++outs.map (·.2)) scope s H C ex pins) tg g) (hc:∀s H C ex pins,PF (cxK X (own++outs.map (·.2)) scope s H C ex pins) ifs tc) (he:∀s H C ex pins,PE (cxK X (own++outs.map (·.2)) scope s H C ex pins) elt te)
  {pins:List (Addr×Obj)} {σ:St} {H:Hp} {s:Shared} {it:Addr} {fp:List Addr} {tn:Nat->Heap->Prop} {J:It} (I:Inv X pins σ H s) (T:Turn X.prog X.w X.K tg J fp it tn) (st:tn 0 s.heap) (f2:∀b∈fp,lj X pins H b)
  {R0:Addr->Hp->Prop} (hW:∀D,H D=none->Dq J g tc te (slots own.length outs σ) D H (R0 D)) {RR:Value->Addr->Result->Shared->Prop} {E:Value->Shared->Prop}
  (fin:∀D C H' s' m,Inv X pins σ H' s'->lj X pins H' C->s'.heap.Ns C m->R0 D H'->RR (.ref D) C (.ok .next) s') :
  wpAny (model X.prog X.w) X.A (newList []) (λacc s3=>wpAny (model X.prog X.w) X.A (newFunctionEnv scope X.env.globals (frees X.env scope.names []) [] X.env.qual none .none (some X.env)) (λcenv s4 =>
   codeAny (model X.prog X.w) X.A (.compStart (.ListComp elt [⟨tg,iter,ifs,0⟩] scope pos) 0 (.ref it) acc { cenv with scope:=relabel scope X.env }) (RR acc cenv.locals) s4) E s3) E s:=by
 refine wpAny_newObj_type (so λh1 hs1 hn1 hp1=>?_)
 dsimp only at hn1 hs1 hp1 ⊢
 have hz:(s.heap.push { cls:=.type "list",dict:=none,data:=.seq ([]:List Value).toArray }).objs.size=s.heap.objs.size+1:=Heap.size_push ..;rw [hz]at hn1;simp only [hz];have fo:∀b∈fp,∃o,s.heap.get? b=some o:=λb hb=>(let ⟨o,e,_⟩:=T.obj 0 _ st b hb;⟨o,e⟩)
 have old:∀b o,s.heap.get? b=some o->h1.get? b=some o:=λb o e=>hs1 b o (Heap.get?_push_of_some _ e)
 have hD:h1.get? s.heap.objs.size=some { cls:=.type "list",data:=.seq #[] 0 }:=hs1 _ _ (Heap.get?_push_size _ rfl);have hz2:((s.heap.push { cls:=.type "list",dict:=none,data:=.seq ([]:List Value).toArray }).push { cls:=.type "dict",data:=.dict #[] }).objs.size=s.heap.objs.size+1+1:=by rw [Heap.size_push,hz]
 have hcl:∀x c,(cellsFrom (s.heap.objs.size+1+1) scope.names (frees X.env scope.names [])).lookup x=some c->(frees X.env scope.names []).lookup x=some c\/h1.IsCell c none:=λx c e=>by
  rw [hp1];rw [<-hz2]at e;exact jy _ _ _ e
 have I1:=zk (own:=own) (tk:=s.toks) B I f2 fo hn1 old hD hcl;have st1:tn 0 h1:=T.keep _ _ _ st λb _ o e=>old b o e
 obtain ⟨W,⟨m0,w0⟩,turn⟩:=hW _ I.fresh;have fpB:∀{H':Hp},(∀b∈fp,H' b=none)->∀b∈fp,lj (cxK X (own++outs.map (·.2)) scope s H (s.heap.objs.size+1) fp pins) [] H' b:=λhn b hb=>by
  obtain ⟨o,eo⟩:=fo b hb;refine ⟨hn b hb,Nat.ne_of_lt (Nat.lt_succ_of_lt (Heap.lt_size eo)),I1.ok.exfs b hb,.inl hb,λx c e=>(I1.ok.exf b hb).2 x c e,λp hp=>?_⟩
  have hp':p∈X.pn++pins:=by
   have:p∈(X.pn++pins)++[]:=hp
   simpa using this
  exact (f2 b hb).2.2.2.2.2 p hp'
 have loop:∀s0:Shared,s0={ s with heap:=h1,toks:=s.toks } ->
   codeAny (model X.prog X.w) X.A (.compLoop (.ListComp elt [⟨tg,iter,ifs,0⟩] scope pos) 0 (.ref it) (.ref s.heap.objs.size) (sW scope (frees X.env scope.names []) (s.heap.objs.size+1) X.env)) (RR (.ref s.heap.objs.size) (s.heap.objs.size+1)) s0:=by
  rintro s0 rfl;refine lN (λn s'=>∃i acc H',Inv (cxK X (own++outs.map (·.2)) scope s H (s.heap.objs.size+1) fp pins) [] (slots own.length outs σ) H' s'/\tn i s'.heap/\(∀b∈fp,H' b=none)/\W i n acc H') ?_ m0
   ⟨0,[],_,I1,st1,λb hb=>?_,w0⟩
  ·rintro n s3 ⟨i,acc,H3,I3,st3,fr3,w3⟩
   rcases turn i n acc H3 w3 with ⟨stop,q⟩ | ⟨go,N,hN,step⟩
   ·refine thn (T.done (cxK X (own++outs.map (·.2)) scope s H (s.heap.objs.size+1) fp pins) rfl rfl rfl hcalm i [] s3 _ H3 (λ_ _=>False) I3 (fpB fr3) st3 stop) λr s4 ⟨hr,I4⟩=>?_
    subst hr;have IX:Inv X pins σ H3 s4:=I.call' (ch:=fp) I4.os I4.base I4.hok I4.bare λb hb=>⟨(f2 b hb).2.2.2.1,(f2 b hb).2.1,(f2 b hb).2.2.2.2.1,(f2 b hb).2.2.2.2.2⟩
    obtain ⟨m4,hn4,_⟩:=I4.loc;exact fin _ _ H3 s4 m4 IX (I.fpOk (Nat.le_succ _) I4.free) hn4 q
   ·refine thn (T.item (cxK X (own++outs.map (·.2)) scope s H (s.heap.objs.size+1) fp pins) rfl rfl rfl hcalm i [] s3 _ H3 (λ_ _=>False) I3 (fpB fr3) st3 go) λr s4 ⟨u,hr,h4⟩=>?_
    subst hr;refine thn h4 λ_ s5 ⟨x,H5,I5,r5,y5,st5,fr5⟩=>?_
    have I5':=I5.pinned (fpB fr5) (T.obj _ _ st5);have back:∀{σ6:St} {H6:Hp} {s6:Shared} {acc':List V},Inv (cxK X (own++outs.map (·.2)) scope s H (s.heap.objs.size+1) fp pins) ([]++mP fp s5.heap) σ6 H6 s6->i_ (slots own.length outs σ) σ6->N acc' H6 ->
      ∃m,m<n/\∃i acc H',Inv (cxK X (own++outs.map (·.2)) scope s H (s.heap.objs.size+1) fp pins) [] (slots own.length outs σ) H' s6/\tn i s6.heap/\(∀b∈fp,H' b=none)/\W i m acc H':=fun {σ6 H6 s6 acc'} I6 hs hn6=>by
     obtain ⟨m',hm,hw⟩:=hN acc' H6 hn6;refine ⟨m',hm,i+1,acc',H6,I6.unpinned.weak hs.len λj v e=>hs.get e,T.keep _ _ _ st5 λb hb o e=>(I6.pin (b,o) (Zq _ (Zq _ (g9 hb e)))).1,λb hb=>?_,hw⟩
     obtain ⟨o,e,_⟩:=T.obj _ _ st5 b hb;exact (I6.pin (b,o) (Zq _ (Zq _ (g9 hb e)))).2.1
    refine thn (hg s H _ fp pins _ s5 _ H5 x u _ I5' r5 (step x H5 y5)) λ_ s6 ⟨σ6,H6,I6,hs6,q6⟩=>?_
    refine thn (hc s H _ fp pins _ s6 σ6 H6 _ I6 q6) λb s7 ⟨H7,I7,q7⟩=>?_
    cases b with
    |false =>
     exact back I7 hs6 q7
    |true =>
     refine thn (he s H _ fp pins _ s7 σ6 H7 _ I7 q7) λyv s8 ⟨y,H8,I8,r8,hd8,hl8,hw⟩=>?_
     refine thn (k7 _ s8 σ6 H8 (.ref s.heap.objs.size) [y] (.ref s.heap.objs.size) [yv] (λ_ H9=>H9=upd H8 s.heap.objs.size (.lst (acc++[y]))) I8 rfl (.cons r8 .nil) ⟨_,acc,y,rfl,rfl,hd8,hl8,rfl⟩) λz s9 ⟨zv,H9,I9,_,q9⟩=>?_
     subst q9;exact back I9 hs6 hw
  ·obtain ⟨o,eo⟩:=fo b hb
   rw [aM (Nat.ne_of_lt (Heap.lt_size eo))];exact (f2 b hb).1
 exact codeAny_compStart_list (loop _ rfl) (T.self X.A 0 _ _ _ st1 (loop _ rfl))
theorem xw {wi:TI} (own:List Str) (B:BlkK X sc scope outs) (hcalm:X.calm=true) (hi:PI X tg iter wi)
  (hg:∀s H C ex pins,PG (cxK X (own++outs.map (·.2)) scope s H C ex pins) tg g) (hc:∀s H C ex pins,PF (cxK X (own++outs.map (·.2)) scope s H C ex pins) ifs tc) (he:∀s H C ex pins,PE (cxK X (own++outs.map (·.2)) scope s H C ex pins) elt te)
  (hs:∀x,foldedSetIterable iter X.env x=pure x:=by intro _;rfl):PE X (.ListComp elt [⟨tg,iter,ifs,0⟩] scope pos) (vy wi g tc te own.length outs):=by
 intro pins s σ H Q I h;rw [eval_ListComp];refine wpAny_comprehension_free (use:=none) rfl hs (lG (qb B I)) B.kind B.loc ?_;refine thn (hi pins s σ H _ I h) λv s1 h1=>thn h1 λitv s2 h2=>?_
 obtain ⟨it,fp,tn,J,H2,e,I2,T,st2,f2,hW⟩:=h2;subst e;refine yk (RR:=λacc C=>compPost (model X.prog X.w) X.A X.xe none (EP X pins σ Q) acc C) B hcalm hg hc he I2 T st2 f2 hW ?_
 intro D C H' s' m I' hC hn q;refine ⟨m,hn,λh' hs'=>?_⟩
 obtain ⟨c0,c1,c2,c3,c4,c5⟩:=hC;exact ⟨.ref D,H',I'.turned (t':=s'.toks) (λb o hb e=>(hs'.2 b hb).trans e) c0 c1 c3 c4 c5,rfl,q⟩
end
theorem u6 {X:Cx} {N:List Str} {scope0 scope:Scope} {s:Shared} {H:Hp} {C:Addr} {ex:List Addr} {pins:List (Addr×Obj)} {outs:List (Nat×Str)} (kind:scope.kind=.function) (loc:∀x∈scope.names,x.2=.local->scope.names.lookup x.1=some .local) (nocell:∀x∈scope.names,x.2≠.cell)
  (fr:∀x∈scope.names,x.2=.free->scope0.names.lookup x.1=some .cell\/scope0.names.lookup x.1=some .free) (out:jw (cxK X N scope0 s H C ex pins) scope outs):Blk (cxK X N scope0 s H C ex pins) (relabel scope0 X.env) scope outs:=by
 refine ⟨rfl,kind,loc,nocell,λx hx hf=>?_,out⟩
 rcases fr x hx hf with h | h
 ·left
  show (scope0.names.map _).lookup x.1=some NameKind.cell
  have:∀names:List (Str×NameKind),names.lookup x.1=some .cell->(names.map λ(n,k)=>if (k == NameKind.free && X.env.scope.kind == .function && X.env.kindOf n == some .cell) then (n,NameKind.cell) else (n,k)).lookup x.1=some .cell:=by
   intro names
   induction names with
   |nil=>intro h;simp at h
   |cons y r ih =>
    obtain ⟨n,k⟩:=y;intro h;rw [List.lookup_cons]at h;rw [Zk]
    dsimp only
    by_cases hc:(k == NameKind.free && X.env.scope.kind == .function && X.env.kindOf n == some .cell)=true
    ·rw [if_pos hc,List.lookup_cons]
     cases hx:x.1 == n with
     |true=>rfl
     |false =>
      rw [hx]at h;exact ih h
    ·rw [if_neg hc,List.lookup_cons]
     cases hx:x.1 == n with
     |true =>
      rw [hx]at h;exact h
     |false =>
      rw [hx]at h;exact ih h
  exact this _ h
 ·exact iX h
end L2
namespace L3
open PySem L2 PySem.Spec PyProof.Rows
section
variable {M:Mx} {X:Cx} {e a b c:Expr} {es:List Expr} {pos:Pos} {fa fb:Fe} {ta tb:Ft} {al:Fa} {x:Str} {p ap cp:Pos}
variable {sc scope:Scope} {outs:List (Nat×Str)} {elt tg iter:Expr} {ifs:List Expr} {it:Fi} {gg:Fg} {is:List Nat} {el:Fe}
theorem rM (own:List Str) (s:Shared) (H:Hp) (C:Addr) (ex:List Addr) (pins:List (Addr×Obj)):(cxK X (own++outs.map (·.2)) scope s H C ex pins).N.length=own.length+outs.length:=by
 show (own++outs.map (·.2)).length=_
 rw [Zd,Zc]
theorem o9 (own:List Str) (B:BlkK X sc scope outs) (hcalm:X.calm=true) (hk:∀j∈is,j<own.length) (hi:DI M X tg iter it)
  (hg:∀s H C ex pins,DG M (cxK X (own++outs.map (·.2)) scope s H C ex pins) tg is gg) (hc:∀s H C ex pins,DF M (cxK X (own++outs.map (·.2)) scope s H C ex pins) ifs ta) (he:∀s H C ex pins,DE M (cxK X (own++outs.map (·.2)) scope s H C ex pins) elt el)
  (hs:∀x,foldedSetIterable iter X.env x=pure x:=by intro _;rfl):DE M X (.ListComp elt [⟨tg,iter,ifs,0⟩] scope pos) (bD it gg ta el own.length (outs.map (·.1))):=λhK hM =>
 peI (xw (wi:=tI M X.N.length it) (g:=tG M (own.length+outs.length) is gg) (tc:=tT M (own.length+outs.length) ta) (te:=tD M (own.length+outs.length) el) own B hcalm (hi hK hM)
  (λs H C ex pins=>by have q:=hg s H C ex pins hK hM;rw [rM]at q;exact q) (λs H C ex pins=>by have q:=hc s H C ex pins hK hM;rw [rM]at q;exact q) (λs H C ex pins=>by have q:=he s H C ex pins hK hM;rw [rM]at q;exact q) hs) λ_ _ _ q=>uh hk q
end
theorem jE:∀{us:List Value} {ns:List Int},IntsAre us ns->Vals (ns.map V.int) us
 |_,_,.nil=>.nil
 |_,_,.cons n t r=>.cons ⟨t,rfl⟩ (jE r)
section
variable {X:Cx} {M:Mx}
end
noncomputable def K4 (i:Nat) (g:Fg) (d:Nat) (k a:Fe):Fs:=fun ρ=>match ρ[i]? with
 |some (some (.ol xs))=>match shs xs with
  |some ds=>bJ g (sDP d k a) (gT ds) ρ
  |none=>.bad
 |_=>.bad
section
variable {M:Mx} {n:Nat} {σ:L2.St} {H:Hp} {D:Ends} {Q Q':VK}
end
noncomputable def Cc:PyData->Bool
 |.tuple ds=>ds.all flat
 |d=>flat d
noncomputable def Au:OD->Bool
 |.sh _=>true
 |_=>false
noncomputable def wC:OD->Bool
 |.ol ys=>ys.all Au
 |_=>false
noncomputable def qT:OD->Bool
 |.ol ys=>ys.all Au
 |.ot (x :: xs)=>wC x && xs.all wC
 |_=>false
noncomputable def AH:OD->Bool
 |.sh d=>Cc d
 |_=>false
noncomputable def GX:OD->Bool
 |.ol ys=>ys.all AH
 |_=>false
noncomputable def As:OD->Bool
 |.ot ys=>ys.all GX
 |.ol ys=>ys.all AH
 |_=>false
noncomputable def nL (i:Nat) (fa:Fe):Fe:=fun ρ=>match ρ[i]? with
 |some (some x)=>if qT x=true then (fa (ρ.set i (some (.sh x.er)))).bind λy=>if As y=true then .ok y else .bad else .bad
 |_=>.bad
noncomputable def LT (F:Hp) (b:Addr):Prop:=(∃ws,F b=some (.lst ws))\/∃r ws,F b=some (.tup (.ref r :: ws))
open Classical in
noncomputable def o5 (F:Hp) (f:List Addr):Hp:=λb=>if b∈f then none else F b
theorem qx {F:Hp} {f:List Addr} {b:Addr} (h:b∈f):o5 F f b=none:=by unfold o5;rw [if_pos h]
theorem jI {F:Hp} {f:List Addr} {b:Addr} (h:b∉f):o5 F f b=F b:=by unfold o5;rw [if_neg h]
section
variable {K:PySem.W.Frag} {F H:Hp} {f:List Addr}
theorem qq:∀{vs:List V} {xs:List OD} {g:List Addr},OwnL K F H vs xs g->xs.all Au=true->g=[]
 |_,_,_,.nil,_=>rfl
 |_,_,_,.cons h r,e=>by
  rw [List.all_cons,Zv]at e;have:=qq r e.2;subst this;cases h with
  |sh _=>rfl
  |ol _ _=>cases e.1
  |ot _ _=>cases e.1
  |od _ _ _=>cases e.1
theorem qu {v:V} {x:OD} {g:List Addr} (h:Own K F H v x g) (e:wC x=true):(∃r,v=.ref r)/\∀b∈g,∃ws,H b=some (.lst ws):=by
 cases h with
 |sh _=>cases e
 |ot _ _=>cases e
 |od _ _ _=>cases e
 |@ol a vs xs f' ha hv =>
  have:=qq hv e;subst this;exact ⟨⟨_,rfl⟩,λb m=>by
   have:b=a:=by simpa using m
   rw [this];exact ⟨_,ha⟩⟩
theorem tK:∀{vs:List V} {xs:List OD} {g:List Addr},OwnL K F H vs xs g->xs.all wC=true->∀b∈g,∃ws,H b=some (.lst ws)
 |_,_,_,.nil,_,b,m=>by cases m
 |_,_,_,.cons h r,e,b,m=>by
  rw [List.all_cons,Zv]at e;rcases Zs.mp m with m | m
  ·exact (qu h e.1).2 b m
  ·exact tK r e.2 b m
theorem Bf {v:V} {x:OD} {g:List Addr} (h:Own K F H v x g) (e:qT x=true):∀b∈g,LT H b:=by
 cases h with
 |sh _=>cases e
 |od _ _ _=>cases e
 |@ol a vs xs f' ha hv =>
  have:=qq hv e;subst this;intro b m;have:b=a:=by simpa using m
  rw [this];exact .inl ⟨_,ha⟩
 |@ot a vs xs f' ha hv =>
  intro b m
  match xs,hv,e with
  |x :: xs,hv,e =>
   have e':(wC x && xs.all wC)=true:=e;rw [Zv]at e';cases hv with
   |@cons v vs _ _ f g h r =>
    rcases Zo.mp m with m | m
    ·rw [m]
     obtain ⟨⟨r,rfl⟩,_⟩:=qu h e'.1;exact .inr ⟨_,_,ha⟩
    ·rcases Zs.mp m with m | m
     ·exact .inl ((qu h e'.1).2 b m)
     ·exact .inl (tK r e'.2 b m)
theorem sF {F2:Hp}:∀{vs:List V} {ds:List PyData},RepAll K F vs ds->ds.all flat=true->RepAll K F2 vs ds
 |_,_,.nil,_=>.nil
 |_,_,.cons h r,e=>by
  rw [List.all_cons,Zv]at e;exact .cons (tH e.1 h) (sF r e.2)
theorem Ac {v:V} {d:PyData} (hl:∀b∈f,LT F b) (h:Rep K F v d) (e:Cc d=true):Rep K (o5 F f) v d:=by
 cases h with
 |non=>exact .non
 |bl b=>exact .bl b
 |int i=>exact .int i
 |str x=>exact .str x
 |lst _ _=>cases e
 |dct _ _ _=>cases e
 |@tup a xs ds h1 h2 =>
  have ne:a∉f:=by
   intro m;rcases hl a m with ⟨ws,q⟩ | ⟨r,ws,q⟩
   ·rw [h1]at q
    cases q
   ·rw [h1]at q
    cases q;cases h2 with
    |@cons _ _ d ds h3 h4 =>
     have e':(d :: ds).all flat=true:=e;rw [List.all_cons,Zv]at e';cases h3 with
     |lst _ _=>cases e'.1
     |tup _ _=>cases e'.1
     |dct _ _ _=>cases e'.1
  refine .tup ?_ (sF h2 e);rw [jI ne];exact h1
theorem nW (hl:∀b∈f,LT F b):∀{vs:List V} {xs:List OD} {g:List Addr},OwnL K F H vs xs g->xs.all AH=true->OwnL K (o5 F f) H vs xs g
 |_,_,_,.nil,_=>.nil
 |_,_,_,.cons h r,e=>by
  rw [List.all_cons,Zv]at e;refine .cons ?_ (nW hl r e.2);cases h with
  |sh q=>exact .sh (Ac hl q e.1)
  |ol _ _=>cases e.1
  |ot _ _=>cases e.1
  |od _ _ _=>cases e.1
theorem t7 (hl:∀b∈f,LT F b):∀{vs:List V} {xs:List OD} {g:List Addr},OwnL K F H vs xs g->xs.all GX=true->OwnL K (o5 F f) H vs xs g
 |_,_,_,.nil,_=>.nil
 |_,_,_,.cons h r,e=>by
  rw [List.all_cons,Zv]at e;refine .cons ?_ (t7 hl r e.2);cases h with
  |sh q=>cases e.1
  |ol ha hv=>exact .ol ha (nW hl hv e.1)
  |ot _ _=>cases e.1
  |od _ _ _=>cases e.1
theorem xy {v:V} {x:OD} {g:List Addr} (hl:∀b∈f,LT F b) (h:Own K F H v x g) (e:As x=true):Own K (o5 F f) H v x g:=by
 cases h with
 |sh q=>cases e
 |ol ha hv=>exact .ol ha (nW hl hv e)
 |ot ha hv=>exact .ot ha (t7 hl hv e)
 |od _ _ _=>cases e
end
section
variable {M:Mx} {n:Nat} {σ:L2.St} {H:Hp} {Q:VK}
theorem Fj {fa:Fe} {i:Nat} (h:tD M n (nL i fa) σ H Q):tD M n fa σ H Q:=by
 obtain ⟨F,ρ,fp,S,p⟩:=h;unfold nL at p;split at p
 ·rename_i x e
  split at p
  ·rename_i hlo
   obtain ⟨v,f,g1,g2,h1,h2,rfl,h4⟩:=S.own.at e;have ff:∀a∈f,F a=none:=λa m=>S.fr a (Zq _ (Zw _ m))
   have o:=h4 (lK F H f) H (ig ff) (λ_ _ _ q=>q) v (.sh x.er) [] (.sh (h2.frz (ig ff) λa m o q=>by rw [j0 m];exact q))
   have hs:σ.set i (some v)=σ:=by
    apply List.ext_getElem?
    intro j;by_cases hj:i=j
    ·subst hj
     rw [h1,List.getElem?_set_self (Zb.mp h1).1]
    ·rw [List.getElem?_set_ne hj]
   rw [hs]at o;have nd:=S.nd;simp only [ZK,Zs]at nd;obtain ⟨n1,⟨n2,n3,n4⟩,n5⟩:=nd;have sub:∀a∈g1++([]++g2),a∈g1++(f++g2)/\a∉f:=λa m=>by
    simp only [List.nil_append,Zs]at m ⊢;rcases m with m | m
    ·exact ⟨.inl m,λz=>n5 a m a (.inl z) rfl⟩
    ·exact ⟨.inr (.inr m),λz=>n4 a z a m rfl⟩
   have hLT:=Bf h2 hlo;have S1:Stt M.K n (lK F H f) H σ (ρ.set i (some (.sh x.er))) (g1++([]++g2)) :=
    ⟨qo S.same,o,by
     simp only [List.nil_append,ZK];exact ⟨n1,n3,λa m b m'=>n5 a m b (.inr m')⟩,λa m=>by
     rw [iB (sub a m).2];exact S.fr a (sub a m).1,by rw [ZJ];exact S.len⟩
   have st:Stp F H (g1++(f++g2)) (lK F H f) H (g1++([]++g2)):=⟨ig ff,λ_ _ h _=>h,λa m=>.inl (sub a m).1,λa h m z=>by
    rw [iB λw=>m (Zq _ (Zw _ w))]
    exact z⟩
   refine ⟨_,_,_,S1,((aG.bind p).stp st).mono λy py v1 F1 H1 fx e1 r1 w1=>?_⟩
   split at py
   ·rename_i hok
    obtain ⟨ro,rn,rf⟩:=r1;have hL1:∀b∈f,LT F1 b:=λb m=>by
     rcases hLT b m with ⟨ws,q⟩ | ⟨r,ws,q⟩
     ·exact .inl ⟨ws,e1.ff _ _ (by rw [j0 m];exact q)⟩
     ·exact .inr ⟨r,ws,e1.ff _ _ (by rw [j0 m];exact q)⟩
    refine py v1 (o5 F1 f) H1 fx ⟨λb o hb=>?_,e1.hh,λb o hb=>?_,λb hb hn=>?_⟩ ⟨xy hL1 ro hok,rn,λb m=>?_⟩ w1
    ·have:b∉f:=λm=>by
      rw [ff b m]at hb;cases hb
     rw [jI this];exact e1.ff _ _ (ig ff _ _ hb)
    ·by_cases m:b∈f
     ·rw [qx m]at hb
      cases hb
     ·rw [jI m]at hb
      exact e1.fh _ _ hb
    ·by_cases m:b∈f
     ·exact qx m
     ·rw [jI m]
      exact e1.nw b hb (by rw [iB m];exact hn)
    ·by_cases m':b∈f
     ·exact qx m'
     ·rw [jI m']
      exact rf b m
   ·exact py.elim
  ·exact p.elim
 ·exact p.elim
end
section
variable {M:Mx} {X:Cx} {e:Expr} {fa fb:Fe}
theorem EU (i:Nat) (fa:Fe) (ρ:Env) {x y:OD} (h:ρ[i]?=some (some x)) (hx:qT x=true) (h2:fa (ρ.set i (some (.sh x.er)))=.ok y) (h3:As y=true):nL i fa ρ=.ok y:=by
 unfold nL;rw [h];show (if qT x=true then (fa (ρ.set i (some (.sh x.er)))).bind _ else .bad)=_
 rw [if_pos hx,h2];show (if As y=true then R.ok y else .bad)=_
 rw [if_pos h3]
theorem Bt (i:Nat) (h:DE M X e fa):DE M X e (nL i fa):=λhK hM=>peI (h hK hM) λ_ _ _ q=>Fj q
end
theorem ex1 {α:Type} {us:List α} (h:us.length=1):∃a,us=[a]:=by
 cases us with
 |nil=>cases h
 |cons a r =>
  cases r with
  |nil=>exact ⟨a,rfl⟩
  |cons b r=>cases h
theorem ex2 {α:Type} {us:List α} (h:us.length=2):∃a b,us=[a,b]:=by
 cases us with
 |nil=>cases h
 |cons a r =>
  obtain ⟨b,e⟩:=ex1 (Nat.succ.inj h);exact ⟨a,b,by rw [e]⟩
theorem ex3 {α:Type} {us:List α} (h:us.length=3):∃a b c,us=[a,b,c]:=by
 cases us with
 |nil=>cases h
 |cons a r =>
  obtain ⟨b,c,e⟩:=ex2 (Nat.succ.inj h);exact ⟨a,b,c,by rw [e]⟩
theorem ex4 {α:Type} {us:List α} (h:us.length=4):∃a b c d,us=[a,b,c,d]:=by
 cases us with
 |nil=>cases h
 |cons a r =>
  obtain ⟨b,c,d,e⟩:=ex3 (Nat.succ.inj h);exact ⟨a,b,c,d,by rw [e]⟩
theorem ex5 {α:Type} {us:List α} (h:us.length=5):∃a b c d f,us=[a,b,c,d,f]:=by
 cases us with
 |nil=>cases h
 |cons a r =>
  obtain ⟨b,c,d,f,e⟩:=ex4 (Nat.succ.inj h);exact ⟨a,b,c,d,f,by rw [e]⟩
section
variable {M:Mx} {n:Nat} {σ:L2.St} {H:Hp} {Q:VK}
end
section
variable {X:Cx} {M:Mx}
end
end L3
namespace L3
open PySem L2 PySem.Spec PyProof.Rows PySem.W PySem.Calls
end L3
namespace L2
open PySem PySem.Spec PyProof.Rows
noncomputable def kJ (n0 n:Nat):List Value:=(List.range n).map λj=>Value.ref (n0+j)
structure ZS (h:Heap) (n0 n:Nat) (ls:Nat->Nat) (is:Nat->Nat) (f0:Value) (arr:List Value):Prop where
 zp:h.get? (n0+n+2)=some { cls:=.type "zip",dict:=none,data:=.fields #[f0,.bool false,.bool false,.ref (n0+n),.ref (n0+n+1)],slots:=#[] }
 ti:h.get? (n0+n)=some { cls:=.type "tuple",data:=.seq (kJ n0 n).toArray }
 to:h.get? (n0+n+1)=some { cls:=.type "tuple",data:=.seq arr.toArray }
 it:∀j,j<n->h.IsListIter (n0+j) (ls j) (is j)
theorem neN {a b:Nat} (h:a≠b):@Ne Addr a b:=h
theorem ZS.draw {h h1 h2:Heap} {n0 n j:Nat} {ls:Nat->Nat} {is:Nat->Nat} {f0:Value} {arr arr':List Value} (Z:ZS h n0 n ls is f0 arr) (hj:j<n) (hs1:Heap.SameBut (n0+j) h h1) (hI:h1.IsListIter (n0+j) (ls j) (is j+1))
  (hs2:Heap.SameBut (n0+n+1) h1 h2) (hT:h2.get? (n0+n+1)=some { cls:=.type "tuple",data:=.seq arr'.toArray }):ZS h2 n0 n ls (λm=>if m=j then is m+1 else is m) f0 arr':=by
 have up:∀c,c≠n0+j->c≠n0+n+1->h2.get? c=h.get? c:=λc c1 c2=>(hs2.2 c (neN c2)).trans (hs1.2 c (neN c1))
 refine ⟨(up _ (by lia) (by lia)).trans Z.zp,(up _ (by lia) (by lia)).trans Z.ti,hT,λm hm=>?_⟩
 by_cases e:m=j
 ·subst e
  show h2.IsListIter _ _ (if m=m then _ else _)
  rw [if_pos rfl];exact hI.at λo q=>(hs2.2 _ (neN (by lia))).trans q
 ·show h2.IsListIter _ _ (if m=j then _ else _)
  rw [if_neg e];exact (Z.it m hm).at λo q=>(up _ (by lia) (by lia)).trans q
theorem ZS.flag {h h1:Heap} {n0 n:Nat} {ls:Nat->Nat} {is:Nat->Nat} {f0 f1:Value} {arr:List Value} (Z:ZS h n0 n ls is f0 arr) (hs:Heap.ExtBut (n0+n+2) h h1)
  (hz:h1.get? (n0+n+2)=some { cls:=.type "zip",dict:=none,data:=.fields #[f1,.bool false,.bool false,.ref (n0+n),.ref (n0+n+1)],slots:=#[] }):ZS h1 n0 n ls is f1 arr :=
 ⟨hz,hs _ _ (neN (by lia)) Z.ti,hs _ _ (neN (by lia)) Z.to,λm hm=>(Z.it m hm).at λo q=>hs _ _ (neN (by lia)) q⟩
theorem ZS.pos {h:Heap} {n0 n:Nat} {ls:Nat->Nat} {is is':Nat->Nat} {f0:Value} {arr:List Value} (Z:ZS h n0 n ls is f0 arr) (e:∀j,j<n->is j=is' j):ZS h n0 n ls is' f0 arr :=
 ⟨Z.zp,Z.ti,Z.to,λm hm=>by rw [<-e m hm];exact Z.it m hm⟩
theorem Kd {n j:Nat} {x:Nat->Value} {arr:List Value} (ha:arr.length=n) (hj:j<n):((List.range j).map x++arr.drop j).toArray.setIfInBounds j (x j)=((List.range (j+1)).map x++arr.drop (j+1)).toArray:=by
 rw [List.setIfInBounds_toArray];congr 1
 have e:arr.drop j=arr[j] :: arr.drop (j+1):=List.drop_eq_getElem_cons (by lia)
 rw [e,List.set_append_right _ _ (by simp),Zc,Zh,Nat.sub_self,List.set_cons_zero,List.range_succ,Zl,ZD]
 rfl
theorem zG {n0 n j:Nat} {y:Value×Nat} {rest:List (Value×Nat)} (h:y :: rest=(kJ n0 n).zipIdx.drop j):j<n/\y=(.ref (n0+j),j)/\rest=(kJ n0 n).zipIdx.drop (j+1):=by
 have hl:(kJ n0 n).zipIdx.length=n:=by rw [List.length_zipIdx];unfold kJ;rw [Zc,Zh]
 have hj:j<n:=by
  have:=congrArg List.length h;rw [Zr,ZF,hl]at this
  lia
 have e:=List.drop_eq_getElem_cons (l:=(kJ n0 n).zipIdx) (i:=j) (by lia)
 rw [e]at h;injection h with h1 h2
 refine ⟨hj,?_,h2⟩;rw [h1,List.getElem_zipIdx];unfold kJ;rw [List.getElem_map,List.getElem_range,Nat.zero_add]
section
variable {prog:Program} {w:World} {A:Around} {E:Value->Shared->Prop} {s:Shared}
theorem wO {n0 k:Nat} {ls:Nat->Nat} {xs:Nat->Array Value} {x:Nat->Value} {arr:List Value} {Q:Value->Shared->Prop} (hlt:∀j,j<3->ls j<n0) (Z:ZS s.heap n0 3 ls (λ_=>k) .none arr) (ha:arr.length=3)
  (hl:∀j,j<3->s.heap.IsList (ls j) (xs j)) (hx:∀j,j<3->(xs j)[k]?=some (x j))
  (hQ:∀h',ZS h' n0 3 ls (λ_=>k+1) (rawInt s.heap.objs.size) ((List.range 3).map x)->h'.get? s.heap.objs.size=some { cls:=.type "tuple",data:=.seq ((List.range 3).map x).toArray } ->
   (∀c o,(c<n0\/n0+3+2<c)->s.heap.get? c=some o->h'.get? c=some o)->Q (.ref s.heap.objs.size) { s with heap:=h' }) :
  wpAny (model prog w) A (Builtin.«zip.__next__» ⟨[.ref (n0+3+2)],[]⟩) (λfin s'=>∃v,fin=.done (.ret v)/\Q v s') E s:=by
 show wpAny _ _ (field _ 2 >>= _) _ _ _
 refine wpAny_bind (wpAny_field Z.zp rfl (x:=.bool false) rfl ?_);show wpAny _ _ (field _ (2+1) >>= _) _ _ _
 refine wpAny_bind (wpAny_field Z.zp rfl (x:=.ref (n0+3)) rfl ?_);refine wpAny_bind (wpAny_seqItems Z.ti rfl ?_);show wpAny _ _ (Builtin.SmallTypes.ownedTupleIsFree _ >>= _) _ _ _
 refine wpAny_bind ?_;unfold Builtin.SmallTypes.ownedTupleIsFree;refine wpAny_bind (wpAny_field Z.zp rfl (x:=.none) rfl (wpAny_pure ?_));simp only [if_true];refine wpAny_bind (wpAny_rule ?_);refine wpAny_bind (wpAny_field Z.zp rfl (x:=.ref (n0+3+1)) rfl ?_);refine wpAny_bind (wpAny_setField_rec Z.zp (by simp) λh₁ hz₁ hs₁=>?_)
 refine wpAny_bind ?_;have Z1:ZS h₁ n0 3 ls (λ_=>k) .ellipsis arr:=Z.flag hs₁.extBut hz₁
 refine wpAny_forIn_list _ (λrest b s'=>b=(none,())/\∃j hp,j<=3/\rest=(kJ n0 3).zipIdx.drop j/\s'={ s with heap:=hp }/\ZS hp n0 3 ls (λm=>if m<j then k+1 else k) .ellipsis ((List.range j).map x++arr.drop j) /\
  hp.objs.size=s.heap.objs.size/\∀c o,(c<n0\/n0+3+2<c)->s.heap.get? c=some o->hp.get? c=some o) _ ?_ ?_ _ _ ⟨rfl,0,h₁,Nat.zero_le _,rfl,rfl,Z1.pos λj _=>rfl,hs₁.1,λc o hc q=>(hs₁.2 c (neN (by lia))).trans q⟩
 ·rintro y rest b s' ⟨rfl,j,hp,hj3,hr,rfl,Zj,hsz,hk⟩
  obtain ⟨hj,rfl,hr2⟩:=zG hr;refine wpAny_bind (wpAny_onRaise ?_);show wpAny _ _ (Builtin.SmallTypes.nextOf (.ref (n0+j)) >>= _) _ _ _
  have hi:=Zj.it j hj;have e0:(if j<j then k+1 else k)=k:=if_neg (Nat.lt_irrefl _)
  have hlj:hp.IsList (ls j) (xs j):=(hl j hj).at λo q=>hk _ _ (Or.inl (hlt j hj)) q
  refine wpAny_bind (wpAny_nextOf_list_item (s:={ s with heap:=hp }) hi hlj (by rw [e0];exact hx j hj) λh2 hI2 hs2=>wpAny_pure ?_)
  have hT2:h2.get? (n0+3+1)=some { cls:=.type "tuple",data:=.seq ((List.range j).map x++arr.drop j).toArray }:=(hs2.2 _ (neN (by lia))).trans Zj.to
  refine wpAny_bind (wpAny_seqItems hT2 rfl ?_);have hlen:((List.range j).map x++arr.drop j).length=3:=by rw [Zd,Zc,Zh,ZF,ha];lia
  refine wpAny_bind (wpAny_updateSeq hT2 rfl ?_ (by rw [ZA,hlen];decide) (by rw [Array.size_setIfInBounds,ZA,hlen];decide))
  refine wpAny_bind (wpAny_letGo (wpAny_pure ?_));have hs3:=Heap.SameBut.update h2 (n0+3+1) (Obj.mapSeq (·.setIfInBounds j (x j)));have hT3:(h2.update (n0+3+1) (Obj.mapSeq (·.setIfInBounds j (x j)))).get? (n0+3+1)=some { cls:=.type "tuple",data:=.seq ((List.range (j+1)).map x++arr.drop (j+1)).toArray }:=by
   rw [Heap.get?_update_self _ hT2 rfl,<-Kd ha hj];simp only [Obj.mapSeq,Array.size_setIfInBounds,beq_self_eq_true,if_true]
  refine ⟨rfl,j+1,_,by lia,hr2,rfl,(Zj.draw hj hs2 hI2 hs3 hT3).pos λm hm=>?_,hs3.1.trans (hs2.1.trans hsz),λc o hc q=>(hs3.2 c (neN (by lia))).trans ((hs2.2 c (neN (by lia))).trans (hk c o hc q))⟩
  by_cases e:m=j
  ·subst e
   rw [if_pos rfl,if_neg (Nat.lt_irrefl _),if_pos (Nat.lt_succ_self _)]
  ·rw [if_neg e]
   by_cases e2:m<j
   ·rw [if_pos e2,if_pos (by lia)]
   ·rw [if_neg e2,if_neg (by lia)]
 ·rintro b s' ⟨rfl,j,hp,hj3,hr,rfl,Zj,hsz,hk⟩
  have hj:j=3:=by
   have hl':(kJ n0 3).zipIdx.length=3:=by rw [List.length_zipIdx];unfold kJ;rw [Zc,Zh]
   have:=congrArg List.length hr;rw [ZF,hl',List.length_nil]at this
   lia
  subst hj;have ea:(List.range 3).map x++arr.drop 3=(List.range 3).map x:=by rw [List.drop_of_length_le (by lia),Zx]
  rw [ea]at Zj;have Z3:ZS hp n0 3 ls (λ_=>k+1) .ellipsis ((List.range 3).map x):=Zj.pos λm hm=>if_pos hm
  refine wpAny_bind (wpAny_seqItems Z3.to rfl ?_);refine wpAny_bind (wpAny_newTuple ?_);refine wpAny_bind ?_;unfold Builtin.SmallTypes.ownedTupleHandOut;have Z4:ZS (hp.push { cls:=.type "tuple",data:=.seq ((List.range 3).map x).toArray }) n0 3 ls (λ_=>k+1) .ellipsis ((List.range 3).map x):=Z3.flag (λb o _ q=>Heap.get?_push_of_some _ q) (Heap.get?_push_of_some _ Z3.zp)
  have zlt:n0+3+2<hp.objs.size:=Heap.lt_size Z3.zp;refine wpAny_bind (wpAny_setField_rec Z4.zp (by simp) λh7 hz7 hs7=>?_)
  have Z7:ZS h7 n0 3 ls (λ_=>k+1) (rawInt hp.objs.size) ((List.range 3).map x):=Z4.flag hs7.extBut hz7
  refine wpAny_setField_rec Z7.zp (by simp) λh8 hz8 hs8=>?_
  have Z8:ZS h8 n0 3 ls (λ_=>k+1) (rawInt hp.objs.size) ((List.range 3).map x):=Z7.flag hs8.extBut hz8
  refine wpAny_pure ⟨_,rfl,?_⟩;show Q (.ref hp.objs.size) _
  rw [hsz]at Z8 zlt ⊢;refine hQ h8 Z8 ?_ λc o hc q=>(hs8.2 c (neN (by lia))).trans ((hs7.2 c (neN (by lia))).trans (Heap.get?_push_of_some _ (hk c o hc q)))
  refine (hs8.2 _ (neN (by lia))).trans ((hs7.2 _ (neN (by lia))).trans ?_)
  rw [<-hsz];exact Heap.get?_push_size _ rfl
theorem xu {n0 k:Nat} {ls:Nat->Nat} {xs:Array Value} {arr:List Value} {Q:Fin->Shared->Prop} (hh:A.handled=none) (hlt:ls 0<n0) (Z:ZS s.heap n0 3 ls (λ_=>k) .none arr)
  (hl:s.heap.IsList (ls 0) xs) (hx:xs[k]?=none)
  (hE:∀h' e,(∀c o,(c<n0\/n0+3+2<c)->s.heap.get? c=some o->h'.get? c=some o)->(∃o,h'.get? e=some o/\o.cls=.type "StopIteration")->E (.ref e) { s with heap:=h' }) :
  wpAny (model prog w) A (Builtin.«zip.__next__» ⟨[.ref (n0+3+2)],[]⟩) Q E s:=by
 show wpAny _ _ (field _ 2 >>= _) _ _ _
 refine wpAny_bind (wpAny_field Z.zp rfl (x:=.bool false) rfl ?_);show wpAny _ _ (field _ (2+1) >>= _) _ _ _
 refine wpAny_bind (wpAny_field Z.zp rfl (x:=.ref (n0+3)) rfl ?_);refine wpAny_bind (wpAny_seqItems Z.ti rfl ?_);show wpAny _ _ (Builtin.SmallTypes.ownedTupleIsFree _ >>= _) _ _ _
 refine wpAny_bind ?_;unfold Builtin.SmallTypes.ownedTupleIsFree;refine wpAny_bind (wpAny_field Z.zp rfl (x:=.none) rfl (wpAny_pure ?_));simp only [if_true];refine wpAny_bind (wpAny_rule ?_);refine wpAny_bind (wpAny_field Z.zp rfl (x:=.ref (n0+3+1)) rfl ?_);refine wpAny_bind (wpAny_setField_rec Z.zp (by simp) λh₁ hz₁ hs₁=>?_)
 refine wpAny_bind ?_;have Z1:ZS h₁ n0 3 ls (λ_=>k) .ellipsis arr:=Z.flag hs₁.extBut hz₁
 show wpAny _ _ (forIn ((Value.ref (n0+0),0) :: _) _ _) _ _ _
 rw [List.forIn_cons];refine wpAny_bind (wpAny_bind (wpAny_onRaise ?_));show wpAny _ _ (Builtin.SmallTypes.nextOf (.ref (n0+0)) >>= _) _ _ _
 have hl1:h₁.IsList (ls 0) xs:=hl.at λo q=>(hs₁.2 _ (neN (by lia))).trans q
 refine wpAny_bind (wpAny_nextOf_list_end (s:={ s with heap:=h₁ }) hh (Z1.it 0 (by decide)) hl1 hx λh2 e hs2 he=>?_)
 obtain ⟨oe,hoe,hce⟩:=he;have hz2:=hs2 _ _ (neN (by lia)) Z1.zp
 have hez:e≠n0+3+2:=λz=>by
  subst z;rw [hz2]at hoe;cases hoe;simp at hce
 exact wpAny_setField_rec hz2 (by simp) λh3 _ hs3=>hE h3 e (λc o hc q=>(hs3.2 c (neN (by lia))).trans (hs2 c o (neN (by lia)) ((hs₁.2 c (neN (by lia))).trans q))) ⟨oe,(hs3.2 e hez).trans hoe,hce⟩
theorem uB {n0 k:Nat} {ls:Nat->Nat} {xs:Nat->Array Value} {x:Nat->Value} {arr:List Value} {Q:Option Value->Shared->Prop} (hlt:∀j,j<3->ls j<n0) (Z:ZS s.heap n0 3 ls (λ_=>k) .none arr) (ha:arr.length=3)
  (hl:∀j,j<3->s.heap.IsList (ls j) (xs j)) (hx:∀j,j<3->(xs j)[k]?=some (x j))
  (hQ:∀h',ZS h' n0 3 ls (λ_=>k+1) (rawInt s.heap.objs.size) ((List.range 3).map x)->h'.get? s.heap.objs.size=some { cls:=.type "tuple",data:=.seq ((List.range 3).map x).toArray } ->
   (∀c o,(c<n0\/n0+3+2<c)->s.heap.get? c=some o->h'.get? c=some o)->Q (some (.ref s.heap.objs.size)) { s with heap:=h' }) :
  wpAny (model prog w) A (pyNext (.ref (n0+3+2))) Q E s:=by
 have hT:s.TypeIs (.ref (n0+3+2)) "zip" := ⟨_,Z.zp,rfl⟩;unfold pyNext;exact wpAny_bind (wpAny_attempt (wpAny_callSpecial?_slot (name:=Str.ofString "__next__") hT F.slot_zip_next (wpAny_call_entry F.slot_zip_next hT F.entry_zip_next (wO hlt Z ha hl hx λh' a1 a2 a3=>wpAny_pure (hQ h' a1 a2 a3)) (F.args_zip_next_1 _))))
theorem uv {n0 k:Nat} {ls:Nat->Nat} {xs:Array Value} {arr:List Value} {Q:Option Value->Shared->Prop} (hh:A.handled=none) (hlt:ls 0<n0) (Z:ZS s.heap n0 3 ls (λ_=>k) .none arr)
  (hl:s.heap.IsList (ls 0) xs) (hx:xs[k]?=none)
  (hQ:∀h',(∀c o,(c<n0\/n0+3+2<c)->s.heap.get? c=some o->h'.get? c=some o)->Q none { s with heap:=h' }) :
  wpAny (model prog w) A (pyNext (.ref (n0+3+2))) Q E s:=by
 have hT:s.TypeIs (.ref (n0+3+2)) "zip" := ⟨_,Z.zp,rfl⟩;unfold pyNext;refine wpAny_bind (wpAny_attempt (wpAny_callSpecial?_slot (name:=Str.ofString "__next__") hT F.slot_zip_next (wpAny_call_entry F.slot_zip_next hT F.entry_zip_next (xu hh hlt Z hl hx λh' e hk he=>?_) (F.args_zip_next_1 _))))
 obtain ⟨o,ho,hc⟩:=he;exact wpAny_bind (wpAny_isInstance (T := "StopIteration") (b:=true) ⟨o,ho,hc⟩ isSubtype_stop (wpAny_pure (hQ _ hk)))
end
noncomputable def gM (h:Heap) (l:Nat):Heap:=h.push { cls:=.type "list_iterator",data:=.fields #[.ref l,.int 0 0] }
theorem tf (a b c:Value):checkTypeCall "zip" ⟨[a,b,c],[]⟩=pure ():=by kernel_rfl
theorem vg (a b c:Value):checkBuiltinCall "zip.__new__" ⟨[.type "zip",a,b,c],[]⟩=pure ():=by kernel_rfl
theorem rT (e a b c:Value):argsOk "object.__init__" ⟨[e,a,b,c],[]⟩:=by
 unfold argsOk;rw [signature?_of (id := "object.__init__") (n:=['_','_','t','i','n','i','_','_']) (o:=['t','c','e','j','b','o']) (by kernel_rfl) PySem.F.owner_object]
 kernel_rfl
noncomputable def zA3 (h:Heap) (l0 l1 l2:Nat):Heap:=(gM (gM (gM h l0) l1) l2).push { cls:=.type "tuple",data:=.seq #[.ref h.objs.size,.ref (gM h l0).objs.size,.ref (gM (gM h l0) l1).objs.size] }
noncomputable def zB3 (h:Heap) (l0 l1 l2:Nat):Heap:=(zA3 h l0 l1 l2).push { cls:=.type "tuple",data:=.seq #[.none,.none,.none] }
noncomputable def zC3 (h:Heap) (l0 l1 l2:Nat):Heap:=(zB3 h l0 l1 l2).push { cls:=.type "zip",data:=.fields #[.none,.bool false,.bool false,.ref (gM (gM (gM h l0) l1) l2).objs.size,.ref (zA3 h l0 l1 l2).objs.size] }
theorem yg (l0 l1 l2:Nat) (xl0 xl1 xl2:Array Value) :
  Meets (Builtin.«zip.__new__» ⟨[.type "zip",.ref l0,.ref l1,.ref l2],[]⟩) (λ_ R s=>s.heap.IsList l0 xl0/\s.heap.IsList l1 xl1/\s.heap.IsList l2 xl2 /\
   R (.ok (.ret (.ref (zB3 s.heap l0 l1 l2).objs.size))) { s with heap:=zC3 s.heap l0 l1 l2 }) :=
 .of_wp λprog w A R s h=>by
  obtain ⟨hp,g,d,tk,os⟩:=s;obtain ⟨hl0,hl1,hl2,h⟩:=h;have hsub:=sub_zip;have Hl0:Heap.IsList (Shared.heap ⟨hp,g,d,tk,os⟩) l0 xl0:=hl0;have Hl1:Heap.IsList (Shared.heap ⟨(Heap.push hp { cls:=.type "list_iterator",data:=.fields #[.ref l0,.int 0 0] }),g,d,tk,os⟩) l1 xl1:=(Heap.IsList.push hl1 _);have Hl2:Heap.IsList (Shared.heap ⟨(Heap.push (Heap.push hp { cls:=.type "list_iterator",data:=.fields #[.ref l0,.int 0 0] }) { cls:=.type "list_iterator",data:=.fields #[.ref l1,.int 0 0] }),g,d,tk,os⟩) l2 xl2:=(Heap.IsList.push (Heap.IsList.push hl2 _) _)
  wp_walk using wpAny_pyIter_list Hl0,wpAny_pyIter_list Hl1,wpAny_pyIter_list Hl2
  exact ⟨_,rfl,h⟩
theorem Bw {prog:Program} {w:World} {A:Around} {E:Value->Shared->Prop} {s:Shared} {ls:Nat->Nat} {xs:Nat->Array Value} {Q:Value->Shared->Prop} (hl:∀j,j<3->s.heap.IsList (ls j) (xs j))
  (h:∀h',ZS h' s.heap.objs.size 3 ls (λ_=>0) .none [.none,.none,.none]->(∀c o,s.heap.get? c=some o->h'.get? c=some o)->Q (.ref (s.heap.objs.size+3+2)) { s with heap:=h' }) :
  wpAny (model prog w) A (call (.type "zip") [.ref (ls 0),.ref (ls 1),.ref (ls 2)]) Q E s:=by
 refine callType_new PySem.F.called_zip (by decide) (tf _ _ _) (vg _ _ _) (λobj=>rT obj _ _ _) PySem.F.entry_zip_new (yg (ls 0) (ls 1) (ls 2) (xs 0) (xs 1) (xs 2)) ⟨hl 0 (by decide),hl 1 (by decide),hl 2 (by decide),?_⟩
 have z1:(gM s.heap (ls 0)).objs.size=s.heap.objs.size+1:=Heap.size_push ..;have z2:(gM (gM s.heap (ls 0)) (ls 1)).objs.size=s.heap.objs.size+2:=by unfold gM;rw [Heap.size_push];exact congrArg (·+1) z1
 have z3:(gM (gM (gM s.heap (ls 0)) (ls 1)) (ls 2)).objs.size=s.heap.objs.size+3:=by unfold gM;rw [Heap.size_push];exact congrArg (·+1) z2
 have zA:(zA3 s.heap (ls 0) (ls 1) (ls 2)).objs.size=s.heap.objs.size+3+1:=by unfold zA3;rw [Heap.size_push,z3]
 have zB:(zB3 s.heap (ls 0) (ls 1) (ls 2)).objs.size=s.heap.objs.size+3+2:=by unfold zB3;rw [Heap.size_push,zA]
 have kC:∀c o,(zB3 s.heap (ls 0) (ls 1) (ls 2)).get? c=some o->(zC3 s.heap (ls 0) (ls 1) (ls 2)).get? c=some o:=λc o q=>Heap.get?_push_of_some _ q
 have kB:∀c o,(zA3 s.heap (ls 0) (ls 1) (ls 2)).get? c=some o->(zC3 s.heap (ls 0) (ls 1) (ls 2)).get? c=some o:=λc o q=>kC c o (Heap.get?_push_of_some _ q)
 have k3:∀c o,(gM (gM (gM s.heap (ls 0)) (ls 1)) (ls 2)).get? c=some o->(zC3 s.heap (ls 0) (ls 1) (ls 2)).get? c=some o:=λc o q=>kB c o (Heap.get?_push_of_some _ q)
 have k2:∀c o,(gM (gM s.heap (ls 0)) (ls 1)).get? c=some o->(zC3 s.heap (ls 0) (ls 1) (ls 2)).get? c=some o:=λc o q=>k3 c o (Heap.get?_push_of_some _ q)
 have k1:∀c o,(gM s.heap (ls 0)).get? c=some o->(zC3 s.heap (ls 0) (ls 1) (ls 2)).get? c=some o:=λc o q=>k2 c o (Heap.get?_push_of_some _ q)
 have k0:∀c o,s.heap.get? c=some o->(zC3 s.heap (ls 0) (ls 1) (ls 2)).get? c=some o:=λc o q=>k1 c o (Heap.get?_push_of_some _ q)
 have gC:(zC3 s.heap (ls 0) (ls 1) (ls 2)).get? (zB3 s.heap (ls 0) (ls 1) (ls 2)).objs.size=some _:=Heap.get?_push_size _ rfl;have gB:(zC3 s.heap (ls 0) (ls 1) (ls 2)).get? (zA3 s.heap (ls 0) (ls 1) (ls 2)).objs.size=some _:=kC _ _ (Heap.get?_push_size _ rfl);have gA:(zC3 s.heap (ls 0) (ls 1) (ls 2)).get? (gM (gM (gM s.heap (ls 0)) (ls 1)) (ls 2)).objs.size=some _:=kB _ _ (Heap.get?_push_size _ rfl);have g0:(zC3 s.heap (ls 0) (ls 1) (ls 2)).get? s.heap.objs.size=some _:=k1 _ _ (Heap.get?_push_size _ rfl);have g1:(zC3 s.heap (ls 0) (ls 1) (ls 2)).get? (gM s.heap (ls 0)).objs.size=some _:=k2 _ _ (Heap.get?_push_size _ rfl);have g2:(zC3 s.heap (ls 0) (ls 1) (ls 2)).get? (gM (gM s.heap (ls 0)) (ls 1)).objs.size=some _:=k3 _ _ (Heap.get?_push_size _ rfl);rw [zB,zA,z3]at gC;rw [zA]at gB;rw [z3,z2,z1]at gA;rw [z1]at g1;rw [z2]at g2;show _/\Q (.ref (zB3 s.heap (ls 0) (ls 1) (ls 2)).objs.size) _
 rw [zB];refine ⟨⟨_,gC,rfl⟩,h _ ⟨gC,gA,gB,λj hj=>?_⟩ k0⟩
 match j,hj with
 |0,_=>exact ⟨_,g0,rfl,rfl⟩
 |1,_=>exact ⟨_,g1,rfl,rfl⟩
 |2,_=>exact ⟨_,g2,rfl,rfl⟩
noncomputable def Itn (K:PySem.W.Frag) (n:Nat) (ls:Nat->Nat):It :=
 ⟨λi H=>∀j,j<n->∃xs x,SqL K H (ls j) xs/\xs[i]?=some x,λi H v H'=>∃(T:Addr) (xs:List V),H T=none/\v=.ref T/\H'=upd H T (.tup xs)/\xs.length=n/\∀j,j<n->∀ys,SqL K H (ls j) ys->xs[j]?=ys[i]?,
  λi H=>∃xs,SqL K H (ls 0) xs/\xs.length<=i⟩
noncomputable def zfp (n0 n:Nat):List Addr:=(List.range (n+3)).map λj=>n0+j
theorem rE {n0 n c:Nat} (h:c∈zfp n0 n):n0<=c/\c<n0+n+3:=by
 unfold zfp at h;obtain ⟨j,hj,rfl⟩:=ZC.mp h;have:=ZH.mp hj
 lia
theorem mJ {n0 n c:Nat} (h1:n0<=c) (h2:c<n0+n+3):c∈zfp n0 n:=ZC.mpr ⟨c-n0,ZH.mpr (by lia),by lia⟩
theorem vT {n0 n c:Nat} (h:c∉zfp n0 n):c<n0\/n0+n+2<c:=by
 by_cases h1:n0<=c
 ·by_cases h2:c<n0+n+3
  ·exact absurd (mJ h1 h2) h
  ·lia
 ·lia
theorem ZS.obj {h:Heap} {n0 n:Nat} {ls:Nat->Nat} {is:Nat->Nat} {f0:Value} {arr:List Value} (Z:ZS h n0 n ls is f0 arr) {c:Nat} (hc:c∈zfp n0 n):∃o,h.get? c=some o/\∀v,o.data≠.cell v:=by
 have:=rE hc;by_cases h1:c<n0+n
 ·obtain ⟨o,e,_,d⟩:=Z.it (c-n0) (by lia)
  rw [show n0+(c-n0)=c by lia]at e
  exact ⟨o,e,λv z=>by rw [d]at z;cases z⟩
 ·have h2:c=n0+n\/c=n0+n+1\/c=n0+n+2:=by lia
  rcases h2 with rfl | rfl | rfl
  ·exact ⟨_,Z.ti,λv z=>by cases z⟩
  ·exact ⟨_,Z.to,λv z=>by cases z⟩
  ·exact ⟨_,Z.zp,λv z=>by cases z⟩
theorem ZS.kept {h h':Heap} {n0 n:Nat} {ls:Nat->Nat} {is:Nat->Nat} {f0:Value} {arr:List Value} (Z:ZS h n0 n ls is f0 arr) (kp:∀b∈zfp n0 n,∀o,h.get? b=some o->h'.get? b=some o):ZS h' n0 n ls is f0 arr :=
 ⟨kp _ (mJ (by lia) (by lia)) _ Z.zp,kp _ (mJ (by lia) (by lia)) _ Z.ti,kp _ (mJ (by lia) (by lia)) _ Z.to,λj hj=>(Z.it j hj).at λo q=>kp _ (mJ (by lia) (by lia)) o q⟩
theorem Vals.of_get:∀{vs:List V} {us:List Value},vs.length=us.length->(∀j,j<vs.length->∃v u,vs[j]?=some v/\us[j]?=some u/\RelV v u)->Vals vs us
 |[],[],_,_=>.nil
 |v :: vs,u :: us,hl,h=>by
  obtain ⟨v',u',e1,e2,r⟩:=h 0 (by simp)
  cases e1;cases e2;refine .cons r (Vals.of_get (by simpa using hl) λj hj=>?_)
  obtain ⟨v',u',e1,e2,r⟩:=h (j+1) (by simpa using hj)
  exact ⟨v',u',by simpa using e1,by simpa using e2,r⟩
theorem Ah {P:Program} {w:World} {K:PySem.W.Frag} {es:List Expr} {tk:Nat} {pos:Pos} (n0:Nat) (ls:Nat->Nat) (hlt:∀j,j<3->ls j<n0) :
  Turn P w K (.Tuple es tk pos) (Itn K 3 ls) (zfp n0 3) (n0+3+2) (λi h=>∃arr,arr.length=3/\ZS h n0 3 ls (λ_=>i) .none arr):=by
 constructor
 ·exact mJ (by lia) (by lia)
 ·rintro i h ⟨arr,_,Z⟩ c hc
  exact Z.obj hc
 ·rintro i h h' ⟨arr,ha,Z⟩ kp
  exact ⟨arr,ha,Z.kept kp⟩
 ·intro X hP hw hK hc i pins s σ H E I hf st hg
  subst hP hw hK;obtain ⟨arr,ha,Z⟩:=st;have pick:∀j,∃(xs:List V) (x:V) (its:List Value) (u:Value),j<3->SqL X.K H (ls j) xs/\xs[i]?=some x/\s.heap.IsList (ls j) its.toArray/\its[i]?=some u/\RelV x u:=λj=>by
   by_cases hj:j<3
   ·obtain ⟨xs,x,hq,hx⟩:=hg j hj
    obtain ⟨its,rv,p,_⟩:=I.list hq;obtain ⟨u,hu,ru⟩:=rv.get hx;exact ⟨xs,x,its,u,λ_=>⟨hq,hx,p.isList,hu,ru⟩⟩
   ·exact ⟨[],.non,[],.none,λz=>absurd z hj⟩
  obtain ⟨xs,pick⟩:=Classical.axiomOfChoice pick;obtain ⟨x,pick⟩:=Classical.axiomOfChoice pick;obtain ⟨its,pick⟩:=Classical.axiomOfChoice pick;obtain ⟨u,pick⟩:=Classical.axiomOfChoice pick;refine uB hlt Z ha (xs:=λj=>(its j).toArray) (x:=u) (λj hj=>(pick j hj).2.2.1) (λj hj=>by simpa using (pick j hj).2.2.2.1) λh3 Z3 hT hk=>?_
  refine ⟨_,rfl,wpAny_letOwnedTupleGo_zip Z3.zp λh4 hz4 hs4=>?_⟩
  have zlt:n0+3+2<s.heap.objs.size:=Heap.lt_size Z.zp;have hs4':∀c,c≠n0+3+2->h4.get? c=h3.get? c:=λc hc=>hs4.2 c (neN hc)
  have kk:∀c w',c∉zfp n0 3->s.heap.get? c=some w'->h4.get? c=some w':=λc w' hc q=>by
   have:=vT hc;exact (hs4' c (by lia)).trans (hk c w' this q)
  have hT4:=(hs4' s.heap.objs.size (by lia)).trans hT
  have Z4:ZS h4 n0 3 ls (λ_=>i+1) .none ((List.range 3).map u):=Z3.flag hs4.extBut hz4
  refine ⟨.ref s.heap.objs.size,upd H s.heap.objs.size (.tup ((List.range 3).map x)),n_ (s:=s) (h':=h4) (t':=s.toks) I hf kk (Zn _) ?_,rfl,⟨_,(List.range 3).map x,I.fresh,rfl,rfl,rfl,λj hj ys hy=>?_⟩,⟨_,rfl,Z4⟩,λc hc=>?_⟩
  ·refine ⟨by show 3<=sizeLine;decide,(List.range 3).map u,Vals.of_get rfl λj hj=>?_,_,hT4,rfl,_,rfl⟩
   have hj:j<3:=hj;exact ⟨x j,u j,by rw [Za,Zy hj];rfl,by rw [Za,Zy hj];rfl,(pick j hj).2.2.2.2⟩
  ·rw [Za,Zy hj,I.list_inj hy (pick j hj).1,(pick j hj).2.1]
   rfl
  ·have:=rE hc
   rw [aM (neN (by lia))]
   exact (hf c hc).1
 ·intro X hP hw hK hc i pins s σ H E I hf st hg
  subst hP hw hK;obtain ⟨arr,ha,Z⟩:=st;obtain ⟨xs,hq,hx⟩:=hg;obtain ⟨its,rv,p,_⟩:=I.list hq;have l1:=rv.length;refine uv (I.ok.hd hc) (hlt 0 (by decide)) Z p.isList (by simp;lia) λh3 hk=>⟨rfl,qy (t':=s.toks) I hf λc w' hc q=>hk c w' (vT hc) q⟩
 ·rintro A i s Q E ⟨arr,ha,Z⟩ h
  exact wpAny_pyIter_zip Z.zp h
noncomputable def iZ3 (K:PySem.W.Frag) (ta:TA):TI:=fun σ H R=>ta σ H λvs H1=>∃ls:Nat->Nat,vs=(List.range 3).map (λj=>V.ref (ls j))/\(∀j,j<3->∃xs,SqL K H1 (ls j) xs)/\R (Itn K 3 ls) H1
theorem HF {X:Cx} {es:List Expr} {tk:Nat} {a b c:Expr} {ta:TA} {p pos tpos:Pos} (hg:Gl X "zip") (hm:X.mg "zip" = none) (ha:PA X [a,b,c] ta)
  (hs:starEach [a,b,c] X.env=(false,eval a X.env) :: starEach [b,c] X.env:=by rfl) (hs2:(backTo pos (starEach [b,c] X.env)).any (·.1)=false:=by rfl) :
  PI X (.Tuple es tk tpos) (.Call (.Name "zip" p) [a,b,c] [] pos) (iZ3 X.K ta):=by
 intro pins s σ H R I h;refine Call_ (jX I hg hm pU (PyProof.Rows.callWith_type1 (thn (ha pos pins s σ H _ I h) λus s1 ⟨vs,H1,I1,r1,q1⟩=>?_) hs hs2))
 obtain ⟨ls,e,hq,q⟩:=q1;subst e;have eu:us=(List.range 3).map λj=>Value.ref (ls j):=by
  have:∀(L:List Nat) (us:List Value),Vals (L.map λj=>V.ref (ls j)) us->us=L.map λj=>Value.ref (ls j):=λL=>by
   induction L with
   |nil =>
    intro us r;cases r;rfl
   |cons c L ih =>
    intro us r;cases r with
    |cons a b =>
     cases a;rw [ih _ b];rfl
  exact this _ _ r1
 subst eu;have pick:∀j,∃its:List Value,j<3->s1.heap.IsList (ls j) its.toArray:=λj=>by
  by_cases hj:j<3
  ·obtain ⟨xs,hq'⟩:=hq j hj
   obtain ⟨its,rv,pl,_⟩:=I1.list hq';exact ⟨its,λ_=>pl.isList⟩
  ·exact ⟨[],λz=>absurd z hj⟩
 obtain ⟨its,pick⟩:=Classical.axiomOfChoice pick;have lt:∀j,j<3->ls j<s1.heap.objs.size:=λj hj=>(let ⟨o,e,_⟩:=pick j hj;Heap.lt_size e)
 refine Bw (ls:=ls) (xs:=λj=>(its j).toArray) pick λh1 Z hk=>?_
 refine wpAny_pyIter_zip Z.zp ?_;have I2:Inv X pins σ H1 { s1 with heap:=h1 }:=I1.kept (t':=s1.toks) hk
 refine ⟨s1.heap.objs.size+3+2,zfp s1.heap.objs.size 3,_,Itn X.K 3 ls,H1,rfl,I2,Ah _ ls lt,⟨_,rfl,Z⟩,λc hc=>?_,q⟩
 have hc':=(rE hc).1;exact I1.fpOk hc' (I1.hok.fresh hc')
end L2
namespace L3
open PySem L2 PySem.Spec PyProof.Rows
noncomputable def oZ (a b c:List PyData):List PyData:=(List.range a.length).map λi=>PyData.tuple [a.getD i .none,b.getD i .none,c.getD i .none]
noncomputable def zN3:List PyData->R (List PyData)
 |[.list a,.list b,.list c]=>if a.length=b.length/\a.length=c.length then .ok (oZ a b c) else .bad
 |_=>.bad
noncomputable def zh (al:Fa):Fi:=fun ρ=>(al ρ).bind λxs=>zN3 (xs.map OD.er)
theorem Kz {a b c:List PyData} (h:a.length=b.length/\a.length=c.length):zN3 [.list a,.list b,.list c]=.ok (oZ a b c):=if_pos h
theorem qe {a b c:List PyData} {i:Nat} {e:PyData} (h:(oZ a b c)[i]?=some e):i<a.length/\e=.tuple [a.getD i .none,b.getD i .none,c.getD i .none]:=by
 unfold oZ at h;rw [Za]at h;obtain ⟨j,hj,rfl⟩:=Zp.mp h;obtain ⟨h1,h2⟩:=Zb.mp hj;rw [List.getElem_range]at h2;rw [Zh]at h1;subst h2;exact ⟨h1,rfl⟩
theorem pT (a b c:List PyData):(oZ a b c).length=a.length:=by
 unfold oZ;rw [Zc,Zh]
section
variable {M:Mx} {n:Nat} {F H:Hp} {σ:St} {D:Ends} {R':It->Hp->Prop} {X:Cx}
theorem Kg {al:Fa} (h:tI M n (zh al) σ H R'):iZ3 M.K (tA M n al) σ H R':=by
 obtain ⟨F,ρ,fp,S,p⟩:=h;refine ⟨F,ρ,fp,S,(aG.bind p).mono λxs px vs F1 H1 fx e1 r1 w1=>?_⟩
 obtain ⟨G1,d1,k1⟩:=r1.frz e1 w1;generalize xs.map OD.er=es at px k1
 unfold zN3 at px;split at px
 ·rename_i a b c
  split at px
  ·rename_i hl
   cases k1 with | cons rr0 t0 =>
   cases t0 with | cons rr1 t1 =>
   cases t1 with | cons rr2 t2 =>
   cases t2;cases rr0 with | @lst p0 vs0 _ h0 g0 =>
   cases rr1 with | @lst p1 vs1 _ h1 g1 =>
   cases rr2 with | @lst p2 vs2 _ h2 g2 =>
   refine ⟨λj=>[p0,p1,p2].getD j 0,rfl,λj hj=>?_,px _ G1 H1 d1 λi G H' s1 s2=>?_⟩
   ·match j,hj with
    |0,_=>exact ⟨vs0,(h0.same d1.fh).sq⟩
    |1,_=>exact ⟨vs1,(h1.same d1.fh).sq⟩
    |2,_=>exact ⟨vs2,(h2.same d1.fh).sq⟩
   have q0:=(h0.same (s1.trans s2)).sq;have q1:=(h1.same (s1.trans s2)).sq;have q2:=(h2.same (s1.trans s2)).sq;refine ⟨λe he=>?_,λhn=>⟨vs0,q0,?_⟩⟩
   ·obtain ⟨hi,rfl⟩:=qe he
    have y0:a[i]?=some (a.getD i .none):=by rw [List.getD_eq_getElem?_getD,Zg (by lia)];rfl
    obtain ⟨u0,hu0,ru0⟩:=RepAll.get g0 y0;have y1:b[i]?=some (b.getD i .none):=by rw [List.getD_eq_getElem?_getD,Zg (by lia)];rfl
    obtain ⟨u1,hu1,ru1⟩:=RepAll.get g1 y1;have y2:c[i]?=some (c.getD i .none):=by rw [List.getD_eq_getElem?_getD,Zg (by lia)];rfl
    obtain ⟨u2,hu2,ru2⟩:=RepAll.get g2 y2;refine ⟨λj hj=>?_,λx H2 y=>?_⟩
    ·match j,hj with
     |0,_=>exact ⟨vs0,u0,q0,hu0⟩
     |1,_=>exact ⟨vs1,u1,q1,hu1⟩
     |2,_=>exact ⟨vs2,u2,q2,hu2⟩
    obtain ⟨T,us,hT,rfl,rfl,hlen,hz⟩:=y;have z0:=hz 0 (by decide) vs0 q0
    rw [hu0]at z0;have z1:=hz 1 (by decide) vs1 q1
    rw [hu1]at z1;have z2:=hz 2 (by decide) vs2 q2
    rw [hu2]at z2;obtain rfl:us=[u0,u1,u2]:=by
     match us,hlen with
     |[w0,w1,w2],_ =>
      cases z0;cases z1;cases z2;rfl
    have sg:bb G (upd G T (.tup [u0,u1,u2])):=(bb.refl G).upd (s2.free hT);exact ⟨upd G T _,Ext.allocF s2 hT,.tup cA (.cons ((ru0.same s1).same sg) (.cons ((ru1.same s1).same sg) (.cons ((ru2.same s1).same sg) .nil)))⟩
   ·rw [pT]at hn
    rw [RepAll.len g0];exact hn
  ·exact px.elim
 ·exact px.elim
theorem Gx {ts:List Expr} {tk:Nat} {a b c:Expr} {fa fb fc:Fe} {p tpos pos:Pos} (hg:Gl X "zip") (hm:X.mg "zip" = none) (ha:DE M X a fa) (hb:DE M X b fb) (hc:DE M X c fc)
  (s0:starEach [a,b,c] X.env=(false,eval a X.env) :: starEach [b,c] X.env:=by rfl)
  (s1:starEach [b,c] X.env=(false,eval b X.env) :: starEach [c] X.env:=by rfl)
  (s2:starEach [c] X.env=(false,eval c X.env) :: starEach [] X.env:=by rfl)
  (hs2:(backTo pos (starEach [b,c] X.env)).any (·.1)=false:=by rfl) :
  DI M X (.Tuple ts tk tpos) (.Call (.Name "zip" p) [a,b,c] [] pos) (zh (af fa (af fb (af fc av)))):=λhK hM=>by
 have q:=HF (es:=ts) (tk:=tk) (tpos:=tpos) (p:=p) (pos:=pos) hg hm ((ab ha (ab hb (ab hc ao s2) s1) s0) hK hM) s0 hs2;rw [hK]at q;exact λpins s σ H R' I z=>q pins s σ H R' I (Kg z)
end
theorem KR {al:Fa} {ρ:Env}:zh al ρ=unK (λxs=>zN3 (xs.map OD.er)) (al ρ):=by
 unfold zh;cases al ρ <;> rfl
section
variable {M:Mx} {n:Nat} {F H:Hp} {σ:St} {D:Ends} {R':It->Hp->Prop} {X:Cx}
end
end L3
namespace L2
open PySem PySem.Spec PyProof.Rows
theorem yx {X:Cx}:Hd X (wA X.K):=by
 intro pins s σ H o y ov iv Q I rx ry h;obtain ⟨p,xs,i,z,rfl,rfl,hq,he,q⟩:=h;cases rx;obtain ⟨t,rfl⟩:=ry;obtain ⟨its,r,pl,hz⟩:=I.list hq;obtain ⟨j,h1,h2,h3,h4,h5⟩:=nt he;obtain ⟨w,ew,rw'⟩:=r.get h2;have hl:=r.length;have hn:=kn;have fin:EP X pins σ Q w s:=⟨z,H,I,rw',q⟩;by_cases h0:0<=i
 ·have hj:i.toNat=j:=by
   rw [seqIndex_of h0 h5]at h1;exact Zz h1
  exact wpAny_getItem_list pl.isList h0 (by lia) (by rw [hj];simpa using ew) fin
 ·have hj:(i+(its.toArray.size:Int)).toNat=j:=by
   rw [seqIndex_neg (by lia) h4]at h1
   rw [ZA,<-hl];exact Zz h1
  exact wpAny_getItem_list_neg pl.isList (by lia) (by rw [ZA] <;> lia) (by lia) (by rw [hj];simpa using ew) fin
end L2
namespace L3
open PySem L2 PySem.Spec PyProof.Rows
noncomputable def intAt (xs:List OD) (j:Nat):Option Int:=match xs[j]? with
 |some (.sh (.int p))=>some p
 |_=>none
noncomputable def m6 (i:Nat) (f:Int->Int->Int) (k a:Fe):Fs:=fun ρ=>match ρ[i]? with
 |some (some (.ol xs))=>(k ρ).bind λz=>match z.er with
  |.int q=>match ixN xs.length q with
   |some j=>match intAt xs j with
    |some p=>(a ρ).bind λy=>match y.er with
     |.int r=>.ok (.nx (ρ.set i (some (.ol (xs.set j (.sh (.int (f p r))))))))
     |_=>.bad
    |none=>.bad
   |none=>.bad
  |_=>.bad
 |_=>.bad
section
variable {M:Mx} {n:Nat} {F H:Hp} {σ:St} {D:Ends} {X:Cx} {b e:Expr} {fa fb:Fe} {x:Str} {p pos:Pos}
theorem Gb {i:Nat} {f:Int->Int->Int} {a k:Fe} (h:tS M n (m6 i f k a) D σ H):CF (og i) (tD M n k) (tD M n a) (wA M.K) (ipI f) y8 D σ H:=by
 obtain ⟨F,ρ,fp,S,p⟩:=h;unfold m6 at p;split at p
 ·rename_i xs e
  obtain ⟨l,vs,fl,h1,h2,h3,nf,ff,wr⟩:=S.write e;refine ⟨_,h1,F,ρ,fp,S,(aG.bind p).mono λz pz u F2 H2 fz e2 r2 w2=>?_⟩
  obtain ⟨G2,d2,k2⟩:=r2.frz e2 w2;generalize z.er=dz at pz k2
  cases dz with
  |int q =>
   cases k2;have pz':aG M H fp (g8 M n F H fp D) (match ixN xs.length q with
    |some j=>match intAt xs j with
     |some p=>(a ρ).bind λy=>match y.er with
      |.int r=>.ok (.nx (ρ.set i (some (.ol (xs.set j (.sh (.int (f p r))))))))
      |_=>.bad
     |none=>.bad
    |none=>.bad):=pz
   cases hj:ixN xs.length q with
   |none =>
    rw [hj]at pz';exact pz'.elim
   |some j =>
    rw [hj]at pz';have hjl:=yi hj;have pz2:aG M H fp (g8 M n F H fp D) (match intAt xs j with
     |some p=>(a ρ).bind λy=>match y.er with
      |.int r=>.ok (.nx (ρ.set i (some (.ol (xs.set j (.sh (.int (f p r))))))))
      |_=>.bad
     |none=>.bad):=pz'
    cases hp:intAt xs j with
    |none =>
     rw [hp]at pz2;exact pz2.elim
    |some m =>
     rw [hp]at pz2;have hx:xs[j]?=some (.sh (.int m)):=by
      unfold intAt at hp;split at hp
      ·rename_i p' hq
       cases hp;exact hq
      ·cases hp
     obtain ⟨v0,f0,g1,g2,b1,b2,b3,b4⟩:=h3.at hx;cases b2 with
     |sh rr =>
     cases rr;have at':atI vs q=some (.int m):=by
      unfold atI;rw [h3.len,hj];exact b1
     refine ⟨l,vs,q,_,rfl,rfl,SqL.of (d2.hh _ _ h2),at',?_⟩;have pz3:aG M H fp (g8 M n F H fp D) ((a ρ).bind λy=>match y.er with
      |.int r=>.ok (.nx (ρ.set i (some (.ol (xs.set j (.sh (.int (f m r))))))))
      |_=>.bad):=pz2
     refine ⟨G2,ρ,fp,S.ext d2,((aG.bind pz3).ext d2).mono λy py v F3 H3 fy e3 r3 w3=>?_⟩
     obtain ⟨G3,d3,k3⟩:=r3.frz e3 w3;generalize y.er=dy at py k3
     cases dy with
     |int r =>
      cases k3;have e12:=d2.trans d3;refine ⟨m,r,rfl,rfl,l,vs,q,j,rfl,rfl,e12.hh _ _ h2,by rw [h3.len];exact hj,?_⟩
      subst b3;have o:=b4 G3 H3 e12.ff (λb m o q=>e12.hh _ _ q) (.int (f m r)) (.sh (.int (f m r))) [] (.sh (.int _))
      rw [List.nil_append]at o;rw [List.nil_append]at nf;obtain ⟨fp',S',st,_⟩:=wr G3 H3 _ _ _ e12 o nf (λb m=>.inl (by simpa using m)) λb m=>let ⟨_,q⟩:=h3.dom b (by simpa using m);e12.nw b (cy q) (ff b (by simpa using m))
      exact py σ G3 _ fp' S' st
     |none=>exact py.elim
     |bool _=>exact py.elim
     |str _=>exact py.elim
     |list _=>exact py.elim
     |tuple _=>exact py.elim
     |dict _=>exact py.elim
  |none=>exact pz.elim
  |bool _=>exact pz.elim
  |str _=>exact pz.elim
  |list _=>exact pz.elim
  |tuple _=>exact pz.elim
  |dict _=>exact pz.elim
 ·exact p.elim
theorem nz {op:Operator} {p2:Pos} {f:Int->Int->Int} (i:Nat) (hop:PIp X op (ipI f)) (hb:DE M X b fb) (h:DE M X e fa) (hN:X.N[i]?=some x:=by rfl) (hv:Vis X.env.scope x:=by first | exact Or.inl rfl | exact Or.inr (Or.inl rfl) | exact Or.inr (Or.inr rfl)) (hd:(x == ("__debug__" : Str))=false:=by decide) (hcd:(x == ("__classdict__" : Str))=false:=by decide)
  (ha:∀ov iv new,augStore b ov iv new=(do holding [new,ov,iv] (setItem ov iv new);release [new,ov,iv] [];pure .next):=by intros;rfl):DS M X (.AugAssign (.Subscript (.Name x p) b p2) op e pos) (m6 i f fb fa):=λhK hM=>by
 have q:=BG (op:=op) (tpos:=p2) (pos:=pos) (ju (pos:=p) hN hv hd hcd) (hb hK hM) (yx (X:=X)) (h hK hM) hop set_list ha;rw [hK]at q;exact psI q λ_ _ _ z=>Gb z
end
noncomputable def y7 (o:Option (Option OD)) (i:Nat) (f:Int->Int->Int) (k:R OD) (a:R OD) (ρ:Env):R Out:=match o with
 |some (some (.ol xs))=>k.bind λz=>match z.er with
  |.int q=>match ixN xs.length q with
   |some j=>match intAt xs j with
    |some p=>a.bind λy=>match y.er with
     |.int r=>.ok (.nx (ρ.set i (some (.ol (xs.set j (.sh (.int (f p r))))))))
     |_=>.bad
    |none=>.bad
   |none=>.bad
  |_=>.bad
 |_=>.bad
theorem uF {i:Nat} {f:Int->Int->Int} {k a:Fe} {ρ:Env}:m6 i f k a ρ=y7 ρ[i]? i f (k ρ) (a ρ) ρ:=rfl
theorem qQ {xs:List OD} {i j:Nat} {z p r:Int} {f:Int->Int->Int} {ρ:Env} (h:ixN xs.length z=some j) (hx:xs[j]?=some (.sh (.int p))) :
    y7 (some (some (.ol xs))) i f (.ok (.sh (.int z))) (.ok (.sh (.int r))) ρ=.ok (.nx (ρ.set i (some (.ol (xs.set j (.sh (.int (f p r)))))))):=by
  unfold y7;have e:intAt xs j=some p:=by unfold intAt;rw [hx]
  show (match (OD.sh (PyData.int z)).er with
    |.int q=>match ixN xs.length q with
      |some j=>match intAt xs j with
        |some p=>(R.ok (OD.sh (.int r))).bind λy=>match y.er with
          |.int r=>R.ok (Out.nx (ρ.set i (some (.ol (xs.set j (.sh (.int (f p r))))))))
          |_=>.bad
        |none=>.bad
      |none=>.bad
    |_=>.bad)=_
  rw [ee];show (match ixN xs.length z with
      |some j=>match intAt xs j with
        |some p=>(R.ok (OD.sh (.int r))).bind λy=>match y.er with
          |.int r=>R.ok (Out.nx (ρ.set i (some (.ol (xs.set j (.sh (.int (f p r))))))))
          |_=>.bad
        |none=>.bad
      |none=>.bad)=_
  rw [h];show (match intAt xs j with
        |some p=>(R.ok (OD.sh (.int r))).bind λy=>match y.er with
          |.int r=>R.ok (Out.nx (ρ.set i (some (.ol (xs.set j (.sh (.int (f p r))))))))
          |_=>.bad
        |none=>.bad)=_
  rw [e];show (match (OD.sh (PyData.int r)).er with
          |.int r=>R.ok (Out.nx (ρ.set i (some (.ol (xs.set j (.sh (.int (f p r))))))))
          |_=>.bad)=_
  rw [ee]
end L3
namespace L2
open PySem PySem.Spec PyProof.Rows
section
variable {prog:Program} {w:World} {A:Around} {E:Value->Shared->Prop} {s:Shared}
end
structure ZT (h:Heap) (n0 n:Nat) (ls:Nat->Nat) (is:Nat->Nat) (f0:Value) (arr:List Value):Prop where
 zp:h.get? (n0+n+2)=some { cls:=.type "zip",dict:=none,data:=.fields #[f0,.bool false,.bool false,.ref (n0+n),.ref (n0+n+1)],slots:=#[] }
 ti:h.get? (n0+n)=some { cls:=.type "tuple",data:=.seq (kJ n0 n).toArray }
 to:h.get? (n0+n+1)=some { cls:=.type "tuple",data:=.seq arr.toArray }
 it:∀j,j<n->h.IsTupleIter (n0+j) (ls j) (is j)
section
variable {prog:Program} {w:World} {A:Around} {E:Value->Shared->Prop} {s:Shared}
end
end L2
namespace L3
open PySem L2 PySem.Spec PyProof.Rows
section
variable {M:Mx} {n:Nat} {F H:Hp} {σ:St} {D:Ends} {R':It->Hp->Prop} {X:Cx} {a b:Expr} {fa fb:Fe} {pos:Pos}
end
mutual
noncomputable def nol:PyData->Bool
 |.tuple ds=>Bh ds
 |.list _=>false
 |.dict _=>false
 |.none=>true
 |.bool _=>true
 |.int _=>true
 |.str _=>true
noncomputable def Bh:List PyData->Bool
 |[]=>true
 |d :: ds=>nol d && Bh ds
end
section
variable {K:PySem.W.Frag} {F H:Hp} {f:List Addr}
mutual
theorem yb (hl:∀b∈f,∃ws,F b=some (.lst ws)) {v:V} {d:PyData}:Rep K F v d->nol d=true->Rep K (o5 F f) v d
 |.non,_=>.non
 |.bl b,_=>.bl b
 |.int i,_=>.int i
 |.str x,_=>.str x
 |.lst _ _,e=>by rw [nol]at e;cases e
 |.dct _ _ _,e=>by unfold dD at e;rw [nol]at e;cases e
 |.tup (a:=a) h1 h2,e=>by
  rw [nol]at e;refine .tup ?_ (qg hl h2 e);rw [jI λm=>by
   obtain ⟨ws,q⟩:=hl a m;rw [h1]at q;cases q]
  exact h1
theorem qg (hl:∀b∈f,∃ws,F b=some (.lst ws)) {vs:List V} {ds:List PyData}:RepAll K F vs ds->Bh ds=true->RepAll K (o5 F f) vs ds
 |.nil,_=>.nil
 |.cons h r,e=>by
  rw [Bh,Zv]at e;exact .cons (yb hl h e.1) (qg hl r e.2)
end
end
section
variable {M:Mx} {n:Nat} {σ:L2.St} {H:Hp} {Q:VK}
end
section
variable {M:Mx} {X:Cx} {e:Expr} {fa fb:Fe}
end
end L3
namespace L2
open PySem PySem.Spec PyProof.Rows
section
variable {prog:Program} {w:World} {A:Around} {E:Value->Shared->Prop} {s:Shared}
end
section
variable {prog:Program} {w:World} {A:Around} {E:Value->Shared->Prop} {s:Shared}
end
section
variable {prog:Program} {w:World} {A:Around} {E:Value->Shared->Prop} {s:Shared}
end
structure LZ (X:Cx) (H0 H:Hp) (xs ys:List V) (Ts:List Addr):Prop where
 up:bb H0 H
 new:∀c o,H c=some o->H0 c=some o\/c∈Ts
 free:∀T∈Ts,H0 T=none
 tup:∀(j:Nat) (T:Addr),Ts[j]?=some T->∃x y,xs[j]?=some x/\ys[j]?=some y/\H T=some (.tup [x,y])
end L2
namespace L3
open PySem L2 PySem.Spec PyProof.Rows
section
variable {M:Mx} {X:Cx}
open Classical in
end
section
variable {X:Cx} {pins:List (Addr×Obj)} {σ:St} {H':Hp} {s':Shared} {B h'':Heap}
end
section
variable {X:Cx} {E:XK} {pins:List (Addr×Obj)} {σ:St} {H:Hp} {s s':Shared} {e:Value}
end
noncomputable abbrev vE:List Value:=[.type "ValueError",.type "Exception",.type "BaseException",.type "object"]
noncomputable abbrev vN:String := "ValueError.__new__"
section
variable {M:Mx} {X:Cx} {x t:Str} {j:Nat} {np cpos pos p2:Pos}
end
end L3
namespace L3
open PySem L2 PySem.Spec PyProof.Rows Builtin Builtin.ObjectAttr Builtin.Getset_descriptor
structure ExcK (K:PySem.W.Frag) (C:Addr):Prop where
 ex:PySem.W.excIn K C vE vN=true
 ga:PySem.W.findIn K (.ref C) "__getattribute__" = some (some (.builtin "BaseException.__getattribute__"))
 ca:PySem.W.findIn K (.ref C) "__class__" = some (some (.builtin "object.__class__"))
 ng:PySem.W.findIn K (.ref C) "__getattr__" = some none
 mo:PySem.W.mroIn K C (.type "object")=some true
section
variable {prog:Program} {w:World} {A:Around} {E:Value->Shared->Prop} {h:Heap} {g:Array GenState} {d:Drawn} {t:Nat} {os:OsState} {a C:Addr} {o:Obj} {K:PySem.W.Frag}
end
end L3
namespace L3
open PySem L2 PySem.Spec PyProof.Rows
section
variable {M:Model} {A:Around} {E:Value->Shared->Prop} {h:Heap} {g:Array GenState} {d:Drawn} {t:Nat} {os:OsState} {e C D:Addr} {o:Obj} {K:PySem.W.Frag}
end
section
variable {X:Cx} {ea:Addr} {oe:Obj} {pins:List (Addr×Obj)} {σ:St} {H:Hp} {s:Shared}
end
noncomputable def tB (P:St->Prop) (b:Bool):TE:=fun σ H Q=>P σ/\∀H',bb H H'->Q (.bl b) H'
section
variable {X:Cx} {P:St->Prop} {a b e:Expr} {c d:Bool} {pos p p2 p3:Pos} {i j:Nat} {x y:Str}
end
structure Xs (X:Cx) (C ea:Addr) (oe:Obj):Prop where
 k:ExcK X.K C
 pin:(ea,oe)∈X.pn
 ob:oe.cls=.ref C
section
variable {X:Cx} {P:St->Prop} {es:List Expr} {c:Bool} {pos p p2 p3:Pos} {i j x1:Nat} {x y:Str} {C ea D:Addr} {oe:Obj} {Ds:List Addr}
end
section
variable {P:Program} {w:World} {fs:List Addr} {H1 H':Hp} {h1 hs h5 B:Heap}
end
section
variable {X:Cx} {pins:List (Addr×Obj)} {σ:St} {H:Hp} {s:Shared} {i:Nat} {n:Str}
end
section
variable {X:Cx} {pins:List (Addr×Obj)} {σ:St} {H1:Hp} {s1 s':Shared} {E':XK} {ev:Value} {D:Addr} {dx n:Str} {b0:Stmt} {suite:List Stmt} {hpos np:Pos} {Q:Flow->Shared->Prop} {E:Value->Shared->Prop} {i j:Nat}
end
section
variable {X:Cx} {pins:List (Addr×Obj)} {σ:St} {H':Hp} {C ea:Addr} {n:Str} {b0:Stmt} {suite:List Stmt} {hpos:Pos} {Q:Flow->Shared->Prop} {E:Value->Shared->Prop} {i j:Nat} {b:Bool}
end
section
variable {M:Mx} {X:Cx} {k:Nat} {f:Addr} {fd:FuncData} {ps:List Str} {x dx:Str} {p pos cpos epos hpos np:Pos} {fn:Fn} {al:Fa} {e:Expr} {es:List Expr} {D:Addr} {nm:Option Str} {b0:Stmt} {suite:List Stmt} {ok:L3.Env->Bool} {j:Nat} {tbl:List (Str×Bool)}
end
section
variable {M:Mx} {X:Cx} {e:Expr} {pos:Pos} {fa:Fe}
end
end L3
namespace L3
open PySem L2
section
variable {c:Str} {ρ:L3.Env} {p:Fs}
end
end L3
namespace L3
open PySem L2 PySem.Spec PyProof.Rows
section
variable {M:Mx} {X:Cx} {e:Expr} {pos p2:Pos} {fa:Fe}
end
section
variable {M:Mx} {X:Cx} {a b c:Expr} {pos:Pos} {fa fb fc:Fe}
end
end L3
namespace L3
open PySem L2 PySem.Spec PyProof.Rows PySem.W
section
variable {M:Mx} {X:Cx}
end
end L3
namespace L3
open PySem L2
end L3
namespace L3
open PySem L2 PySem.Spec PyProof.Rows PySem.W
section
variable {M:Mx} {X:Cx} {e a:Expr} {fa fb:Fe}
end
section
variable {op:Str->Str->PyData} {fa fb:Fe} {ρ:L3.Env} {x y:OD} {s t:Str}
end
end L3
namespace L3
open PySem L2
section
variable {K:PySem.W.Frag} {F H:Hp} {σ:St} {ρ:Env} {g fp:List Addr} {n:Nat}
end
section
variable {M:Mx} {X:Cx} {n:Nat} {H:Hp} {σ:St} {D:Ends} {x y:Str} {p p2 ap cp pos:Pos}
end
end L3
namespace L3
open PySem L2 PySem.Spec PyProof.Rows PySem.W
noncomputable def Kh:PyData->Option Bool
 |.bool b=>some b
 |.int i=>some (i != 0)
 |_=>none
noncomputable def CO:V->Option Bool
 |.bl b=>some b
 |.int i=>some (i != 0)
 |_=>none
noncomputable def lZ:List PyData->Option (List Bool)
 |[]=>some []
 |d :: r=>match Kh d,lZ r with
  |some b,some bs=>some (b :: bs)
  |_,_=>none
noncomputable def m5:List V->Option (List Bool)
 |[]=>some []
 |d :: r=>match CO d,m5 r with
  |some b,some bs=>some (b :: bs)
  |_,_=>none
noncomputable def qU:List PyData->R OD
 |[.list ds]=>(match lZ ds with
  |some bs=>oB (bs.any id)
  |none=>.bad)
 |_=>.bad
noncomputable def Jj (K:PySem.W.Frag):List V->Hp->VK->Prop:=λxs H Q=>∃(a:Addr) (vs:List V) (bs:List Bool),xs=[.ref a]/\RdK K H a vs/\m5 vs=some bs/\Q (.bl (bs.any id)) H
theorem HQ {K:PySem.W.Frag} {F:Hp} {ds:List PyData} {vs:List V} (h:RepAll K F vs ds):∀{bs:List Bool},lZ ds=some bs->m5 vs=some bs:=by
 induction ds generalizing vs with
 |nil =>
  intro bs e;cases h;exact e
 |cons d r ih =>
  intro bs e;cases h with
  |@cons v vs' _ _ q t =>
   unfold lZ at e;split at e
   ·rename_i b bs' e1 e2
    cases e;unfold m5;have ev:CO v=some b:=by
     cases q with
     |bl _=>exact e1
     |int _=>exact e1
     |non=>cases e1
     |str _=>cases e1
     |lst _ _=>cases e1
     |tup _ _=>cases e1
     |dct _ _ _=>cases e1
    rw [ev,ih t e2]
   ·cases e
theorem Hk {bs:List Bool} {vs:List V} {us:List Value} (r:Vals vs us):m5 vs=some bs->∀{i:Nat} {u:Value},us[i]?=some u->∃b v,bs[i]?=some b/\CO v=some b/\RelV v u:=by
 induction r generalizing bs with
 |nil =>
  intro e i u hu;simp at hu
 |@cons v u0 vs us q t ih =>
  intro e i u hu;unfold m5 at e;split at e
  ·rename_i b bs' e1 e2
   cases e;cases i with
   |zero =>
    cases hu;exact ⟨b,v,rfl,e1,q⟩
   |succ i =>
    obtain ⟨b',v',h1,h2,h3⟩:=ih e2 (i:=i) (by simpa using hu)
    exact ⟨b',v',by simpa using h1,h2,h3⟩
  ·cases e
theorem CZ {bs:List Bool} {vs:List V}:m5 vs=some bs->bs.length=vs.length:=by
 induction vs generalizing bs with
 |nil =>
  intro e;cases e;rfl
 |cons v vs ih =>
  intro e;unfold m5 at e;split at e
  ·rename_i b bs' e1 e2
   cases e;rw [Zr,Zr,ih e2]
  ·cases e
theorem range_any (bs:List Bool):((List.range bs.length).any λi=>(bs[i]?).getD false)=bs.any id:=by
 rw [Bool.eq_iff_iff,List.any_eq_true,List.any_eq_true];constructor
 ·rintro ⟨i,hi,h⟩
  rw [ZH]at hi;rw [Zg hi]at h;exact ⟨bs[i],List.getElem_mem hi,h⟩
 ·rintro ⟨b,hb,h⟩
  obtain ⟨i,hi⟩:=List.getElem?_of_mem hb;refine ⟨i,ZH.mpr (Zb.mp hi).1,?_⟩;rw [hi];exact h
section
variable {M:Mx} {X:Cx}
theorem o8 (hc:X.calm=true):fg X (.builtin "any") (Jj X.K):=by
 intro pins s σ H xs us Q I r h;obtain ⟨a,vs,bs,rfl,hq,ht,q⟩:=h;obtain ⟨u,rfl,ru⟩:=Vals.one r;cases (show u=Value.ref a from ru)
 obtain ⟨its,rv,pl,hz⟩:=I.list hq.sq;have hl:=pl.isList;have na:a<s.heap.objs.size:=by
  obtain ⟨_,z,_⟩:=hl;exact Heap.lt_size z
 have sz:its.toArray.size=bs.length:=by rw [ZA,CZ ht];exact rv.length.symm
 refine PySem.call_any_walk (wpAny_pyIter_list hl ⟨s.heap.objs.size,[s.heap.objs.size,a],[s.heap.objs.size],its.toArray.size,_,_,λi=>(bs[i]?).getD false,rfl,
  Walks.list (A:=X.A.in1) (I.ok.hd hc) _ a (Nat.ne_of_lt na) its.toArray,⟨⟨_,Heap.get?_push_size _ rfl,rfl,rfl⟩,hl.push _⟩,λi v s' Q' E' hP hQ=>?_,λh' tk hk=>?_⟩)
 ·have hv:its[i]?=some v:=by simpa using hP
  obtain ⟨b,w,h1,h2,h3⟩:=Hk rv ht hv;simp only [h1,Option.getD_some]at hQ;cases w with
  |bl c =>
   cases h2;cases (show v=Value.bool b from h3)
   exact wpAny_truthy_bool hQ
  |int c =>
   cases h2;obtain ⟨t,rfl⟩:=(show ∃t,v=Value.int c t from h3)
   exact truthy_int hQ
  |_=>cases h2
 ·have e:((List.range its.toArray.size).any λi=>(bs[i]?).getD false)=bs.any id:=by
   rw [sz];exact range_any bs
  rw [e];exact ⟨.bl _,H,I.kept (LSm.kept_iter hk),rfl,q⟩
theorem uM (hK:X.K=M.K):OkC M (Jj X.K) qU:=by
 rw [hK];intro x dx F H fp Q s rx p;unfold qU at p;split at p
 ·rename_i ds
  split at p
  ·rename_i bs hb
   cases rx with
   |cons r t =>
    cases t;cases r with
    |lst h1 h2=>exact ⟨_,_,bs,rfl,h1.same s,HQ h2 hb,OkE.val s p (.bl _)⟩
  ·exact p.elim
 ·exact p.elim
theorem xH {ds:List PyData} {bs:List Bool} (h:lZ ds=some bs):qU [.list ds]=.ok (.sh (.bool (bs.any id))):=by
 unfold qU;simp only [h];rfl
theorem wo (ns:List Int):lZ (ns.map PyData.int)=some (ns.map (· != 0)):=by
 induction ns with
 |nil=>rfl
 |cons n r ih =>
  rw [Zk];unfold lZ;rw [ih];rfl
theorem zQ (ns:List Bool):lZ (ns.map PyData.bool)=some ns:=by
 induction ns with
 |nil=>rfl
 |cons n r ih =>
  rw [Zk];unfold lZ;rw [ih];rfl
noncomputable def pO (i:Nat):Fs:=fun ρ=>match ρ[i]? with
 |some (some (.ol xs))=>match xs.getLast? with
  |some (.sh _)=>.ok (.nx (ρ.set i (some (.ol xs.dropLast))))
  |_=>.bad
 |_=>.bad
theorem CK {n:Nat} {σ:L2.St} {H:Hp} {D:Ends} {i:Nat} (h:tS M n (pO i) D σ H):m7 (AM M.K "list" F7 (og i)) D σ H:=by
 obtain ⟨F,ρ,fp,S,p⟩:=h;unfold pO at p;split at p
 ·rename_i xs e
  split at p
  ·rename_i d hd
   obtain ⟨l,vs,f,h1,h2,h3,nf,ff,wr⟩:=S.write e;obtain ⟨v,v1,v2,v3⟩:=h3.last hd;obtain ⟨fp',S',st,_⟩:=wr F H _ _ f (Ext.refl S.same) v3 nf (λb m=>.inl m) ff
   exact ⟨_,h1,.inl ⟨rfl,vs,SqL.of h2⟩,l,vs,v,rfl,rfl,h2,v1,p σ F _ fp' S' st⟩
  ·exact p.elim
 ·exact p.elim
theorem vH {x:Str} {p ap cp pos:Pos} (i:Nat) (hN:X.N[i]?=some x:=by rfl) (hv:Vis X.env.scope x:=by first | exact Or.inl rfl | exact Or.inr (Or.inl rfl) | exact Or.inr (Or.inr rfl)) (hd:(x == ("__debug__" : Str))=false:=by decide) (hcd:(x == ("__classdict__" : Str))=false:=by decide)
  (hbase:attributeBase (.Name x p) "pop" X.env (eval (.Name x p) X.env)=eval (.Name x p) X.env:=by rfl) (hline:(ap.endLine == cp.line)=true:=by rfl)
  (hsw:swapsWith (.Call (.Attribute (.Name x p) "pop" ap) [] [] cp) none pos.line X.env=pure false:=by rfl):DS M X (.Expr (.Call (.Attribute (.Name x p) "pop" ap) [] [] cp) pos) (pO i):=λhK hM =>
 K3 PySem.F.slot_list_pop PySem.F.type_list_pop yV (ju hN hv hd hcd) (λ_ _ _ q=>CK q) hbase hline hsw hK
noncomputable def xN (o:Option (Option OD)) (ρ:Env) (i:Nat):R Out:=match o with
 |some (some (.ol xs))=>match xs.getLast? with
  |some (.sh _)=>.ok (.nx (ρ.set i (some (.ol xs.dropLast))))
  |_=>.bad
 |_=>.bad
theorem zO {i:Nat} {ρ:Env}:pO i ρ=xN ρ[i]? ρ i:=rfl
theorem xV {i:Nat} {ρ:Env} {xs:List OD} {d:PyData}:xN (some (some (.ol (xs++[.sh d])))) ρ i=.ok (.nx (ρ.set i (some (.ol xs)))):=by
 unfold xN;simp
noncomputable def vW:PyData->PyData->R OD
 |.tuple xs,.tuple ys=>if xs≠[]/\ys≠[]/\xs.length+ys.length<=BIG then .ok (.sh (.tuple (xs++ys))) else .bad
 |_,_=>.bad
noncomputable def xT:R2:=λx y H Q=>∃l b xs zs,x=.ref l/\y=.ref b/\H l=some (.tup xs)/\H b=some (.tup zs)/\xs≠[]/\zs≠[]/\xs.length+zs.length<=sizeLine/\∀p,H p=none->Q (.ref p) (upd H p (.tup (xs++zs)))
theorem yR:OpR X (binaryOp .Add) xT:=by
 intro pins s σ H x y v u Q I rx ry h;obtain ⟨l,b,xs,zs,rfl,rfl,hH,hB,n1,n2,hz,q⟩:=h;cases rx;cases ry;obtain ⟨z1,vs,r1,p1⟩:=(show eY X.prog X.w H s.heap l (.tup xs) from I.hok l _ hH)
 obtain ⟨z2,ws,r2,p2⟩:=(show eY X.prog X.w H s.heap b (.tup zs) from I.hok b _ hB)
 obtain ⟨⟨cls,dd,data,sl⟩,ho,hc,n,hd⟩:=p1;obtain ⟨⟨cls2,dd2,data2,sl2⟩,ho2,hc2,m,hd2⟩:=p2;simp only at hc hd hc2 hd2;subst hc hd hc2 hd2;have hv:vs≠[]:=λe=>n1 (List.eq_nil_of_length_eq_zero (by rw [r1.length,e];rfl))
 have hw:ws≠[]:=λe=>n2 (List.eq_nil_of_length_eq_zero (by rw [r2.length,e];rfl))
 have e:vs.toArray++ws.toArray=(vs++ws).toArray:=by simp
 refine concat_meets ⟨_,ho,rfl⟩ ⟨_,ho2,rfl⟩ noFill_tuple_add seq_tuple_add PySem.F.slot_tuple_add PySem.F.entry_tuple_add (PySem.F.args_tuple_add_2 _ _)
  (tuple_addW2 l b vs.toArray ws.toArray n m dd dd2 sl sl2 (by simpa using hv) (by simpa using hw) (by rw [ZA,ZA,<-r1.length,<-r2.length];exact hz)) ⟨ho,ho2,?_⟩
 rw [e];have hf:H s.heap.objs.size=none:=I.hok.fresh (Zn _);refine ⟨.ref s.heap.objs.size,upd H s.heap.objs.size (.tup (xs++zs)),I.laid (t':=s.toks) (λb u e=>Heap.get?_push_of_some _ e) (Zn _) ?_,rfl,q _ hf⟩
 exact ⟨by rw [Zd];exact hz,vs++ws,r1.append r2,⟨_,Heap.get?_push_size _ rfl,rfl,_,rfl⟩⟩
theorem Ay:Ok2 M xT vW:=by
 intro x y dx dy F H fp Q s rx ry p;unfold vW at p;split at p
 ·split at p
  ·rename_i hl
   cases rx with
   |tup h1 h2 =>
    cases ry with
    |tup h3 h4 =>
     refine ⟨_,_,_,_,rfl,rfl,s _ _ h1,s _ _ h3,λe=>hl.1 ?_,λe=>hl.2.1 ?_,by rw [RepAll.len h2,RepAll.len h4];exact jq hl.2.2,λa ha=>OkE.tupF s p (Ext.refl s) (RepAll.app h2 h4) ha⟩
     ·exact List.eq_nil_of_length_eq_zero (by rw [<-RepAll.len h2,e];rfl)
     ·exact List.eq_nil_of_length_eq_zero (by rw [<-RepAll.len h4,e];rfl)
  ·exact p.elim
 ·exact p.elim
noncomputable def wW (neg:Bool):PyData->PyData->R OD
 |.int i,.list ds=>(match dJ ds with
  |some ns=>.ok (.sh (.bool (if neg then !decide (i∈ns) else decide (i∈ns))))
  |none=>.bad)
 |_,_=>.bad
theorem xZ (i:Int) (ns:List Int):inV (.int i) (ns.map V.int)=decide (i∈ns):=by
 unfold inV;rw [Bool.eq_iff_iff,List.any_map,List.any_eq_true,decide_eq_true_eq];constructor
 ·rintro ⟨n,hn,h⟩
  have h:(decide (n=i))=true:=by simpa [eqV]using h
  rw [<-of_decide_eq_true h];exact hn
 ·intro h
  exact ⟨i,h,by simp [eqV]⟩
theorem w6 (ns:List Int):(ns.map V.int).all my=true:=by
 rw [List.all_map,List.all_eq_true];intro x _;rfl
theorem Gi {neg:Bool} (hK:X.K=M.K):Ok2 M (rIn X.K neg) (wW neg):=by
 rw [hK];intro x y dx dy F H fp Q s rx ry p;unfold wW at p;split at p
 ·split at p
  ·rename_i ns hn
   cases rx;cases ry with
   |lst h1 h2 =>
    rw [jV hn]at h2;have e:=RepAll.toInts h2;subst e;refine ⟨_,_,rfl,.inl (h1.same s).sq,rfl,w6 ns,?_⟩;rw [xZ];exact OkE.val s p (.bl _)
  ·exact p.elim
 ·exact p.elim
theorem Js (neg:Bool) (i:Int) (ns:List Int):wW neg (.int i) (.list (ns.map PyData.int))=.ok (.sh (.bool (if neg then !decide (i∈ns) else decide (i∈ns)))):=by
 have e:dJ (ns.map PyData.int)=some ns:=gb ns;unfold wW;simp only [e]
theorem Df (xs ys:List PyData):vW (.tuple xs) (.tuple ys)=if xs≠[]/\ys≠[]/\xs.length+ys.length<=BIG then .ok (.sh (.tuple (xs++ys))) else .bad:=rfl
end
end L3
namespace B
noncomputable def IsE (n:Nat) (d:Nat->Nat->Int) (e:Nat->Int):Prop:=e 0=0/\∀k,0<k->k<n->(∀j,j<k->e j+d j k<=e k)/\∃j,j<k/\e k=e j+d j k
noncomputable def IsL (n:Nat) (d:Nat->Nat->Int) (T:Int) (l:Nat->Int):Prop:=l (n-1)=T/\∀k,k+1<n->(∀j,k<j->j<n->l k<=l j-d k j)/\∃j,k<j/\j<n/\l k=l j-d k j
end B
namespace B
inductive F where
 |nil
 |cons (k:Nat) (c r:F)
namespace F
noncomputable def pre:F->List Nat
 |nil=>[]
 |cons k c r=>k :: (pre c++pre r)
noncomputable def roots:F->List Nat
 |nil=>[]
 |cons k _ r=>k :: roots r
noncomputable def g6:F->List Nat
 |nil=>[]
 |cons k c r=>g6 r++(k :: g6 c)
noncomputable def app:F->F->F
 |nil,g=>g
 |cons k c r,g=>cons k c (app r g)
noncomputable def mir:F->F
 |nil=>nil
 |cons k c r=>app (mir r) (cons k (mir c) nil)
noncomputable def map (h:Nat->Nat):F->F
 |nil=>nil
 |cons k c r=>cons (h k) (map h c) (map h r)
noncomputable def Con (ch:Nat->List Nat):F->Prop
 |nil=>True
 |cons k c r=>ch k=roots c/\Con ch c/\Con ch r
noncomputable def Eld (e:Nat->Int):Int->F->Prop
 |_,nil=>True
 |p,cons k c r=>e k=p/\Eld e (k:Int) c/\Eld e p r
theorem pre_app:∀f g:F,pre (app f g)=pre f++pre g
 |nil,g=>rfl
 |cons k c r,g=>by rw [app,pre,pre,pre_app r g,List.cons_append,ZD]
theorem oG:∀f g:F,g6 (app f g)=g6 g++g6 f
 |nil,g=>by rw [app,g6,Zx]
 |cons k c r,g=>by rw [app,g6,g6,oG r g,ZD]
theorem kW:∀f g:F,roots (app f g)=roots f++roots g
 |nil,g=>rfl
 |cons k c r,g=>by rw [app,roots,roots,kW r g,List.cons_append]
theorem vi:∀f:F,app f nil=f
 |nil=>rfl
 |cons k c r=>by rw [app,vi r]
theorem pX:∀f g h:F,app (app f g) h=app f (app g h)
 |nil,g,h=>rfl
 |cons k c r,g,h=>by rw [app,app,app,pX r g h]
theorem vk:∀f g:F,mir (app f g)=app (mir g) (mir f)
 |nil,g=>by rw [app,mir,vi]
 |cons k c r,g=>by rw [app,mir,mir,vk r g,pX]
theorem mi:∀f:F,mir (mir f)=f
 |nil=>rfl
 |cons k c r=>by
  rw [mir,vk,mir,mir,mi c,mi r];rfl
theorem kU:∀f:F,pre (mir f)=g6 f
 |nil=>rfl
 |cons k c r=>by rw [mir,pre_app,kU r,g6,pre,kU c,pre,Zx]
theorem nH {ch:Nat->List Nat}:∀f g:F,Con ch (app f g) ↔ Con ch f/\Con ch g
 |nil,g=>by rw [app,Con];simp
 |cons k c r,g=>by rw [app,Con,Con,nH r g];simp only [and_assoc]
theorem nr {e:Nat->Int} {p:Int}:∀f g:F,Eld e p (app f g) ↔ Eld e p f/\Eld e p g
 |nil,g=>by rw [app,Eld];simp
 |cons k c r,g=>by rw [app,Eld,Eld,nr r g];simp only [and_assoc]
theorem rB {e:Nat->Int}:∀(p:Int) (f:F),Eld e p f->Eld e p (mir f)
 |_,nil,_=>trivial
 |p,cons k c r,h=>by
  obtain ⟨h1,h2,h3⟩:=h;rw [mir,nr];exact ⟨rB p r h3,h1,rB _ c h2,trivial⟩
theorem kX (h:Nat->Nat):∀f:F,pre (map h f)=(pre f).map h
 |nil=>rfl
 |cons k c r=>by rw [map,pre,kX h c,kX h r,pre,Zk,Zl]
theorem snoc:∀f:F,f≠nil->∃g k c,f=app g (cons k c nil)
 |nil,h=>absurd rfl h
 |cons k c nil,_=>⟨nil,k,c,rfl⟩
 |cons k c (cons k' c' r'),_=>by
  obtain ⟨g,a,b,e⟩:=snoc (cons k' c' r') (λz=>nomatch z)
  exact ⟨cons k c g,a,b,by rw [app,e]⟩
theorem jK {e:Nat->Int} {q:Int}:∀(p:Int) (f:F),Eld e p f->q≠p->(∀j∈pre f,(j:Int)≠q)->(pre f).filter (λj=>decide (e j=q))=[]
 |_,nil,_,_,_=>rfl
 |p,cons k c r,h,hp,hq=>by
  obtain ⟨h1,h2,h3⟩:=h;rw [pre,List.filter_cons,if_neg (by rw [decide_eq_true_eq,h1];exact λz=>hp z.symm),List.filter_append,jK _ c h2 (λz=>hq k (by rw [pre];exact Zf) z.symm) (λj hj=>hq j (by rw [pre];simp [hj])),jK p r h3 hp (λj hj=>hq j (by rw [pre];simp [hj]))]
  rfl
theorem sO {e:Nat->Int}:∀(p:Int) (f:F),Eld e p f->(∀j∈pre f,(j:Int)≠p)->(pre f).filter (λj=>decide (e j=p))=roots f
 |_,nil,_,_=>rfl
 |p,cons k c r,h,hq=>by
  obtain ⟨h1,h2,h3⟩:=h;rw [pre,List.filter_cons,if_pos (by rw [decide_eq_true_eq,h1]),List.filter_append,jK _ c h2 (λz=>hq k (by rw [pre];exact Zf) z.symm) (λj hj=>hq j (by rw [pre];simp [hj])),sO p r h3 (λj hj=>hq j (by rw [pre];simp [hj])),roots]
  rfl
theorem kS {ch ch':Nat->List Nat}:∀f:F,(∀q∈pre f,ch q=ch' q)->Con ch' f->Con ch f
 |nil,_,_=>trivial
 |cons k c r,h,hc=>by
  obtain ⟨h1,h2,h3⟩:=hc;exact ⟨(h k (by rw [pre];exact Zf)).trans h1,kS c (λq m=>h q (by rw [pre];simp [m])) h2,kS r (λq m=>h q (by rw [pre];simp [m])) h3⟩
theorem qY {e:Nat->Int}:∀(p:Int) (f:F),Eld e p f->(pre f).Nodup->(∀j∈pre f,(j:Int)≠p)->Con (λq=>(pre f).filter (λj=>decide (e j=(q:Int)))) f
 |_,nil,_,_,_=>trivial
 |p,cons k c r,h,nd,hp=>by
  obtain ⟨h1,h2,h3⟩:=h;rw [pre,List.nodup_cons,ZK]at nd;obtain ⟨nk,n1,n2,n3⟩:=nd;have hpk:(k:Int)≠p:=hp k (by rw [pre];exact Zf)
  have kc:∀j∈pre c,(j:Int)≠(k:Int):=λj m z=>nk (by
   have:j=k:=by lia
   rw [<-this];simp [m])
  have kr:∀j∈pre r,(j:Int)≠(k:Int):=λj m z=>nk (by
   have:j=k:=by lia
   rw [<-this];simp [m])
  have pc:∀j∈pre c,(j:Int)≠p:=λj m=>hp j (by rw [pre];simp [m])
  have pr:∀j∈pre r,(j:Int)≠p:=λj m=>hp j (by rw [pre];simp [m])
  have split:∀q:Nat,(q:Int)≠p->(pre (cons k c r)).filter (λj=>decide (e j=(q:Int)))=(pre c).filter (λj=>decide (e j=(q:Int)))++(pre r).filter (λj=>decide (e j=(q:Int))):=λq hq=>by
   rw [pre,List.filter_cons,if_neg (by rw [decide_eq_true_eq,h1];exact λz=>hq z.symm),List.filter_append]
  refine ⟨?_,kS c (λq m=>?_) (qY _ c h2 n1 kc),kS r (λq m=>?_) (qY p r h3 n2 pr)⟩
  ·show (pre (cons k c r)).filter (λj=>decide (e j=(k:Int)))=roots c
   rw [split k hpk,sO _ c h2 kc,jK p r h3 hpk kr,Zx]
  ·show (pre (cons k c r)).filter (λj=>decide (e j=(q:Int)))=(pre c).filter (λj=>decide (e j=(q:Int)))
   rw [split q (pc q m),jK p r h3 (pc q m) (λj mj z=>n3 q m j mj (by lia)),Zx]
  ·show (pre (cons k c r)).filter (λj=>decide (e j=(q:Int)))=(pre r).filter (λj=>decide (e j=(q:Int)))
   rw [split q (pr q m),jK _ c h2 (λz=>kr q m z) (λj mj z=>n3 j mj q m (by lia)),List.nil_append]
end F
end B
namespace B
namespace F
theorem f9:∀f:F,(g6 f).Perm (pre f)
 |nil=>List.Perm.refl _
 |cons k c r=>by
  rw [g6,pre];have h1:=f9 c;have h2:=f9 r;have:(g6 r++k :: g6 c).Perm (k :: (g6 r++g6 c)):=List.perm_middle;refine this.trans (List.Perm.cons k ?_);exact (h2.append h1).trans List.perm_append_comm
structure Pf (n:Nat) (e:Nat->Int) (c:F):Prop where
 pre:0 :: pre c=List.range n
 root:e 0=-1
 eld:Eld e 0 c
variable {n:Nat} {e:Nat->Int} {c:F}
noncomputable def full (c:F):F:=cons 0 c nil
theorem Pf.pos (h:Pf n e c):0<n:=by
 have:=congrArg List.length h.pre;rw [Zr,Zh]at this
 lia
theorem Pf.preF (h:Pf n e c):F.pre (full c)=List.range n:=by
 unfold full;rw [F.pre,F.pre,Zx];exact h.pre
theorem Pf.eldF (h:Pf n e c):Eld e (-1) (full c):=⟨h.root,h.eld,trivial⟩
theorem Pf.con (h:Pf n e c):Con (λq=>(List.range n).filter (λj=>decide (e j=(q:Int)))) (full c):=by
 have:=qY (-1) (full c) h.eldF (by rw [h.preF];exact List.nodup_range) (λj _=>by lia)
 rw [h.preF]at this;exact this
noncomputable def R (c:F):List Nat:=g6 (full c)
theorem EZ (c:F):R c=0 :: g6 c:=by
 unfold R full;rw [g6,g6,List.nil_append]
theorem Pf.perm (h:Pf n e c):(R c).Perm (List.range n):=by
 have:=f9 (full c);rw [h.preF]at this;exact this
theorem Pf.nodup (h:Pf n e c):(R c).Nodup:=h.perm.nodup_iff.mpr List.nodup_range
theorem Pf.mem (h:Pf n e c) {k:Nat}:k∈R c ↔ k<n:=by rw [h.perm.mem_iff,ZH]
theorem Pf.len (h:Pf n e c):(R c).length=n:=by rw [h.perm.length_eq,Zh]
noncomputable def g (c:F) (k:Nat):Nat:=(R c).idxOf k
theorem Pf.at_g (h:Pf n e c) {k:Nat} (hk:k<n):(R c)[g c k]?=some k:=by
 unfold g;rw [Zg (List.idxOf_lt_length_of_mem (h.mem.mpr hk)),List.getElem_idxOf]
theorem Pf.g_at (h:Pf n e c) {i k:Nat} (hk:(R c)[i]?=some k):g c k=i:=by
 unfold g;obtain ⟨h1,h2⟩:=Zb.mp hk;rw [<-h2];exact h.nodup.idxOf_getElem i h1
theorem uC (c:F):g c 0=0:=by
 unfold g;rw [EZ,List.idxOf_cons_self]
noncomputable def e1 (e:Nat->Int) (c:F) (i:Nat):Int:=match (R c)[i]? with
 |some k=>if e k<0 then -1 else (g c (e k).toNat:Int)
 |none=>-1
noncomputable def gi (c:F) (p:Int):Int:=if p<0 then -1 else (g c p.toNat:Int)
theorem Pf.e1_g (h:Pf n e c) {k:Nat} (hk:k<n):e1 e c (g c k)=gi c (e k):=by
 unfold e1 gi;rw [h.at_g hk]
theorem qw {e e':Nat->Int} {h:Nat->Nat} {hi:Int->Int} (hh:∀k:Nat,hi (k:Int)=(h k:Int)):∀(p:Int) (f:F),(∀k∈F.pre f,e' (h k)=hi (e k))->Eld e p f->Eld e' (hi p) (map h f)
 |_,nil,_,_=>trivial
 |p,cons k c r,hp,he=>by
  obtain ⟨h1,h2,h3⟩:=he;refine ⟨?_,?_,qw hh p r (λj m=>hp j (by rw [F.pre];simp [m])) h3⟩
  ·rw [hp k (by rw [F.pre];exact Zf),h1]
  ·have:=qw hh (k:Int) c (λj m=>hp j (by rw [F.pre];simp [m])) h2
   rw [hh]at this;exact this
noncomputable def c1 (c:F):F:=map (g c) (mir c)
theorem wt (c:F):full (c1 c)=map (g c) (mir (full c)):=by
 unfold full c1;rw [mir,mir,app,map,map,uC]
theorem Pf.range_g (h:Pf n e c):(R c).map (g c)=List.range n:=by
 apply List.ext_getElem?
 intro i;rw [Za];by_cases hi:i<n
 ·obtain ⟨k,hk⟩:∃k,(R c)[i]?=some k:=⟨(R c)[i]'(by rw [h.len];exact hi),by simp⟩
  rw [hk,Option.map_some,h.g_at hk,Zy hi]
 ·rw [Zu (by rw [h.len];lia),Zu (by rw [Zh];lia)]
  rfl
theorem Pf.mirrored (h:Pf n e c):Pf n (e1 e c) (c1 c):=by
 have hp:F.pre (full (c1 c))=List.range n:=by
  rw [wt,kX,kU];exact h.range_g
 refine ⟨?_,?_,?_⟩
 ·unfold full at hp
  rw [F.pre,F.pre,Zx]at hp;exact hp
 ·have:=h.e1_g h.pos
  rw [uC,h.root]at this;exact this
 ·have he:Eld (e1 e c) (gi c 0) (map (g c) (mir c)):=qw (e:=e) (h:=g c) (λk=>by unfold gi;rw [if_neg (by lia)];rfl) 0 (mir c) (λk hk=>by
   refine h.e1_g ?_;rw [kU,(f9 c).mem_iff]at hk;have:k∈(0 :: F.pre c):=Ze _ hk;rw [h.pre,ZH]at this;exact this) (rB 0 c h.eld)
  have z:gi c 0=0:=by
   unfold gi;rw [if_neg (by lia)]
   show ((g c 0:Nat):Int)=0
   rw [uC];rfl
  rw [z]at he;exact he
theorem nG {e:Nat->Int}:∀(p:Int) (f:F),Eld e p f->∀k∈F.pre f,e k=p\/∃j:Nat,j∈F.pre f/\e k=(j:Int)
 |_,nil,_,_,m=>by cases m
 |p,cons a c r,h,k,m=>by
  obtain ⟨h1,h2,h3⟩:=h;rw [F.pre]at m;rcases Zo.mp m with rfl | m
  ·exact .inl h1
  ·rcases Zs.mp m with m | m
   ·rcases nG _ c h2 k m with z | ⟨j,j1,j2⟩
    ·exact .inr ⟨a,by rw [F.pre];exact Zf,z⟩
    ·exact .inr ⟨j,by rw [F.pre];simp [j1],j2⟩
   ·rcases nG p r h3 k m with z | ⟨j,j1,j2⟩
    ·exact .inl z
    ·exact .inr ⟨j,by rw [F.pre];simp [j1],j2⟩
theorem Pf.elder (h:Pf n e c) {k:Nat} (hk:k<n):e k=-1\/∃j:Nat,j<n/\e k=(j:Int):=by
 have:=nG (-1) (full c) h.eldF k (by rw [h.preF,ZH];exact hk)
 rcases this with z | ⟨j,j1,j2⟩
 ·exact .inl z
 ·rw [h.preF,ZH]at j1
  exact .inr ⟨j,j1,j2⟩
end F
end B
namespace B
namespace F
noncomputable def path:F->List Nat
 |nil=>[]
 |cons k c nil=>k :: path c
 |cons _ _ (cons k c r)=>path (cons k c r)
noncomputable def j_:F->Nat->Nat->F
 |f,0,x=>app f (cons x nil nil)
 |nil,_+1,_=>nil
 |cons k c nil,d+1,x=>cons k (j_ c d x) nil
 |cons k c (cons k' c' r'),d+1,x=>cons k c (j_ (cons k' c' r') (d+1) x)
theorem pW:∀(f:F) (x:Nat),path (app f (cons x nil nil))=[x]
 |nil,x=>rfl
 |cons k c nil,x=>rfl
 |cons k c (cons k' c' r'),x=>by
  have:=pW (cons k' c' r') x;rw [app]at this ⊢;rw [app];rw [path];exact this
theorem jF {e e':Nat->Int}:∀(p:Int) (f:F),(∀k∈F.pre f,e' k=e k)->Eld e p f->Eld e' p f
 |_,nil,_,_=>trivial
 |p,cons k c r,h,hc=>by
  obtain ⟨h1,h2,h3⟩:=hc;exact ⟨(h k (by rw [F.pre];exact Zf)).trans h1,jF _ c (λq m=>h q (by rw [F.pre];simp [m])) h2,jF p r (λq m=>h q (by rw [F.pre];simp [m])) h3⟩
theorem ym {k d x:Nat} {c r:F}:∃k' c' r',j_ (cons k c r) (d+1) x=cons k' c' r':=by
 cases r with
 |nil=>exact ⟨_,_,_,by rw [j_]⟩
 |cons a b t=>exact ⟨_,_,_,by rw [j_]⟩
theorem nI {e:Nat->Int} {x:Nat}:∀(f:F) (d:Nat) (p:Int),d<=(path f).length->Eld e p f->e x=(if d=0 then p else ((path f)[d-1]?.getD 0:Int)) ->
  F.pre (j_ f d x)=F.pre f++[x]/\path (j_ f d x)=(path f).take d++[x]/\Eld e p (j_ f d x)
 |f,0,p,_,h,hx=>by
  rw [j_,pre_app,pW,nr];exact ⟨rfl,rfl,h,by simpa using hx,trivial,trivial⟩
 |nil,d+1,p,hd,_,_=>by
  rw [path]at hd;simp at hd
 |cons k c nil,d+1,p,hd,h,hx=>by
  obtain ⟨h1,h2,h3⟩:=h;rw [path,Zr]at hd;have ih:=nI (e:=e) (x:=x) c d (k:Int) (by lia) h2 (by
   rw [hx,if_neg (by lia),path]
   by_cases d0:d=0
   ·subst d0
    rfl
   ·obtain ⟨m,rfl⟩:∃m,d=m+1:=⟨d-1,by lia⟩
    rw [if_neg (by lia)]
    rfl)
  rw [j_,F.pre,F.pre,ih.1,F.pre];refine ⟨by simp [F.pre],?_,h1,ih.2.2,trivial⟩
  rw [path,path,ih.2.1,List.take_succ_cons,List.cons_append]
 |cons k c (cons k' c' r'),d+1,p,hd,h,hx=>by
  obtain ⟨h1,h2,h3⟩:=h;have hp:path (cons k c (cons k' c' r'))=path (cons k' c' r'):=by rw [path]
  rw [hp]at hd hx;have ih:=nI (e:=e) (x:=x) (cons k' c' r') (d+1) p hd h3 hx;obtain ⟨a,b,t,hq⟩:=ym (k:=k') (d:=d) (x:=x) (c:=c') (r:=r');rw [j_,F.pre,ih.1,hp];refine ⟨?_,?_,h1,h2,ih.2.2⟩
  ·show k :: (F.pre c++(F.pre (cons k' c' r')++[x]))=(k :: (F.pre c++F.pre (cons k' c' r')))++[x]
   rw [List.cons_append,ZD]
  rw [hq]at ih ⊢;rw [path];exact ih.2.1
noncomputable def iq:F->F
 |nil=>nil
 |cons _ nil nil=>nil
 |cons k (cons a b t) nil=>cons k (iq (cons a b t)) nil
 |cons k c (cons a b t)=>cons k c (iq (cons a b t))
theorem lC {e:Nat->Int}:∀(f:F) (p:Int),f≠nil->Eld e p f->F.pre (iq f)=(F.pre f).dropLast/\Eld e p (iq f)
 |nil,_,h,_=>absurd rfl h
 |cons k nil nil,p,_,_=>⟨rfl,trivial⟩
 |cons k (cons a b t) nil,p,_,h=>by
  obtain ⟨h1,h2,h3⟩:=h;obtain ⟨i1,i2⟩:=lC (e:=e) (cons a b t) (k:Int) (λz=>nomatch z) h2
  rw [iq];refine ⟨?_,h1,i2,trivial⟩;show k :: (F.pre (iq (cons a b t))++[])=(k :: (F.pre (cons a b t)++[])).dropLast
  rw [i1,Zx,Zx,List.dropLast_cons_of_ne_nil (by rw [F.pre];simp)]
 |cons k c (cons a b t),p,_,h=>by
  obtain ⟨h1,h2,h3⟩:=h;obtain ⟨i1,i2⟩:=lC (e:=e) (cons a b t) p (λz=>nomatch z) h3
  have e1:iq (cons k c (cons a b t))=cons k c (iq (cons a b t)):=by
   cases c <;> rw [iq]
  rw [e1];refine ⟨?_,h1,h2,i2⟩;rw [F.pre,i1];show _=(k :: (F.pre c++F.pre (cons a b t))).dropLast
  have hne:F.pre c++F.pre (cons a b t)≠[]:=by rw [F.pre];simp
  rw [List.dropLast_cons_of_ne_nil hne,List.dropLast_append_of_ne_nil (by rw [F.pre];simp)]
theorem lR {e e':Nat->Int} {h:Nat->Nat} {hi:Int->Int}:∀(p:Int) (f:F),(∀k∈F.pre f,e' (h k)=hi (e k)/\hi (k:Int)=(h k:Int))->Eld e p f->Eld e' (hi p) (map h f)
 |_,nil,_,_=>trivial
 |p,cons k c r,hp,he=>by
  obtain ⟨h1,h2,h3⟩:=he;have hk:=hp k (by rw [F.pre];exact Zf)
  refine ⟨?_,?_,lR p r (λj m=>hp j (by rw [F.pre];simp [m])) h3⟩
  ·rw [hk.1,h1]
  ·have:=lR (k:Int) c (λj m=>hp j (by rw [F.pre];simp [m])) h2
   rw [hk.2]at this;exact this
theorem uQ {e:Nat->Int}:∀(f:F) (p:Int),Eld e p f->(∀k∈F.pre f,p<=(k:Int))->∀k∈F.pre f,p<=e k
 |nil,_,_,_,_,m=>by cases m
 |cons a c r,p,h,hp,k,m=>by
  obtain ⟨h1,h2,h3⟩:=h;rcases nG p (cons a c r) ⟨h1,h2,h3⟩ k m with z | ⟨j,j1,j2⟩
  ·lia
  ·rw [j2]
   exact hp j j1
end F
end B
namespace B
open PySem L2 L3
noncomputable def iQ:Fs:=(aD (sIf (aY (eOp gLt (ae 1) (eB bP (af (ae 0) av)))) (eO (eOp gIx (ae 0) (ae 1))) sNx)
 (aD (aN 2 (eOp cH (eOp g7 (eC (.int 7919)) (ae 1)) (eC (.int 5))))
 (aD (sIf (aY (eOp gGt (eB bP (af (ae 0) av)) (eC (.int 0)))) (aN 2 (eOp dR (eOp cH (eOp g7 (eOp gIx (ae 0) (eOp dR (ae 1) (eB bP (af (ae 0) av)))) (eC (.int 48271))) (eOp g7 (ae 1) (eC (.int 7919)))) (eC (.int 2147483647)))) sNx)
 (eO (eOp dR (eOp g7 (ae 2) (ae 2)) (eC (.int 2147483629)))))))
noncomputable def bA:Fn:=cq 2 3 iQ
noncomputable def iw:Fs:=(aD (aN 2 (eC (.str "abcdefghijklmnopqrstuvwxyz")))
 (aD (aN 3 (eC (.str "")))
 (aD (fV (iR1 (eOp cH (eC (.int 1)) (eOp dR (ae 0) (ae 1)))) (gNm 4) (aN 3 (eOp cH (ae 3) (eOp gIx (ae 2) (eOp dR (eOp ft (ae 0) (eOp cH (eC (.int 9)) (eOp g7 (eOp g7 (eC (.int 4)) (ae 4)) (ae 4)))) (eC (.int 26)))))))
 (eO (ae 3)))))
noncomputable def eS:Fn:=cq 2 5 iw
noncomputable def iO:Fs:=(aD (aN 5 (ez av))
 (aD (aN 6 (eSh (ez av)))
 (aD (fV (iR1 (ae 2)) (gNm 7) (aD (aN 8 (eOp dR (eOp g7 (aL bA (af (ae 0) (af (eOp cH (ae 1) (ae 7)) av))) (eC (.int 69621))) (eC (.int 2147483629))))
 (aD (sIf (aY (eOp gGt (ae 7) (eC (.int 0)))) (aD (aN 9 (eOp cH (eC (.int 1)) (eOp dR (ae 8) (eB bP (af (ae 6) av)))))
 (aD (sIf (aY (eOp gEq (eOp dR (eOp ft (ae 8) (eC (.int 16))) (eC (.int 3))) (eC (.int 0)))) (aN 9 (eB bP (af (ae 6) av))) sNx)
 (aD (aN 6 (eSh (eSl l7 (ae 6) ji (iA (eB p8 (af (ae 9) (af (ae 4) av)))))))
 (iZ 5 (eSh (g5 (af (eOp gIx (ae 6) (eUn fN (eC (.int 1)))) (af (eSh (aL eS (af (eOp ft (ae 8) (eC (.int 64))) (af (ae 3) av)))) (af (eOp cH (eC (.int 1)) (eOp dR (eOp ft (ae 8) (eC (.int 4096))) (eC (.int 9)))) av))))))))) (iZ 5 (eSh (g5 (af (eUn fN (eC (.int 1))) (af (eSh (aL eS (af (eOp ft (ae 8) (eC (.int 64))) (af (ae 3) av)))) (af (eOp cH (eC (.int 1)) (eOp dR (eOp ft (ae 8) (eC (.int 4096))) (eC (.int 9)))) av)))))))
 (aN 6 (eSh (eOp cH (ae 6) (ez (af (ae 7) av))))))))
 (eX 5))))
noncomputable def gL:Fn:=cq 5 10 iO
local macro_rules
 |`(tactic| push_cast only [$a,*] $[$l:location]?)=>do
  let e <- ("v_var v_c KP Kp Fl Gd GZ DR v_and v_or v_not KG zT nF Hq IB CS v_b KU v_bor Fv Dj G7 GD HG AK BC KD Er um JS Kn KQ KI Ie JM Iu GO iI Gh Hh Km Kt JV Jl Hs G8 CG HM EI FI Ji JB FN Hw Ha JH Hy IZ G0 HW KA Hf J0 Jf DZ DL JG G9 Ao Ae Fw Dh FP Dp Ip HX ES Ih En F8 DD JD GY Ek Kc GN Fp Jh Eo CY Hu AG GU JP IH Ab Kx Kr KL H_ DU ED IF I_ Dv IM JJ G6 He Hv HN GK GF Je Hl Iz Kb Ke Ky KS Kl JZ EB Gz JI uL C0 FQ FE xM FK IS Fz ID EM at0 at1 at2 IG FH F9 Gf Ez Ff DM FA EH EA Dg Ex DQ E_ CU FG Ef JX Kj KW JT Ko K0 ee oE Cf flat List.map_cons List.map_nil List.length_cons List.length_nil List.getElem?_cons_zero List.getElem?_cons_succ List.getElem?_nil List.set_cons_zero List.set_cons_succ List.cons_append List.nil_append List.append_nil List.replicate_succ List.replicate_zero Nat.reduceAdd Nat.reduceSub Nat.reduceLeDiff Nat.reduceLT Nat.reduceEqDiff Nat.zero_add Bool.not_true Bool.not_false if_true if_false Bool.false_eq_true reduceIte decide_true decide_false reduceCtorEq wG G4 Int.reduceLT Int.reduceLE Int.reduceNeg Int.reducePow Int.reduceToNat Int.reduceMul Int.reduceAdd Int.reduceSub Nat.reducePow and_true true_and and_self List.length_map IY HE v_sub HL GC Jz HD JK se JN zq Int.cast_ofNat_Int Int.reduceEq Int.reduceNe Hj FT uT IE GS Hg Io Jc".splitOn " ").toArray.mapM λs=>`(Lean.Parser.Tactic.simpLemma| $(Lean.mkIdent s.toName):ident)
  `(tactic| simp (maxSteps:=1000000) -implicitDefEqProofs only [$e,*,$a,*] $[$l]?)
theorem kY (ns:List Int) (k:Int) (h0:0<=k) (h1:k<1000000):∃z,bA [.list (ns.map PyData.int),.int k]=.ok (.sh (.int z)):=by
 unfold bA iQ;by_cases hk:k<(ns.length:Int)
 ·obtain ⟨x,e1,e2⟩:=ue (ns.map PyData.int) k h0 (by simpa using hk)
  rw [Za]at e1;obtain ⟨z,_,rfl⟩:=Zp.mp e1;exact ⟨z,by push_cast only [decide_eq_true hk,e2]⟩
 ·by_cases hl:(0:Int)<ns.length
  ·have hm:=cW k hl
   obtain ⟨x,e1,e2⟩:=ue (ns.map PyData.int) (k % (ns.length:Int)) hm.1 (by simpa using hm.2)
   rw [Za]at e1;obtain ⟨z,_,rfl⟩:=Zp.mp e1;have h2:=cW (z * 48271+k * 7919) (show (0:Int)<2147483647 by decide)
   have c2:jk ((z * 48271+k * 7919) % 2147483647) ((z * 48271+k * 7919) % 2147483647)=true:=wG (by lia) (by lia)
   refine ⟨(z * 48271+k * 7919) % 2147483647 * ((z * 48271+k * 7919) % 2147483647) % 2147483629,?_⟩;push_cast only [decide_eq_false hk,decide_eq_true hl,hl,e2,c2]
  ·have c2:jk (7919 * k+5) (7919 * k+5)=true:=wG (by lia) (by lia)
   refine ⟨(7919 * k+5) * (7919 * k+5) % 2147483629,?_⟩;push_cast only [decide_eq_false hk,decide_eq_false hl,c2]
structure Nd where
 e:Int
 l:Str
 t:Int
noncomputable def kH (l:Str):Prop:=1<=l.length/\l.length<=9/\∀c∈l.cps.toList,97<=c/\c<=122
noncomputable def Et (n:Nd):Prop:=kH n.l/\1<=n.t/\n.t<=9
noncomputable def ndD (n:Nd):PyData:=.tuple [.int n.e,.str n.l,.int n.t]
noncomputable def au (ts:List Nd):List PyData:=ts.map ndD
inductive Grown (deep:Nat):List Nd->List Int->Prop
 |root {n:Nd}:Et n->n.e=-1->Grown deep [n] [0]
 |step {ns:List Nd} {way:List Int} {c:Nat} {n:Nd}:Grown deep ns way->1<=c->c<=way.length->c<=deep->Et n->way[c-1]?=some n.e->Grown deep (ns++[n]) (way.take c++[(ns.length:Int)])
theorem Grown.pos {deep:Nat} {ns:List Nd} {way:List Int} (g:Grown deep ns way):0<ns.length/\0<way.length:=by
 cases g with
 |root=>simp
 |step=>simp
theorem Grown.ok {deep:Nat} {ns:List Nd} {way:List Int} (g:Grown deep ns way):∀n∈ns,Et n:=by
 induction g with
 |root h=>simpa using h
 |@step ns way c n g h1 h2 h3 h4 h5 ih =>
  intro x hx;rcases Zs.mp hx with hx | hx
  ·exact ih x hx
  ·have:x=n:=by simpa using hx
   rw [this];exact h4
theorem Bn {k:Int} (h0:0<=k) (h1:k<26):∃c,atI (Str.ofString "abcdefghijklmnopqrstuvwxyz").cps.toList k=some c/\97<=c/\c<=122:=by
 have e:(Str.ofString "abcdefghijklmnopqrstuvwxyz").cps.toList=List.range' 97 26:=by decide +kernel
 rw [e];obtain ⟨v,e1,e2⟩:=ue (List.range' 97 26) k h0 (by simpa using h1)
 refine ⟨v,e2,?_⟩;have:=List.mem_range'.mp (ZB e1)
 lia
theorem qN (k:Int) (h0:0<=k) (h1:k<26):∃c,atI (Str.ofString "abcdefghijklmnopqrstuvwxyz").cps.toList k=some c/\(97<=c/\c<=122):=Bn h0 h1
theorem rV (a b:Str):(a++b).cps.toList=a.cps.toList++b.cps.toList:=PyProof.Rows.cps_toList_append a b
theorem vt (a:Str):a.length=a.cps.toList.length:=by simp [Str.length]
theorem rY (a:Str) (c:Nat):(a++⟨#[c]⟩:Str).length=a.length+1:=by
 rw [vt,rV,vt,Zd];rfl
theorem yp (z m:Int) (m1:1<=m) (m2:m<=9):∃l,kH l/\eS [.int z,.int m]=.ok (.sh (.str l)):=by
 unfold eS iw;have hm:=cW z (show 0<m by lia)
 have s1:aK (1+z % m)=true:=iH (by lia) (by lia)
 have p0:(0:Int)<m:=by lia
 obtain ⟨f,hf⟩:∃f:Nat->Nat,∀i:Nat,atI (Str.ofString "abcdefghijklmnopqrstuvwxyz").cps.toList (z / (9+4 * (0+(i:Int)) * (0+(i:Int))) % 26)=some (f i)/\(97<=f i/\f i<=122) :=
  ⟨λi=>Classical.choose (qN _ (cW (z / (9+4 * (0+(i:Int)) * (0+(i:Int)))) (show (0:Int)<26 by decide)).1 (cW _ (by decide)).2),λi=>Classical.choose_spec (qN _ (cW (z / (9+4 * (0+(i:Int)) * (0+(i:Int)))) (show (0:Int)<26 by decide)).1 (cW _ (by decide)).2)⟩
 push_cast only [p0,s1];generalize hL:bJ _ _ _ _=r
 refine cT hL (λi ρ=>∃(l:Str) (v:Option OD),ρ=[some (.sh (.int z)),some (.sh (.int m)),some (.sh (.str (Str.ofString "abcdefghijklmnopqrstuvwxyz"))),some (.sh (.str l)),v]/\l.length=i/\∀c∈l.cps.toList,97<=c/\c<=122) ⟨_,_,rfl,rfl,λc hc=>by cases hc⟩ ?_ ?_
 ·rintro i d ρ hd ⟨l,v,rfl,hl,hc⟩
  obtain ⟨hi,rfl⟩:=fZ hd;have i9:(i:Int)<9:=by lia
  have ib:0<=4 * (0+(i:Int)) * (0+(i:Int))/\4 * (0+(i:Int)) * (0+(i:Int))<=4 * 8 * 8:=by
   have a1:0<=(0+(i:Int)):=by lia
   have a2:(0+(i:Int))<=8:=by lia
   refine ⟨Int.mul_nonneg (by lia) a1,?_⟩
   exact Int.mul_le_mul (by lia) a2 a1 (by lia)
  have ec:=(hf i).1;have c1:=(hf i).2.1;have c2:=(hf i).2.2;generalize f i=c at ec c1 c2
  have k1:jk (4 * (0+(i:Int))) (0+(i:Int))=true:=wG (by lia) (by lia)
  have k2:(0<9+4 * (0+(i:Int)) * (0+(i:Int))/\9+4 * (0+(i:Int)) * (0+(i:Int))<1073741824)=True:=eq_true ⟨by lia,by lia⟩
  have k3:((Str.ofString "abcdefghijklmnopqrstuvwxyz").length<=BIG)=True:=by decide +kernel
  have k4:(l.length+(⟨#[c]⟩:Str).length<=BIG)=True:=aW (by rw [hl];show i+1<=1000;lia)
  push_cast only [k1,k2,k3,k4,ec,Option.map_some];refine ⟨_,_,rfl,by rw [rY,hl],λd hd=>?_⟩
  rw [rV,Zs]at hd;rcases hd with hd | hd
  ·exact hc d hd
  ·have:d=c:=by simpa using hd
   lia
 ·rintro ρ' rfl ⟨l,v,rfl,hl,hc⟩
  rw [fR]at hl;push_cast only [and_self];exact ⟨l,⟨by lia,by lia,hc⟩,rfl⟩
theorem mm (xs:List PyData) (k:Nat):cutD xs none (some (k:Int))=xs.take k:=by
 unfold cutD;rw [HT.r9,HT.nu,List.drop_zero,Nat.sub_zero];rcases Nat.le_total k xs.length with h | h
 ·rw [Nat.min_eq_left h]
 ·rw [Nat.min_eq_right h,List.take_of_length_le (Zn _),List.take_of_length_le h]
theorem pQ {way:List Int} {k:Nat} (h1:1<=k) (h2:k<=way.length):∃e,way[k-1]?=some e/\atI ((way.take k).map PyData.int) (-1)=some (.int e):=by
 have hk:k-1<way.length:=by lia
 refine ⟨way[k-1],by simp [hk],?_⟩
 have h:way.take (k-1+1)=way.take (k-1)++[way[k-1]]:=by
  rw [List.take_add_one];simp [hk]
 rw [show k-1+1=k by lia]at h
 rw [h,Zl];exact sf _ _
theorem aF (ts:List Nd):(au ts).length=ts.length:=by unfold au;rw [Zc]
theorem lI (ts:List Nd) (n:Nd):au (ts++[n])=au ts++[.tuple [.int n.e,.str n.l,.int n.t]]:=by
 unfold au;rw [Zl];rfl
theorem Ai (ns:List Int) (st:Int) (many:Nat) (most deep:Int) (s0:0<=st) (s1:st<=1000) (n0:1<=many) (n1:many<=900) (m0:1<=most) (m1:most<=9) (d0:1<=deep) (d1:deep<=1000) :
  ∃ts way,Grown deep.toNat ts way/\ts.length=many/\gL [.list (ns.map PyData.int),.int st,.int many,.int most,.int deep]=.ok (.ol ((au ts).map OD.sh)):=by
 unfold gL iO;have s62:aK (many:Int)=true:=iH (by lia) (by lia)
 push_cast only [s62];generalize hL:bJ _ _ _ _=r
 refine cT hL (λi ρ=>∃(ts:List Nd) (way:List Int) (v7 v8 v9:Option OD),ρ=[some (.sh (.list (ns.map PyData.int))),some (.sh (.int st)),some (.sh (.int many)),some (.sh (.int most)),some (.sh (.int deep)),some (.ol ((au ts).map OD.sh)),some (.sh (.list (way.map PyData.int))),v7,v8,v9]/\ts.length=i/\way.length<=i/\((i=0/\ts=[]/\way=[])\/(0<i/\Grown deep.toNat ts way)))
  ⟨[],[],_,_,_,rfl,rfl,Zn _,.inl ⟨rfl,rfl,rfl⟩⟩ ?_ ?_
 ·rintro i d ρ hd ⟨ts,way,v7,v8,v9,rfl,hti,hwi,hg⟩
  obtain ⟨hi,rfl⟩:=fZ hd;rw [Int.toNat_natCast]at hi;obtain ⟨y,hy⟩:=kY ns (st+(0+(i:Int))) (by lia) (by lia)
  obtain ⟨l,hl,el⟩:=yp (y * 69621 % 2147483629 / 64) most m0 m1;have hq:=cW (y * 69621 % 2147483629 / 4096) (show (0:Int)<9 by decide)
  have lb:((au ts).length<BIG)=True:=by rw [aF];exact eg (by lia)
  by_cases h0:(0:Int)<0+(i:Int)
  ·have hg':Grown deep.toNat ts way:=by
    rcases hg with hg | hg
    ·lia
    ·exact hg.2
   have wp:=hg'.pos.2;have wl:(0:Int)<way.length:=by lia
   have hr:=cW (y * 69621 % 2147483629) wl;have fin:∀c:Nat,1<=c->c<=way.length->c<=deep.toNat->∀(e:Int),way[c-1]?=some e->Grown deep.toNat (ts++[⟨e,l,1+y * 69621 % 2147483629 / 4096 % 9⟩]) (way.take c++[(ts.length:Int)]):=λc c1 c2 c3 e he =>
    Grown.step hg' c1 c2 c3 ⟨hl,by show 1<=1+_;lia,by show 1+_<=9;lia⟩ he
   have lw:∀c:Nat,((way.take c).length+1<=BIG)=True:=λc=>aW (by rw [ZE];lia)
   by_cases h3:y * 69621 % 2147483629 / 16 % 3=0
   ·obtain ⟨c,hc⟩:∃c:Nat,(if deep<(way.length:Int) then deep else (way.length:Int))=(c:Int):=⟨(if deep<(way.length:Int) then deep else (way.length:Int)).toNat,by split <;> lia⟩
    obtain ⟨c1,c2,c3⟩:1<=c/\c<=way.length/\c<=deep.toNat:=by split at hc <;> lia
    obtain ⟨e,he,hat⟩:=pQ c1 c2;push_cast only [hy,el,wl,decide_eq_true h0,decide_eq_true h3,hc,mm,<-List.map_take,aR,hat,lb,lw];have t1:=lI ts ⟨e,l,1+y * 69621 % 2147483629 / 4096 % 9⟩;have t2:(au ts).map OD.sh++[OD.sh (.tuple [.int e,.str l,.int (1+y * 69621 % 2147483629 / 4096 % 9)])]=(au (ts++[⟨e,l,1+y * 69621 % 2147483629 / 4096 % 9⟩])).map OD.sh:=by rw [t1,Zl];rfl
    have w1:(way.take c).map PyData.int++[PyData.int (0+(i:Int))]=(way.take c++[(ts.length:Int)]).map PyData.int:=by rw [Zl,hti,Int.zero_add];rfl
    rw [t2,w1];exact ⟨_,_,_,_,_,rfl,by rw [Zd,hti];rfl,by rw [Zd,ZE,List.length_singleton];lia,.inr ⟨Nat.succ_pos _,fin c c1 c2 c3 e he⟩⟩
   ·obtain ⟨c,hc⟩:∃c:Nat,(if deep<1+y * 69621 % 2147483629 % (way.length:Int) then deep else 1+y * 69621 % 2147483629 % (way.length:Int))=(c:Int):=⟨(if deep<1+y * 69621 % 2147483629 % (way.length:Int) then deep else 1+y * 69621 % 2147483629 % (way.length:Int)).toNat,by split <;> lia⟩
    obtain ⟨c1,c2,c3⟩:1<=c/\c<=way.length/\c<=deep.toNat:=by split at hc <;> lia
    obtain ⟨e,he,hat⟩:=pQ c1 c2;push_cast only [hy,el,wl,decide_eq_true h0,decide_eq_false h3,hc,mm,<-List.map_take,aR,hat,lb,lw];have t1:=lI ts ⟨e,l,1+y * 69621 % 2147483629 / 4096 % 9⟩;have t2:(au ts).map OD.sh++[OD.sh (.tuple [.int e,.str l,.int (1+y * 69621 % 2147483629 / 4096 % 9)])]=(au (ts++[⟨e,l,1+y * 69621 % 2147483629 / 4096 % 9⟩])).map OD.sh:=by rw [t1,Zl];rfl
    have w1:(way.take c).map PyData.int++[PyData.int (0+(i:Int))]=(way.take c++[(ts.length:Int)]).map PyData.int:=by rw [Zl,hti,Int.zero_add];rfl
    rw [t2,w1];exact ⟨_,_,_,_,_,rfl,by rw [Zd,hti];rfl,by rw [Zd,ZE,List.length_singleton];lia,.inr ⟨Nat.succ_pos _,fin c c1 c2 c3 e he⟩⟩
  ·obtain ⟨i0,rfl,rfl⟩:i=0/\ts=[]/\way=[]:=by
    rcases hg with hg | hg
    ·exact hg
    ·lia
   push_cast only [hy,el,decide_eq_false h0,aR,lb];subst i0;exact ⟨[⟨-1,l,1+y * 69621 % 2147483629 / 4096 % 9⟩],[0],_,_,_,rfl,rfl,by decide,.inr ⟨Nat.succ_pos _,Grown.root ⟨hl,by show 1<=1+_;lia,by show 1+_<=9;lia⟩ rfl⟩⟩
 ·rintro ρ' rfl ⟨ts,way,v7,v8,v9,rfl,hti,hwi,hg⟩
  rw [fR,Int.toNat_natCast]at hti hg;rcases hg with hg | hg
  ·lia
  ·push_cast only [and_self]
   exact ⟨ts,way,hg.2,hti,rfl⟩
theorem DJ {l:Str} (h:kH l):PyData.strOk l=true:=by
 unfold PyData.strOk;rw [Array.all_eq_true'];intro c hc;have:=h.2.2 c (by simpa using hc)
 simp
 lia
theorem FW {n:Nd} (h:kH n.l):lay 1 (ndD n):=jG λx hx=>by
 simp only [Zo,List.not_mem_nil,or_false]at hx;rcases hx with rfl | rfl | rfl
 ·exact jQ _
 ·exact BA (DJ h)
 ·exact jQ _
theorem Bs {ts:List Nd} (h:∀n∈ts,kH n.l):lay 2 (.list (au ts)):=kx λx hx=>by
 unfold au at hx;obtain ⟨n,hn,rfl⟩:=ZC.mp hx;exact FW (h n hn)
theorem fm {ts:List Nd} {k:Nat} {n:Nd} (h:ts[k]?=some n):atI (au ts) (k:Int)=some (.tuple [.int n.e,.str n.l,.int n.t]):=fJ (by unfold au;rw [Za,h];rfl)
instance:Inhabited Nd:=⟨⟨0, "",0⟩⟩
noncomputable def eOf (ts:List Nd) (k:Nat):Int:=(ts[k]?.map (·.e)).getD 0
noncomputable def PT (ts:List Nd) (c:F):Prop:=F.Pf ts.length (eOf ts) c
theorem eV {ts:List Nd} {k:Nat} {n:Nd} (h:ts[k]?=some n):eOf ts k=n.e:=by unfold eOf;rw [h];rfl
theorem zj {deep:Nat} {ns:List Nd} {way:List Int} (g:Grown deep ns way):∃c,PT ns c/\way=(0 :: F.path c).map (λk:Nat=>(k:Int)):=by
 induction g with
 |@root n h1 h2=>exact ⟨F.nil,⟨rfl,by rw [eV (n:=n) rfl];exact h2,trivial⟩,rfl⟩
 |@step ns way k n g h1 h2 h3 h4 h5 ih =>
  obtain ⟨c,p,hw⟩:=ih;subst hw;rw [Zc,Zr]at h2;have same:∀j,j<ns.length->eOf (ns++[n]) j=eOf ns j:=λj hj=>by
   unfold eOf;rw [List.getElem?_append_left hj]
  have new:eOf (ns++[n]) ns.length=n.e:=eV (by simp)
  have inR:∀j∈F.pre c,j<ns.length:=λj m=>by
   have:j∈0 :: F.pre c:=Ze _ m;rw [p.pre,ZH]at this;exact this
  have he:F.Eld (eOf (ns++[n])) 0 c:=F.jF 0 c (λj m=>same j (inR j m)) p.eld
  obtain ⟨q1,q2,q3⟩:=F.nI (x:=ns.length) c (k-1) 0 (by lia) he (by
   rw [new];rw [Za]at h5;by_cases k1:k=1
   ·subst k1
    have:=Zz h5;rw [if_pos rfl];exact this.symm
   ·obtain ⟨m,rfl⟩:∃m,k=m+2:=⟨k-2,by lia⟩
    rw [if_neg (by lia)]
    have e:(0 :: F.path c)[m+2-1]?=(F.path c)[m+2-1-1]?:=rfl;rw [e]at h5;obtain ⟨v,hv,hv2⟩:=Zp.mp h5;rw [hv,<-hv2];rfl)
  refine ⟨F.j_ c (k-1) ns.length,⟨?_,?_,q3⟩,?_⟩
  ·rw [q1,<-List.cons_append,p.pre,Zd,Zr,List.length_nil,List.range_succ]
  ·rw [same 0 p.pos]
   exact p.root
  ·rw [q2]
   obtain ⟨m,rfl⟩:∃m,k=m+1:=⟨k-1,by lia⟩
   rw [Zk,Zk,List.take_succ_cons,Zl,Nat.add_sub_cancel,List.map_take];rfl
noncomputable def d5 (ts:List Nd) (k:Nat):Nd:=ts[k]?.getD default
noncomputable def hX (ts:List Nd) (c:F):List Nd:=(F.R c).map λk=>⟨F.gi c (d5 ts k).e,(d5 ts k).l,(d5 ts k).t⟩
theorem pe {ts:List Nd} {k:Nat} (h:k<ts.length):(d5 ts k).e=eOf ts k:=by
 unfold d5 eOf;rw [Zg h];rfl
section
variable {ts:List Nd} {c:F}
theorem lV (p:PT ts c):(hX ts c).length=ts.length:=by unfold hX;rw [Zc,p.len]
theorem F_ (p:PT ts c) {i:Nat} (hi:i<ts.length):eOf (hX ts c) i=F.e1 (eOf ts) c i:=by
 obtain ⟨k,hk⟩:∃k,(F.R c)[i]?=some k:=⟨(F.R c)[i]'(by rw [p.len];exact hi),by simp⟩
 have hkn:k<ts.length:=p.mem.mp (ZB hk);unfold eOf hX F.e1;rw [Za,hk];show F.gi c (d5 ts k).e=_
 rw [pe hkn];rfl
theorem oh {n:Nat} {e e':Nat->Int} {c:F} (h:∀k,k<n->e' k=e k) (p:F.Pf n e c):F.Pf n e' c:=by
 refine ⟨p.pre,by rw [h 0 p.pos];exact p.root,F.jF 0 c (λk m=>h k ?_) p.eld⟩
 have:k∈0 :: F.pre c:=Ze _ m;rw [p.pre,ZH]at this;exact this
theorem vG (p:PT ts c):PT (hX ts c) (F.c1 c):=by
 unfold PT;rw [lV p];exact oh (λk hk=>F_ p hk) p.mirrored
end
theorem BL {ts us:List Nd} {c:F} (p:PT ts c) (hl:us.length=ts.length) (h:∀k,k<ts.length->eOf us k=eOf ts k):PT us c:=by
 unfold PT;rw [hl];exact oh h p
theorem Dn {ts:List Nd} {c:F} (p:PT ts c) (h:1<ts.length):∃c',PT ts.dropLast c':=by
 have hc:c≠F.nil:=by
  rintro rfl;have:=congrArg List.length p.pre;rw [Zh]at this;simp [F.pre]at this
  lia
 obtain ⟨q1,q2⟩:=F.lC (e:=eOf ts) c 0 hc p.eld;have hr:F.pre c≠[]:=by
  cases c with
  |nil=>exact absurd rfl hc
  |cons a b t=>rw [F.pre];simp
 have same:∀k,k<ts.dropLast.length->eOf ts.dropLast k=eOf ts k:=λk hk=>by
  unfold eOf;rw [List.getElem?_dropLast,if_pos (by rw [List.length_dropLast]at hk;exact hk)]
 refine ⟨F.iq c,oh same ⟨?_,p.root,q2⟩⟩;rw [q1,<-List.dropLast_cons_of_ne_nil hr,p.pre,List.length_dropLast];obtain ⟨m,hm⟩:∃m,ts.length=m+1:=⟨ts.length-1,by lia⟩
 rw [hm,List.range_succ];simp
noncomputable def jC (s:Nat) (ts:List Nd):List Nd:=match ts with
 |[]=>[]
 |n :: r=>⟨0,n.l,n.t⟩ :: r.map λm=>⟨m.e+s,m.l,m.t⟩
theorem Bg {ts us:List Nd} {c d:F} (p:PT ts c) (q:PT us d):PT (ts++jC ts.length us) (F.app c (F.map (·+ts.length) (F.full d))):=by
 obtain ⟨n,r,rfl⟩:∃n r,us=n :: r:=by
  cases us with
  |nil=>exact absurd q.pos (by simp)
  |cons n r=>exact ⟨n,r,rfl⟩
 have e1:∀k,k<ts.length->eOf (ts++jC ts.length (n :: r)) k=eOf ts k:=λk hk=>by
  unfold eOf;rw [List.getElem?_append_left hk]
 have e2:∀k,k<(n :: r).length->eOf (ts++jC ts.length (n :: r)) (k+ts.length)=if k=0 then 0 else eOf (n :: r) k+ts.length:=λk hk=>by
  unfold eOf;rw [List.getElem?_append_right (by lia),Nat.add_sub_cancel]
  cases k with
  |zero=>rfl
  |succ k =>
   rw [if_neg (by lia)]
   show ((r.map λm=>(⟨m.e+ts.length,m.l,m.t⟩:Nd))[k]?.map (·.e)).getD 0=(r[k]?.map (·.e)).getD 0+ts.length
   rw [Zr]at hk;rw [Za,Zg (show k<r.length by lia)]
   rfl
 have hl:(ts++jC ts.length (n :: r)).length=ts.length+(n :: r).length:=by
  rw [Zd];unfold jC;rw [Zr,Zc,Zr]
 refine ⟨?_,by rw [e1 0 p.pos];exact p.root,?_⟩
 ·rw [F.pre_app,F.kX,q.preF,<-List.cons_append,p.pre,hl,List.range_add]
  congr 1
  exact Zt λk _=>Nat.add_comm _ _
 ·rw [F.nr]
  refine ⟨F.jF 0 c (λk m=>e1 k ?_) p.eld,?_,?_,trivial⟩
  ·have:k∈0 :: F.pre c:=Ze _ m
   rw [p.pre,ZH]at this;exact this
  ·have:=e2 0 (by simp)
   exact this
  ·have:=F.lR (e:=eOf (n :: r)) (e':=eOf (ts++jC ts.length (n :: r))) (h:=(·+ts.length)) (hi:=λz=>z+ts.length) 0 d (λk m=>by
    have hk:k∈0 :: F.pre d:=Ze _ m;have nd:(0 :: F.pre d).Nodup:=by rw [q.pre];exact List.nodup_range
    rw [q.pre,ZH]at hk;have k0:k≠0:=λz=>(List.nodup_cons.mp nd).1 (z▸m)
    refine ⟨?_,by lia⟩
    have:=e2 k hk;rw [if_neg k0]at this;exact this) q.eld
   exact this
namespace F
theorem rQ {e:Nat->Int} {ch:Nat->List Nat}:∀(f:F) (a m:Nat) (p:Int),F.pre f=List.range' a m->Eld e p f->Con ch f->p<(a:Int)->∀j,a<=j->j<a+m ->
  ∃cj s,F.pre cj=List.range' (j+1) s/\Eld e (j:Int) cj/\j+1+s<=a+m/\(j+1+s<a+m->e (j+1+s)<(j:Int))/\Con ch cj/\ch j=roots cj
 |nil,a,m,p,hp,_,_,_,j,h1,h2=>by
  have:=congrArg List.length hp;rw [F.pre,List.length_nil,List.length_range']at this
  lia
 |cons k c r,a,m,p,hp,he,hcon,hpa,j,h1,h2=>by
  obtain ⟨e1,e2,e3⟩:=he;obtain ⟨o1,o2,o3⟩:=hcon;obtain ⟨m',rfl⟩:∃m',m=m'+1:=⟨m-1,by lia⟩
  rw [F.pre,List.range'_succ]at hp;obtain ⟨hk,hrest⟩:=List.cons.inj hp;subst hk;have hl:=congrArg List.length hrest;rw [Zd,List.length_range']at hl;have hm:m'=(F.pre c).length+(F.pre r).length:=by lia
  rw [hm,<-List.range'_append_1]at hrest;obtain ⟨hc,hr⟩:=List.append_inj hrest (by rw [List.length_range'])
  have first:(F.pre r).length≠0->e (k+1+(F.pre c).length)=p:=λhne=>by
   cases r with
   |nil=>exact absurd rfl hne
   |cons b1 b2 b3 =>
    have hb:b1=k+1+(F.pre c).length:=by
     have:=congrArg (λl=>l[0]?) hr
     rw [F.pre]at this;rw [Zr,List.range'_succ]at this;exact Zz this
    rw [<-hb];exact e3.1
  by_cases hj:j=k
  ·subst hj
   refine ⟨c,(F.pre c).length,hc,e2,by lia,λh=>?_,o2,o1⟩
   rw [first (by lia)]
   lia
  ·by_cases hj2:j<k+1+(F.pre c).length
   ·obtain ⟨cj,s,q1,q2,q3,q4,q5,q6⟩:=rQ c (k+1) (F.pre c).length (k:Int) hc e2 o2 (by lia) j (by lia) hj2
    refine ⟨cj,s,q1,q2,by lia,λh=>?_,q5,q6⟩
    by_cases hs:j+1+s<k+1+(F.pre c).length
    ·exact q4 hs
    ·have:j+1+s=k+1+(F.pre c).length:=by lia
     rw [this,first (by lia)]
     lia
   ·obtain ⟨cj,s,q1,q2,q3,q4,q5,q6⟩:=rQ r (k+1+(F.pre c).length) (F.pre r).length p hr e3 o3 (by lia) j (by lia) (by lia)
    exact ⟨cj,s,q1,q2,by lia,λh=>q4 (by lia),q5,q6⟩
end F
namespace F
theorem tV (h:Nat->Nat):∀f g:F,map h (app f g)=app (map h f) (map h g)
 |nil,g=>rfl
 |cons k c r,g=>by rw [app,map,map,app,tV h r g]
theorem nJ (h:Nat->Nat):∀f:F,roots (map h f)=(roots f).map h
 |nil=>rfl
 |cons k c r=>by rw [map,roots,roots,Zk,nJ h r]
theorem kT:∀f:F,roots (mir f)=(roots f).reverse
 |nil=>rfl
 |cons k c r=>by
  rw [mir,kW,kT r];show _++[k]=(k :: roots r).reverse
  rw [List.reverse_cons]
end F
noncomputable def iz:Fs:=(sIf (qC (aY (eOp gLt (ae 1) (eC (.int 0)))) (aY (eOp gGe (ae 1) (eB bP (af (ae 0) av))))) Gp sNx)
noncomputable def dW:Fn:=cq 2 2 iz
noncomputable def g4:Fs:=(aD (aN 1 (ez av))
 (aD (fV (e7 (ae 0)) (gNm 2) (iZ 1 (eSh (j4 (eIf (aY (eOp gEq (eOp gIx (ae 2) (eC (.int 0))) (eUn fN (eC (.int 1))))) (eC (.int 0)) (eOp cH (eOp gIx (ae 1) (eOp gIx (ae 2) (eC (.int 0)))) (eC (.int 1))))))))
 (eX 1)))
noncomputable def fq:Fn:=cq 1 3 g4
noncomputable def j3:Fs:=(eO (bD (e7 (ae 0)) (gNm 0) bQ (eOp ft (eB bP (af (eOp gIx (ae 0) (eC (.int 1))) av)) (eC (.int 2))) 1 []))
noncomputable def iW:Fn:=cq 1 1 j3
noncomputable def fO:Fs:=(aD (aN 1 (bD (e7 (ae 0)) (gNm 0) bQ (ez av) 1 []))
 (aD (fV (iR2 (eC (.int 1)) (eB bP (af (ae 0) av))) (gNm 2) (lL 1 (eOp gIx (eOp gIx (ae 0) (ae 2)) (eC (.int 0))) (ae 2)))
 (eX 1)))
noncomputable def cD:Fn:=cq 1 3 fO
noncomputable def gF:Fs:=(aD (aN 1 (ez (af (eC (.int 0)) av)))
 (aD (fV (e7 (eSl l7 (ae 0) (iA (eC (.int 1))) ji)) (gTp 3 (aO (gNm 2) (aO (gNm 3) (aO (gNm 4) eR)))) (iZ 1 (j4 (eOp cH (eOp gIx (ae 1) (ae 2)) (eC (.int 1))))))
 (ke 1 (eO (bD (iR1 (eOp cH (eB n6 (af (ae 1) av)) (eC (.int 1)))) (gNm 0) bQ (eSh (bD (iR1 (eB bP (af (ae 1) av))) (gNm 0) (aY (eOp gEq (eOp gIx (ae 1) (ae 0)) (ae 2))) (ae 0) 1 [2,0])) 1 [0,1])))))
noncomputable def bL:Fn:=cq 1 5 gF
noncomputable def gE:Fs:=(aD (tL (aL dW (af (ae 0) (af (ae 1) av))))
 (eO (bD (iEn (ae 0)) (gTp 2 (aO (gNm 0) (aO (gNm 1) eR))) (aY (eOp gEq (eOp gIx (ae 1) (eC (.int 0))) (ae 2))) (ae 0) 2 [1])))
noncomputable def cn:Fn:=cq 2 2 gE
noncomputable def iR:Fs:=(aD (aN 1 (ez av))
 (aD (fV (iEn (aL fq (af (ae 0) av))) (gTp 2 (aO (gNm 2) (aO (gNm 3) eR))) (aD (sIf (ve (aY (eOp gEq (ae 3) (eB bP (af (ae 1) av))))) (iZ 1 (ez av)) sNx)
 (lL 1 (ae 3) (ae 2))))
 (eX 1)))
noncomputable def cE:Fn:=cq 1 4 iR
noncomputable def EL (ts:List Nd):Prop:=∀(k:Nat) (n:Nd),ts[k]?=some n->(k=0->n.e=-1)/\(0<k->0<=n.e)/\n.e<k
noncomputable def fw (acc:List Nat) (n:Nd):Nat:=if n.e=-1 then 0 else (acc[n.e.toNat]?).getD 0+1
noncomputable def lvs (ts:List Nd):List Nat:=ts.foldl (λacc n=>acc++[fw acc n]) []
theorem jD (ts:List Nd) (n:Nd):lvs (ts++[n])=lvs ts++[fw (lvs ts) n]:=by
 unfold lvs;rw [List.foldl_append];rfl
theorem snoc_ind {α:Type} {P:List α->Prop} (h0:P []) (hs:∀xs x,P xs->P (xs++[x])) (xs:List α):P xs:=by
 have:∀ys:List α,P ys.reverse:=by
  intro ys
  induction ys with
  |nil=>exact h0
  |cons y ys ih=>rw [List.reverse_cons];exact hs _ _ ih
 have h:=this xs.reverse
 rwa [List.reverse_reverse]at h
theorem dN:∀ts:List Nd,(lvs ts).length=ts.length:=by
 intro ts;refine snoc_ind (P:=λts=>(lvs ts).length=ts.length) rfl (λts n ih=>?_) ts
 rw [jD,Zd,Zd,ih];rfl
theorem take_snoc {α:Type} {xs:List α} {i:Nat} {x:α} (h:xs[i]?=some x):xs.take (i+1)=xs.take i++[x]:=by rw [List.take_add_one,h];rfl
theorem sM (ts:List Nd):∀i:Nat,(lvs ts).take i=lvs (ts.take i):=by
 refine snoc_ind (P:=λts=>∀i:Nat,(lvs ts).take i=lvs (ts.take i)) (λi=>by simp [lvs]) (λts n ih=>?_) ts
 ·intro i
  rcases Nat.le_total i ts.length with h | h
  ·rw [jD,List.take_append_of_le_length (by rw [dN];exact h),List.take_append_of_le_length h,ih]
  ·by_cases h2:i=ts.length
   ·subst h2
    rw [jD,List.take_append_of_le_length (by rw [dN];exact Zn _),List.take_append_of_le_length (Zn _),ih]
   ·rw [List.take_of_length_le (by rw [dN,Zd];simp;lia),List.take_of_length_le (by rw [Zd];simp;lia)]
theorem nC {ts:List Nd} {i:Nat} {n:Nd} (h:ts[i]?=some n):(lvs ts)[i]?=some (fw (lvs (ts.take i)) n):=by
 have hi:=(Zb.mp h).1;have e:=sM ts (i+1);rw [take_snoc h,jD]at e;have:((lvs ts).take (i+1))[i]?=some (fw (lvs (ts.take i)) n):=by
  rw [e,List.getElem?_append_right (by rw [dN,ZE];lia),dN,ZE,Nat.min_eq_left (by lia),Nat.sub_self]
  rfl
 rw [List.getElem?_take_of_lt (by lia)]at this
 exact this
noncomputable def du (ks:List Nat):List PyData:=ks.map λk:Nat=>PyData.int (k:Int)
theorem iU (ks:List Nat):(du ks).length=ks.length:=by unfold du;rw [Zc]
theorem mq {ks:List Nat} {k v:Nat} (h:ks[k]?=some v):atI (du ks) (k:Int)=some (.int v):=fJ (by unfold du;rw [Za,h];rfl)
theorem kZ (ks:List Nat) (k:Nat):(du ks).map OD.sh++[OD.sh (.int (k:Int))]=(du (ks++[k])).map OD.sh:=by
 unfold du;rw [Zl,Zl];rfl
theorem oV (ts:List Nd) (he:EL ts) (hl:ts.length<=100):fq [.list (au ts)]=.ok (.ol ((du (lvs ts)).map OD.sh)):=by
 unfold fq g4;push_cast only [and_self];generalize hL:bJ _ _ _ _=r'
 refine cT hL (λi ρ=>∃v2:Option OD,ρ=[some (.sh (.list (au ts))),some (.ol ((du (lvs (ts.take i))).map OD.sh)),v2]) ⟨_,rfl⟩ ?_ ?_
 ·rintro i d ρ hd ⟨v2,rfl⟩
  unfold au at hd;rw [Za]at hd;obtain ⟨n,hn,rfl⟩:=Zp.mp hd;have hi:=(Zb.mp hn).1;have lb:((du (lvs (ts.take i))).length<BIG)=True:=by rw [iU,dN,ZE];exact eg (by lia)
  have e0:(lvs (ts.take (i+1)))=lvs (ts.take i)++[fw (lvs (ts.take i)) n]:=by rw [take_snoc hn,jD]
  have el:=he i n hn;by_cases h1:n.e=-1
  ·have e1:fw (lvs (ts.take i)) n=0:=by unfold fw;rw [if_pos h1]
   rw [e1]at e0;have sn:=kZ (lvs (ts.take i)) 0;rw [<-e0,Int.natCast_zero]at sn;push_cast only [ndD,decide_eq_true h1,lb,aR,sn];exact ⟨_,rfl⟩
  ·have h0:0<i:=by
    rcases Nat.eq_zero_or_pos i with h | h
    ·exact absurd (el.1 h) h1
    ·exact h
   obtain ⟨k,hk⟩:∃k:Nat,n.e=(k:Int):=⟨n.e.toNat,by have:=el.2.1 h0;lia⟩
   have hki:k<i:=by have:=el.2.2;lia
   obtain ⟨v,hv⟩:∃v,(lvs (ts.take i))[k]?=some v:=⟨(lvs (ts.take i))[k]'(by rw [dN,ZE];lia),by simp⟩
   have e1:fw (lvs (ts.take i)) n=v+1:=by unfold fw;rw [if_neg h1,hk,Int.toNat_natCast,hv];rfl
   rw [e1]at e0;have sn:=kZ (lvs (ts.take i)) (v+1);rw [<-e0,Int.natCast_add,Int.natCast_one]at sn;have ga:=mq hv;have h1':¬((k:Int)=-1):=by lia
   push_cast only [ndD,hk,decide_eq_false h1',lb,aR,ga,sn];exact ⟨_,rfl⟩
 ·rintro ρ' rfl ⟨v2,rfl⟩
  push_cast only [and_self];rw [aF,List.take_of_length_le (Zn _)]
noncomputable def wH (nums:List (List Nat)) (k lv:Nat):List (List Nat):=if lv=nums.length then nums++[[k]] else nums.set lv ((nums[lv]?).getD []++[k])
noncomputable def bY (L:List Nat):Nat->List (List Nat)
 |0=>[]
 |i+1=>wH (bY L i) i ((L[i]?).getD 0)
structure NumOk (L:List Nat) (i:Nat) (nums:List (List Nat)):Prop where
 row:∀(j:Nat) (r:List Nat),nums[j]?=some r->r≠[]/\r.Pairwise (·<·)/\∀k,k∈r ↔ k<i/\L[k]?=some j
 lt:∀(k v:Nat),k<i->L[k]?=some v->v<nums.length
 sum:(nums.map List.length).sum=i
theorem sum_set (f:List Nat->Nat):∀(nums:List (List Nat)) (j:Nat) (r r':List Nat),nums[j]?=some r->f r'=f r+1->((nums.set j r').map f).sum=(nums.map f).sum+1
 |[],j,_,_,h,_=>by simp at h
 |x :: xs,0,r,r',h,e=>by
  simp at h
  subst h;simp
  lia
 |x :: xs,j+1,r,r',h,e=>by
  have:=sum_set f xs j r r' (by simpa using h) e
  simp at this ⊢
  lia
theorem ur:∀(nums:List (List Nat)) (j:Nat) (r:List Nat),nums[j]?=some r->r.length<=(nums.map List.length).sum
 |[],j,r,h=>by simp at h
 |x :: xs,0,r,h=>by
  simp at h
  subst h;simp
 |x :: xs,j+1,r,h=>by
  have:=ur xs j r (by simpa using h)
  simp
  lia
theorem NumOk.step {L:List Nat} {i:Nat} {nums:List (List Nat)} (h:NumOk L i nums) {v:Nat} (hv:L[i]?=some v) (hle:v<=nums.length):NumOk L (i+1) (wH nums i v):=by
 unfold wH;by_cases h1:v=nums.length
 ·rw [if_pos h1]
  refine ⟨λj r hr=>?_,λk w hk hw=>?_,by rw [Zl,List.sum_append,h.sum];simp⟩
  ·by_cases hj:j<nums.length
   ·rw [List.getElem?_append_left hj]at hr
    obtain ⟨a,b,c⟩:=h.row j r hr;refine ⟨a,b,λk=>?_⟩
    rw [c k];constructor
    ·exact λz=>⟨by lia,z.2⟩
    ·rintro ⟨z1,z2⟩
     refine ⟨?_,z2⟩;by_cases hki:k=i
     ·subst hki
      rw [hv]at z2;have:=Zz z2
      lia
     ·lia
   ·rw [List.getElem?_append_right (by lia)]at hr
    have hj':j=nums.length:=by
     have:=(Zb.mp hr).1;simp at this
     lia
    subst hj';have:[i]=r:=by simpa using hr
    subst this;refine ⟨by simp,by simp,λk=>?_⟩
    rw [List.mem_singleton];constructor
    ·rintro rfl
     exact ⟨by lia,by rw [hv,h1]⟩
    ·rintro ⟨z1,z2⟩
     by_cases hki:k=i
     ·exact hki
     ·have:=h.lt k _ (by lia) z2
      lia
  ·rw [Zd,List.length_singleton]
   by_cases hki:k=i
   ·subst hki
    rw [hv]at hw;have:=Zz hw
    lia
   ·have:=h.lt k w (by lia) hw
    lia
 ·rw [if_neg h1]
  have hlt:v<nums.length:=by lia
  obtain ⟨r0,hr0⟩:∃r,nums[v]?=some r:=⟨nums[v],by simp [hlt]⟩
  rw [hr0,Option.getD_some];obtain ⟨a,b,c⟩:=h.row v r0 hr0;refine ⟨λj r hr=>?_,λk w hk hw=>?_,?_⟩
  ·by_cases hj:v=j
   ·subst hj
    rw [List.getElem?_set_self hlt]at hr;cases hr;refine ⟨by simp,?_,λk=>?_⟩
    ·rw [List.pairwise_append]
     refine ⟨b,by simp,λx hx y hy=>?_⟩
     have hy':y=i:=by simpa using hy
     rw [hy'];exact ((c x).mp hx).1
    ·rw [Zs,List.mem_singleton,c k]
     constructor
     ·rintro (⟨z1,z2⟩ | rfl)
      ·exact ⟨by lia,z2⟩
      ·exact ⟨by lia,hv⟩
     ·rintro ⟨z1,z2⟩
      by_cases hki:k=i
      ·exact .inr hki
      ·exact .inl ⟨by lia,z2⟩
   ·rw [List.getElem?_set_ne hj]at hr
    obtain ⟨a',b',c'⟩:=h.row j r hr;refine ⟨a',b',λk=>?_⟩
    rw [c' k];constructor
    ·exact λz=>⟨by lia,z.2⟩
    ·rintro ⟨z1,z2⟩
     refine ⟨?_,z2⟩;by_cases hki:k=i
     ·subst hki
      rw [hv]at z2;exact absurd (Zz z2) hj
     ·lia
  ·rw [ZJ]
   by_cases hki:k=i
   ·subst hki
    rw [hv]at hw;have:=Zz hw
    lia
   ·exact h.lt k w (by lia) hw
  ·rw [sum_set List.length nums v r0 _ hr0 (by simp),h.sum]
theorem yX {ts:List Nd} (he:EL ts) {i:Nat} {nums:List (List Nat)} (h:NumOk (lvs ts) i nums) {n:Nd} (hn:ts[i]?=some n):fw (lvs (ts.take i)) n<=nums.length:=by
 unfold fw;split
 ·exact Nat.zero_le _
 ·rename_i h1
  have el:=he i n hn;have h0:0<i:=by
   rcases Nat.eq_zero_or_pos i with h | h
   ·exact absurd (el.1 h) h1
   ·exact h
  have hi:=(Zb.mp hn).1;have hk:n.e.toNat<i:=by have:=el.2.1 h0;have:=el.2.2;lia
  obtain ⟨v,hv⟩:∃v,(lvs ts)[n.e.toNat]?=some v:=⟨(lvs ts)[n.e.toNat]'(by rw [dN];lia),by simp⟩
  have:(lvs (ts.take i))[n.e.toNat]?=some v:=by rw [<-sM,List.getElem?_take_of_lt hk];exact hv
  rw [this,Option.getD_some];exact h.lt _ v hk hv
theorem gw {ts:List Nd} (he:EL ts):∀i,i<=ts.length->NumOk (lvs ts) i (bY (lvs ts) i)
 |0,_=>⟨λj r h=>by simp [bY]at h,λk v h=>by lia,rfl⟩
 |i+1,hi=>by
  have ih:=gw he i (by lia)
  obtain ⟨n,hn⟩:∃n,ts[i]?=some n:=⟨ts[i]'(by lia),by simp⟩
  have hv:=nC hn;rw [bY,hv,Option.getD_some];exact ih.step hv (yX he ih hn)
noncomputable def Fx (r:List Nat):OD:=.ol ((du r).map OD.sh)
noncomputable def j5 (nums:List (List Nat)):List OD:=nums.map Fx
noncomputable def iG (nums:List (List Nat)):List PyData:=nums.map λr=>.list (du r)
theorem lQ (nums:List (List Nat)):(j5 nums).map OD.er=iG nums:=by
 unfold j5 iG;rw [Zi];refine Zt λr _=>?_
 show (Fx r).er=_
 unfold Fx;rw [oE,aR]
theorem iC (nums:List (List Nat)):(j5 nums).length=nums.length:=by unfold j5;rw [Zc]
theorem mC (ts:List Nd) (he:EL ts) (hl:ts.length<=100):cE [.list (au ts)]=.ok (.ol (j5 (bY (lvs ts) ts.length))):=by
 unfold cE iR;push_cast only [oV ts he hl,aR];generalize hL:bJ _ _ _ _=r'
 refine cT hL (λi ρ=>∃v2 v3:Option OD,ρ=[some (.sh (.list (au ts))),some (.ol (j5 (bY (lvs ts) i))),v2,v3]) ⟨_,_,rfl⟩ ?_ ?_
 ·rintro i d ρ hd ⟨v2,v3,rfl⟩
  obtain ⟨e,he',rfl⟩:=jH hd;unfold du at he';rw [Za]at he';obtain ⟨v,hv,rfl⟩:=Zp.mp he';have hi:=(Zb.mp hv).1;rw [dN]at hi;have ok:=gw he i (by lia)
  obtain ⟨n,hn⟩:∃n,ts[i]?=some n:=⟨ts[i]'(by lia),by simp⟩
  have hle:=yX he ok hn;rw [nC hn]at hv;rw [Zz hv]at hle;have hv':(lvs ts)[i]?=some v:=by rw [nC hn];exact hv
  have e0:bY (lvs ts) (i+1)=wH (bY (lvs ts) i) i v:=by rw [bY,hv'];rfl
  have hnl:(bY (lvs ts) i).length<=i:=by
   have hs:=ok.sum;have:∀nums:List (List Nat),(∀(j:Nat) (r:List Nat),nums[j]?=some r->r≠[])->nums.length<=(nums.map List.length).sum:=by
    intro nums
    induction nums with
    |nil=>intro _;simp
    |cons x xs ih =>
     intro h;have h1:=h 0 x rfl;have h2:=ih λj r hr=>h (j+1) r (by simpa using hr)
     have:1<=x.length:=by
      cases x with
      |nil=>exact absurd rfl h1
      |cons a b=>simp
     simp
     lia
   have:=this _ λj r hr=>(ok.row j r hr).1
   lia
  by_cases h1:v=(bY (lvs ts) i).length
  ·have d1:decide ((v:Int)=((bY (lvs ts) i).length:Int))=true:=decide_eq_true (by lia)
   have lb:((bY (lvs ts) i).length<BIG)=True:=eg (by lia)
   push_cast only [lQ,iC,d1,iG,lb];have ap:=qE (i:=1) (ρ:=[some (OD.sh (PyData.list (au ts))),some (OD.ol (j5 (bY (lvs ts) i)++[OD.ol []])),some (OD.sh (PyData.int i)),some (OD.sh (PyData.int v))]) (k:=ae 3) (a:=ae 2) (xs:=j5 (bY (lvs ts) i)++[OD.ol []]) (ys:=[]) (z:=v) (j:=v) (y:=.sh (.int i)) rfl rfl (cz (by rw [Zd,iC,List.length_singleton];lia)) (by rw [List.getElem?_append_right (by rw [iC];lia),iC,h1,Nat.sub_self];rfl) rfl (by decide)
   rw [ap];push_cast only [and_self];have e1:(j5 (bY (lvs ts) i)++[OD.ol []]).set v (OD.ol [OD.sh (.int i)])=j5 (bY (lvs ts) (i+1)):=by
    rw [e0];unfold wH;rw [if_pos h1,List.set_append_right _ _ (by rw [iC];lia),iC,h1,Nat.sub_self]
    unfold j5;rw [Zl];rfl
   rw [e1];exact ⟨_,_,rfl⟩
  ·have d1:decide ((v:Int)=((bY (lvs ts) i).length:Int))=false:=decide_eq_false (by lia)
   have hlt:v<(bY (lvs ts) i).length:=by lia
   obtain ⟨r0,hr0⟩:∃r,(bY (lvs ts) i)[v]?=some r:=⟨(bY (lvs ts) i)[v],by simp [hlt]⟩
   have hr0l:r0.length<=i:=by
    have:=ur _ _ _ hr0;rw [ok.sum]at this;exact this
   push_cast only [lQ,iC,d1,iG];have ap:=qE (i:=1) (ρ:=[some (OD.sh (PyData.list (au ts))),some (OD.ol (j5 (bY (lvs ts) i))),some (OD.sh (PyData.int i)),some (OD.sh (PyData.int v))]) (k:=ae 3) (a:=ae 2) (xs:=j5 (bY (lvs ts) i)) (ys:=(du r0).map OD.sh) (z:=v) (j:=v) (y:=.sh (.int i)) rfl rfl (cz (by rw [iC];lia)) (by unfold j5;rw [Za,hr0];rfl) rfl (by rw [Zc,iU];exact of_eq_true (eg (by lia)))
   rw [ap];push_cast only [and_self];have e1:(j5 (bY (lvs ts) i)).set v (OD.ol ((du r0).map OD.sh++[OD.sh (.int i)]))=j5 (bY (lvs ts) (i+1)):=by
    rw [e0];unfold wH;rw [if_neg h1,hr0,kZ];unfold j5;rw [List.map_set];rfl
   rw [e1];exact ⟨_,_,rfl⟩
 ·rintro ρ' rfl ⟨v2,v3,rfl⟩
  have:(gT (du (lvs ts))).length=ts.length:=by
   unfold gT;rw [Zc,List.length_zipIdx,iU,dN]
  rw [this];push_cast only [and_self]
noncomputable def j6 (ts:List Nd):List Int:=ts.map λn=>(n.l.length:Int) / 2
noncomputable def F6 (f:Nat->Int) (n:Nat):List PyData:=(List.range n).map λx=>PyData.int (f x)
theorem Hi (f:Nat->Int) (n x:Nat) (v:Int):((F6 f n).map OD.sh).set x (.sh (.int v))=(F6 (λy=>if y=x then v else f y) n).map OD.sh:=by
 unfold F6;rw [Zi,Zi];apply List.ext_getElem?
 intro k;by_cases hk:x=k
 ·subst hk
  by_cases hn:x<n
  ·rw [List.getElem?_set_self (by simpa using hn),Za,Zy hn]
   simp
  ·rw [Zu (by simp;lia),Zu (by simp;lia)]
 ·rw [List.getElem?_set_ne hk,Za,Za]
  cases h:(List.range n)[k]? with
  |none=>rfl
  |some y =>
   have:y=k:=by
    have:=(Zb.mp h).2;simp at this
    exact this.symm
   subst this;simp [Ne.symm hk]
theorem gH (nums:List (List Nat)):(iG nums).length=nums.length:=by unfold iG;rw [Zc]
theorem sG (xs:List PyData) (j:Nat) (h:j<xs.length):dW [.list xs,.int j]=.ok (.sh .none):=by
 unfold dW iz;have d1:decide ((j:Int)<0)=false:=decide_eq_false (by lia)
 have d2:decide ((xs.length:Int)<=(j:Int))=false:=decide_eq_false (by lia)
 push_cast only [d1,d2]
noncomputable def iL (rs:List Nat):List Int:=rs.map λk:Nat=>(k:Int)
noncomputable def nD (rs:List Nat):List PyData:=(iL rs).map PyData.int
noncomputable def nO (rs:List Nat):List OD:=(nD rs).map OD.sh
theorem j8 (rs:List Nat):(nO rs).map OD.er=nD rs:=aR _
theorem c7 (rs:List Nat):(nD rs).length=rs.length:=by unfold nD iL;rw [Zc,Zc]
theorem oH (rs:List Nat):(nO rs).length=rs.length:=by unfold nO;rw [Zc,c7]
theorem uH (a b:List Nat):nO a++nO b=nO (a++b):=by unfold nO nD iL;rw [Zl,Zl,Zl]
theorem l8 (a:List Nat) (k:Nat):nO a++[OD.sh (.int (k:Int))]=nO (a++[k]):=by rw [<-uH];rfl
theorem yS {rs:List Nat} {i k:Nat} (h:rs[i]?=some k):(nD rs)[i]?=some (.int (k:Int)):=by
 unfold nD iL;rw [Za,Za,h];rfl
noncomputable def chN (ts:List Nd) (q:Nat):List Nat:=(List.range ts.length).filter (λj=>decide (eOf ts j=(q:Int)))
theorem xq (ts:List Nd):gT (au ts)=(List.range ts.length).map λk:Nat=>PyData.tuple [.int (k:Int),ndD (d5 ts k)]:=by
 apply List.ext_getElem?
 intro i;rw [Za];by_cases hi:i<ts.length
 ·rw [Zy hi]
  unfold gT au;rw [Za,List.getElem?_zipIdx,Za,Zg hi];unfold d5;simp [Zg hi]
 ·rw [Zu (by unfold gT au;simp;lia),Zu (by rw [Zh];lia)]
  rfl
theorem vC (L:List Nat):(L.map λk:Nat=>OD.sh (.int (k:Int)))=nO L:=by
 unfold nO nD iL;rw [Zi,Zi];rfl
theorem ki (ts:List Nd) (q:Nat) (hq:q<ts.length) (hl:ts.length<=100):cn [.list (au ts),.int q]=.ok (.ol (nO (chN ts q))):=by
 unfold cn gE;have ck:=sG (au ts) q (by rw [aF];exact hq)
 push_cast only [ck];generalize hC:ba _ _ _ _ _ _=rc
 have e:=gR hC (λk:Nat=>PyData.tuple [.int (k:Int),ndD (d5 ts k)]) (λk=>decide (eOf ts k=(q:Int))) (λk:Nat=>.sh (.int (k:Int))) (List.range ts.length) (xq ts) (by rw [Zh];exact of_eq_true (aW (by lia))) (by
  intro k hk;rw [ZH]at hk;have he:=pe hk;refine ⟨?_,λ_=>?_⟩
  ·push_cast only [ndD,he]
  ·push_cast only [ndD])
 subst e;rw [vC];push_cast only [and_self];rfl
noncomputable def bH (ns:List Int):List OD:=(ns.map PyData.int).map OD.sh
theorem bI (ns:List Int):(bH ns).map OD.er=ns.map PyData.int:=aR _
theorem bc (ns:List Int):(bH ns).length=ns.length:=by unfold bH;rw [Zc,Zc]
theorem zV:∀{a b:List Nat},a.Pairwise (·<·)->b.Pairwise (·<·)->(∀k,k∈a ↔ k∈b)->a=b
 |[],[],_,_,_=>rfl
 |[],y :: ys,_,_,h=>absurd ((h y).mpr Zf) (by simp)
 |x :: xs,[],_,_,h=>absurd ((h x).mp Zf) (by simp)
 |x :: xs,y :: ys,pa,pb,h=>by
  obtain ⟨a1,a2⟩:=List.pairwise_cons.mp pa;obtain ⟨b1,b2⟩:=List.pairwise_cons.mp pb;have e:x=y:=by
   have h1:=(h x).mp Zf;have h2:=(h y).mpr Zf;rcases Zo.mp h1 with z | z
   ·exact z
   ·rcases Zo.mp h2 with z2 | z2
    ·exact z2.symm
    ·have:=b1 x z
     have:=a1 y z2
     lia
  subst e;rw [zV a2 b2 λk=>⟨λm=>?_,λm=>?_⟩]
  ·have h1:=(h k).mp (Ze _ m)
   rcases Zo.mp h1 with z | z
   ·have:=a1 k m
    lia
   ·exact z
  ·have h1:=(h k).mpr (Ze _ m)
   rcases Zo.mp h1 with z | z
   ·have:=b1 k m
    lia
   ·exact z
theorem jx {β:Type} (f g:Nat->β) (n k:Nat) (hk:∀q,q≠k->g q=f q):((List.range n).map f).set k (g k)=(List.range n).map g:=by
 apply List.ext_getElem?
 intro i;by_cases hi:k=i
 ·subst hi
  by_cases hn:k<n
  ·rw [List.getElem?_set_self (by simpa using hn),Za,Zy hn]
   rfl
  ·rw [Zu (by simp;lia),Zu (by simp;lia)]
 ·rw [List.getElem?_set_ne hi,Za,Za]
  by_cases hn:i<n
  ·rw [Zy hn]
   show some (f i)=some (g i)
   rw [hk i (Ne.symm hi)]
  ·rw [Zu (by simp;lia)]
   rfl
noncomputable def chI (ts:List Nd) (i q:Nat):List Nat:=(List.range i).filter (λj=>decide (eOf ts j=(q:Int)))
theorem v_ (ts:List Nd) (i q:Nat):(chI ts i q).length<=i:=by
 unfold chI;have:=List.length_filter_le (λj=>decide (eOf ts j=(q:Int))) (List.range i)
 rw [Zh]at this;exact this
theorem oN (ts:List Nd) (i q:Nat):chI ts (i+1) q=chI ts i q++(if eOf ts i=(q:Int) then [i] else []):=by
 unfold chI;rw [List.range_succ,List.filter_append];congr 1
 by_cases h:eOf ts i=(q:Int)
 ·rw [if_pos h]
  simp [h]
 ·rw [if_neg h]
  simp [h]
theorem j9 (ts:List Nd) (he:EL ts) (h0:0<ts.length) (hl:ts.length<=100):cD [.list (au ts)]=.ok (.ol ((List.range ts.length).map λq=>OD.ol (nO (chN ts q)))):=by
 unfold cD fO;push_cast only [and_self];generalize hC:ba _ _ _ _ _ _=rc
 have e:=dc hC ndD (λ_:Nd=>.ol []) ts rfl (of_eq_true (aW (by lia))) (by intro n hn;push_cast only [and_self])
 subst e;have s1:aK 1=true:=iH (by decide) (by decide)
 have s2:aK (ts.length:Int)=true:=iH (by lia) (by lia)
 have z0:eOf ts 0=-1:=by
  obtain ⟨n,hn⟩:∃n,ts[0]?=some n:=⟨ts[0],by simp [h0]⟩
  rw [eV hn];exact (he 0 n hn).1 rfl
 have e0:(ts.map λ_:Nd=>OD.ol [])=(List.range ts.length).map λq=>OD.ol (nO (chI ts 1 q)):=by
  have:∀q:Nat,chI ts 1 q=[]:=λq=>by
   rw [oN,z0,if_neg (by lia)]
   rfl
  apply List.ext_getElem?
  intro i;rw [Za,Za];by_cases hi:i<ts.length
  ·rw [Zy hi,Zg hi]
   show some (OD.ol [])=some (OD.ol (nO (chI ts 1 i)))
   rw [this];rfl
  ·rw [Zu (by lia),Zu (by rw [Zh];lia)]
   rfl
 push_cast only [e0,aF,s1,s2,Bool.and_self];generalize hL:bJ _ _ _ _=r'
 refine cT hL (λi ρ=>∃v2:Option OD,ρ=[some (.sh (.list (au ts))),some (.ol ((List.range ts.length).map λq=>OD.ol (nO (chI ts (i+1) q)))),v2]) ⟨_,rfl⟩ ?_ ?_
 ·rintro i d ρ hd ⟨v2,rfl⟩
  obtain ⟨hi,rfl⟩:=fZ hd;have hi2:i+1<ts.length:=by lia
  have ei:(1:Int)+(i:Int)=((i+1:Nat):Int):=by lia
  rw [ei];obtain ⟨n,hn⟩:∃n,ts[i+1]?=some n:=⟨ts[i+1],by simp [hi2]⟩
  have el:=he (i+1) n hn;obtain ⟨k,hk⟩:∃k:Nat,n.e=(k:Int):=⟨n.e.toNat,by have:=el.2.1 (by lia);lia⟩
  have hki:k<i+1:=by have:=el.2.2;lia
  have g3:=fm hn;rw [hk]at g3;have hl2:=v_ ts (i+1) k;have ap:=qE (i:=1) (ρ:=[some (.sh (.list (au ts))),some (.ol ((List.range ts.length).map λq=>OD.ol (nO (chI ts (i+1) q)))),some (.sh (.int ((i+1:Nat):Int)))]) (k:=eOp gIx (eOp gIx (ae 0) (ae 2)) (eC (.int 0))) (a:=ae 2) (xs:=(List.range ts.length).map λq=>OD.ol (nO (chI ts (i+1) q))) (ys:=nO (chI ts (i+1) k)) (z:=k) (j:=k) (y:=.sh (.int ((i+1:Nat):Int))) rfl (by push_cast only [g3]) (cz (by rw [Zc,Zh];lia)) (by rw [Za,Zy (by lia)];rfl) rfl (by rw [oH];exact of_eq_true (eg (by lia)))
  push_cast only [and_self];rw [ap];have st:((List.range ts.length).map λq=>OD.ol (nO (chI ts (i+1) q))).set k (OD.ol (nO (chI ts (i+1) k)++[OD.sh (.int ((i+1:Nat):Int))]))=(List.range ts.length).map λq=>OD.ol (nO (chI ts (i+1+1) q)):=by
   rw [l8];have e1:chI ts (i+1) k++[i+1]=chI ts (i+1+1) k:=by rw [oN ts (i+1),eV hn,hk,if_pos rfl]
   rw [e1];refine jx (λq=>OD.ol (nO (chI ts (i+1) q))) (λq=>OD.ol (nO (chI ts (i+1+1) q))) ts.length k λq hq=>?_
   show OD.ol (nO (chI ts (i+1+1) q))=_
   rw [oN ts (i+1),eV hn,hk,if_neg (by lia),Zx]
  rw [st];push_cast only [and_self];exact ⟨_,rfl⟩
 ·rintro ρ' rfl ⟨v2,rfl⟩
  rw [fR,show ((ts.length:Int)-1).toNat+1=ts.length by lia]
  push_cast only [and_self];rfl
theorem Aa {ts:List Nd} (he:EL ts):bY (lvs ts) ts.length=(List.range (bY (lvs ts) ts.length).length).map λj=>(List.range ts.length).filter λk=>decide ((((lvs ts)[k]?).getD 0)=j):=by
 have ok:=gw he ts.length (Zn _);apply List.ext_getElem?
 intro j;rw [Za];by_cases hj:j<(bY (lvs ts) ts.length).length
 ·rw [Zy hj,Zg hj]
  show some _=some _
  congr 1
  obtain ⟨r1,r2,r3⟩:=ok.row j _ (Zg hj);refine zV r2 (List.Pairwise.filter _ List.pairwise_lt_range) λk=>?_
  rw [r3 k,List.mem_filter,ZH,decide_eq_true_eq];constructor
  ·rintro ⟨a,b⟩
   exact ⟨a,by rw [b];rfl⟩
  ·rintro ⟨a,b⟩
   refine ⟨a,?_⟩;obtain ⟨v,hv⟩:∃v,(lvs ts)[k]?=some v:=⟨(lvs ts)[k]'(by rw [dN];exact a),by simp⟩
   rw [hv]at b ⊢;rw [<-b];rfl
 ·rw [Zu (by lia),Zu (by rw [Zh];lia)]
  rfl
theorem kg {ts:List Nd} (he:EL ts) (h0:0<ts.length):0<(bY (lvs ts) ts.length).length/\(bY (lvs ts) ts.length).length<=ts.length:=by
 have ok:=gw he ts.length (Zn _);constructor
 ·obtain ⟨v,hv⟩:∃v,(lvs ts)[0]?=some v:=⟨(lvs ts)[0]'(by rw [dN];exact h0),by simp⟩
  have:=ok.lt 0 v h0 hv
  lia
 ·have:∀nums:List (List Nat),(∀(j:Nat) (r:List Nat),nums[j]?=some r->r≠[])->nums.length<=(nums.map List.length).sum:=by
   intro nums
   induction nums with
   |nil=>intro _;simp
   |cons x xs ih =>
    intro h;have h1:=h 0 x rfl;have h2:=ih λj r hr=>h (j+1) r (by simpa using hr)
    have:1<=x.length:=by
     cases x with
     |nil=>exact absurd rfl h1
     |cons a b=>simp
    simp
    lia
  have:=this _ λj r hr=>(ok.row j r hr).1
  rw [ok.sum]at this;exact this
theorem Br {ts:List Nd} (he:EL ts) (h0:0<ts.length):∃(a:Nat) (as:List Nat),lvs ts=a :: as/\mT (a:Int) (as.map λk:Nat=>(k:Int))+1=((bY (lvs ts) ts.length).length:Int):=by
 have ok:=gw he ts.length (Zn _);have nl:=(kg he h0).1;cases hL:lvs ts with
 |nil =>
  have:=dN ts;rw [hL]at this;simp at this
  lia
 |cons a as =>
  refine ⟨a,as,rfl,?_⟩;rw [hL]at ok nl;obtain ⟨m1,m2⟩:=mR (as.map λk:Nat=>(k:Int)) (a:Int)
  have hmap:((a:Int) :: as.map λk:Nat=>(k:Int))=(a :: as).map λk:Nat=>(k:Int):=rfl
  rw [hmap]at m1 m2;obtain ⟨v,hv,ev⟩:=ZC.mp m1;obtain ⟨i,hi,ei⟩:=List.getElem_of_mem hv;have il:i<ts.length:=by
   have:=dN ts;rw [hL]at this
   lia
  have l1:=ok.lt i v il (by rw [Zg hi,ei])
  obtain ⟨r,hr⟩:∃r,(bY (a :: as) ts.length)[(bY (a :: as) ts.length).length-1]?=some r:=⟨(bY (a :: as) ts.length)[(bY (a :: as) ts.length).length-1]'(by lia),by simp⟩
  obtain ⟨r1,r2,r3⟩:=ok.row _ r hr;obtain ⟨k,hk⟩:=List.exists_mem_of_ne_nil r r1;have k2:=((r3 k).mp hk).2;have:=m2 (((bY (a :: as) ts.length).length-1:Nat):Int) (ZC.mpr ⟨_,ZB k2,rfl⟩);rw [<-ev]at this ⊢
  lia
theorem jz (ts:List Nd) (he:EL ts) (h0:0<ts.length) (hl:ts.length<=100):bL [.list (au ts)]=.ok (.ol ((iG (bY (lvs ts) ts.length)).map OD.sh)):=by
 unfold bL gF;have c1:cutD (au ts) (some 1) none=(au ts).drop 1:=jM (au ts) 1 (by rw [aF];lia)
 obtain ⟨n0,hn0⟩:∃n,ts[0]?=some n:=⟨ts[0],by simp [h0]⟩
 have l0:lvs (ts.take 1)=[0]:=by
  rw [take_snoc (i:=0) hn0,List.take_zero];show [fw [] n0]=[0]
  unfold fw;rw [if_pos ((he 0 n0 hn0).1 rfl)]
 push_cast only [c1,aR];generalize hL:bJ _ _ _ _=r'
 refine cT hL (λi ρ=>∃v2 v3 v4:Option OD,ρ=[some (.sh (.list (au ts))),some (.ol ((du (lvs (ts.take (i+1)))).map OD.sh)),v2,v3,v4]) ⟨_,_,_,by rw [l0];rfl⟩ ?_ ?_
 ·rintro i d ρ hd ⟨v2,v3,v4,rfl⟩
  rw [List.getElem?_drop]at hd;unfold au at hd;rw [Za]at hd;obtain ⟨n,hn,rfl⟩:=Zp.mp hd;rw [Nat.add_comm]at hn;have hi:=(Zb.mp hn).1;have lb:((du (lvs (ts.take (i+1)))).length<BIG)=True:=by rw [iU,dN,ZE];exact eg (by lia)
  have e0:(lvs (ts.take (i+1+1)))=lvs (ts.take (i+1))++[fw (lvs (ts.take (i+1))) n]:=by rw [take_snoc hn,jD]
  have el:=he (i+1) n hn;obtain ⟨k,hk⟩:∃k:Nat,n.e=(k:Int):=⟨n.e.toNat,by have:=el.2.1 (by lia);lia⟩
  have hki:k<i+1:=by have:=el.2.2;lia
  obtain ⟨v,hv⟩:∃v,(lvs (ts.take (i+1)))[k]?=some v:=⟨(lvs (ts.take (i+1)))[k]'(by rw [dN,ZE];lia),by simp⟩
  have e1:fw (lvs (ts.take (i+1))) n=v+1:=by unfold fw;rw [if_neg (by lia),hk,Int.toNat_natCast,hv];rfl
  rw [e1]at e0;have sn:=kZ (lvs (ts.take (i+1))) (v+1);rw [<-e0,Int.natCast_add,Int.natCast_one]at sn;have ga:=mq hv;push_cast only [ndD,hk,lb,aR,ga,sn];exact ⟨_,_,_,rfl⟩
 ·rintro ρ' rfl ⟨v2,v3,v4,rfl⟩
  rw [ZF,aF,show ts.length-1+1=ts.length by lia,List.take_of_length_le (Zn _)]
  obtain ⟨a,as,hL,hM⟩:=Br he h0;have nl:=kg he h0;have mx:n6 [.list (du (lvs ts))]=.ok (.sh (.int (mT (a:Int) (as.map λk:Nat=>(k:Int))))):=by
   have:du (lvs ts)=PyData.int (a:Int) :: (as.map λk:Nat=>(k:Int)).map PyData.int:=by
    rw [hL];unfold du;rw [Zk,Zi];rfl
   rw [this];exact DP _ _
  have s1:aK (mT (a:Int) (as.map λk:Nat=>(k:Int))+1)=true:=by rw [hM];exact iH (by lia) (by lia)
  push_cast only [aR,mx,s1];generalize hC:ba _ _ _ _ _ _=rc
  have e:=dc hC (λj:Nat=>PyData.int (0+(j:Int))) (λj:Nat=>.sh (.list (du ((List.range ts.length).filter λk=>decide ((((lvs ts)[k]?).getD 0)=j))))) (List.range (bY (lvs ts) ts.length).length) (by rw [hM,Int.toNat_natCast];rfl) (by rw [Zh];exact of_eq_true (aW (by lia))) (by
   intro j hj;have s2:aK (ts.length:Int)=true:=iH (by lia) (by lia)
   push_cast only [aF,s2];generalize hC2:ba _ _ _ _ _ _=rc2
   have e2:=gR hC2 (λk:Nat=>PyData.int (0+(k:Int))) (λk=>decide ((((lvs ts)[k]?).getD 0)=j)) (λk:Nat=>.sh (.int (k:Int))) (List.range ts.length) (by rw [Int.toNat_natCast];rfl) (by rw [Zh];exact of_eq_true (aW (by lia))) (by
    intro k hk;rw [ZH]at hk;obtain ⟨v,hv⟩:∃v,(lvs ts)[k]?=some v:=⟨(lvs ts)[k]'(by rw [dN];exact hk),by simp⟩
    have ga:=mq hv;have dj:decide ((v:Int)=(0:Int)+(j:Int))=decide ((((lvs ts)[k]?).getD 0)=j):=by
     rw [hv];show _=decide (v=j)
     by_cases h:v=j
     ·rw [decide_eq_true h,decide_eq_true (by lia)]
     ·rw [decide_eq_false h,decide_eq_false (by lia)]
    refine ⟨?_,λ_=>?_⟩
    ·push_cast only [Int.zero_add,ga]
     rw [<-dj,Int.zero_add]
    ·push_cast only [Int.zero_add])
   subst e2;have en:(((List.range ts.length).filter λk=>decide ((((lvs ts)[k]?).getD 0)=j)).map λk:Nat=>OD.sh (.int (k:Int))).map OD.er=du ((List.range ts.length).filter λk=>decide ((((lvs ts)[k]?).getD 0)=j)):=by
    unfold du;rw [Zi];exact Zt λk _=>ee _
   push_cast only [en])
  subst e;have en:(List.range (bY (lvs ts) ts.length).length).map (λj:Nat=>OD.sh (.list (du ((List.range ts.length).filter λk=>decide ((((lvs ts)[k]?).getD 0)=j)))))=(iG (bY (lvs ts) ts.length)).map OD.sh:=by
   conv=>rhs;rw [Aa he]
   unfold iG;rw [Zi,Zi];rfl
  rw [en];push_cast only [and_self]
noncomputable def iu:Fs:=(aD (aN 1 (ez av))
 (aD (fV (e7 (aL cE (af (ae 0) av))) (gNm 2) (t9 1 (bD (iZp (ae 2) (eSl l7 (ae 2) (iA (eC (.int 1))) ji)) (gTp 2 (aO (gNm 0) (aO (gNm 1) eR))) bQ (g5 (af (ae 0) (af (ae 1) av))) 2 [])))
 (eX 1)))
noncomputable def fX:Fn:=cq 1 3 iu
noncomputable def plA (pl:List Int) (k:Nat):Int:=(pl[k]?).getD 0
theorem fE {pl:List Int} {k:Nat} (h:k<pl.length):atI (pl.map PyData.int) (k:Int)=some (.int (plA pl k)):=fJ (by
 rw [Za];unfold plA;rw [Zg h];rfl)
noncomputable def prD (p:Nat×Nat):PyData:=.tuple [.int (p.1:Int),.int (p.2:Int)]
noncomputable def prs (r:List Nat):List (Nat×Nat):=r.zip (r.drop 1)
theorem wj (r:List Nat):(prs r).length<=r.length:=by
 unfold prs;rw [List.length_zip]
 lia
theorem AB (r:List Nat):oU (du r) ((du r).drop 1)=(prs r).map prD:=by
 unfold oU du prs;rw [<-List.map_drop,List.zip_map,Zi];rfl
theorem Ad {r:List Nat} {p:Nat×Nat} (h:p∈prs r):p.1∈r/\p.2∈r:=by
 obtain ⟨a,b⟩:=p;have:=List.of_mem_zip h;exact ⟨this.1,List.mem_of_mem_drop this.2⟩
theorem xA (nums:List (List Nat)) (j:Nat):((nums.take j).map List.length).sum<=(nums.map List.length).sum:=by
 have:=congrArg (λl=>(l.map List.length).sum) (List.take_append_drop j nums)
 simp only [Zl,List.sum_append]at this
 lia
noncomputable def hdN (r:List Nat):Nat:=(r[0]?).getD 0
noncomputable def ltN (r:List Nat):Nat:=(r.getLast?).getD 0
noncomputable def nbs:List (List Nat)->List (Nat×Nat)
 |[]=>[]
 |r :: rs=>prs r++nbs rs
theorem rP:∀(a b:List (List Nat)),nbs (a++b)=nbs a++nbs b
 |[],b=>rfl
 |r :: rs,b=>by rw [List.cons_append,nbs,nbs,rP rs b,ZD]
theorem vI:∀a:List (List Nat),(nbs a).length<=(a.map List.length).sum
 |[]=>Zn _
 |r :: rs=>by
  have h1:=vI rs;have h2:=wj r;rw [nbs,Zd,Zk,List.sum_cons]
  lia
theorem vF:∀{a:List (List Nat)} {p:Nat×Nat},p∈nbs a->∃r∈a,p∈prs r
 |[],p,h=>by simp [nbs]at h
 |r :: rs,p,h=>by
  rw [nbs,Zs]at h;rcases h with h | h
  ·exact ⟨r,Zf,h⟩
  ·obtain ⟨q,h1,h2⟩:=vF h
   exact ⟨q,Ze _ h1,h2⟩
noncomputable abbrev nums (ts:List Nd):List (List Nat):=bY (lvs ts) ts.length
theorem FD {ts:List Nd} (he:EL ts) {p:Nat×Nat} (h:p∈nbs (nums ts)):p.1<ts.length/\p.2<ts.length:=by
 obtain ⟨r,hr,hp⟩:=vF h;have ok:=gw he ts.length (Zn _);obtain ⟨j,hj⟩:=List.getElem?_of_mem hr;obtain ⟨_,_,r3⟩:=ok.row j r hj;obtain ⟨m1,m2⟩:=Ad hp;exact ⟨((r3 _).mp m1).1,((r3 _).mp m2).1⟩
theorem pD (ts:List Nd) (he:EL ts) (hl:ts.length<=100):fX [.list (au ts)]=.ok (.ol (((nbs (nums ts)).map prD).map OD.sh)):=by
 unfold fX iu;have ok:=gw he ts.length (Zn _);push_cast only [mC ts he hl,lQ];show _=R.ok (OD.ol (((nbs (bY (lvs ts) ts.length)).map prD).map OD.sh))
 generalize bY (lvs ts) ts.length=nums at ok
 generalize hL:bJ _ _ _ _=r'
 refine cT hL (λi ρ=>∃v:Option OD,ρ=[some (.sh (.list (au ts))),some (.ol (((nbs (nums.take i)).map prD).map OD.sh)),v]) ⟨_,rfl⟩ ?_ ?_
 ·rintro i d ρ hd ⟨v,rfl⟩
  unfold iG at hd;rw [Za]at hd;obtain ⟨r,hr,rfl⟩:=Zp.mp hd;obtain ⟨r1,r2,r3⟩:=ok.row i r hr;have rl:1<=r.length:=by
   cases r with
   |nil=>exact absurd rfl r1
   |cons a b=>simp
  have c1:cutD (du r) (some 1) none=(du r).drop 1:=jM (du r) 1 (by rw [iU];exact rl)
  have tk:nums.take (i+1)=nums.take i++[r]:=take_snoc hr;have h1:=wj r;have bound:(nbs (nums.take i)).length+r.length<=100:=by
   have a1:=vI (nums.take i);have a2:=xA nums (i+1);rw [tk,Zl,List.sum_append,ok.sum]at a2;simp only [Zk,List.map_nil,List.sum_cons,List.sum_nil]at a2
   lia
  push_cast only [c1,aR,AB];generalize hC:ba _ _ _ _ _ _=rc
  have e:=dc hC prD (λp=>.sh (prD p)) (prs r) rfl (of_eq_true (aW (by lia))) (by
   intro p _;unfold prD;push_cast only [and_self])
  subst e;have lb:(nbs (nums.take i)).length+(prs r).length<=BIG:=of_eq_true (aW (by lia))
  push_cast only [lb];rw [tk,rP,show nbs [r]=prs r++[] from rfl,Zx,Zl,Zl,Zi,Zi]
  exact ⟨_,rfl⟩
 ·rintro ρ' rfl ⟨v,rfl⟩
  unfold iG;push_cast only [and_self];rw [List.take_of_length_le (Zn _)]
noncomputable def iD (ns:List Int):PyData:=.list (ns.map PyData.int)
noncomputable def bo (l r g:List Int):PyData:=.tuple [iD l,iD r,iD g]
theorem kj {r:List Nat} (h:r≠[]):atI (du r) 0=some (.int (hdN r:Nat))/\atI (du r) (-1)=some (.int (ltN r:Nat))/\hdN r∈r/\ltN r∈r:=by
 cases r with
 |nil=>exact absurd rfl h
 |cons a as =>
  have e:=List.dropLast_concat_getLast (List.cons_ne_nil a as);have hlt:ltN (a :: as)=(a :: as).getLast (List.cons_ne_nil a as):=by
   unfold ltN;rw [List.getLast?_eq_some_getLast (List.cons_ne_nil a as)];rfl
  refine ⟨at0 _ _,?_,Zf,by rw [hlt];exact List.getLast_mem _⟩
  rw [hlt]
  conv=>lhs;rw [<-e]
  unfold du;rw [Zl];exact sf _ _
theorem sy {ts:List Nd} (he:EL ts) {j:Nat} {r:List Nat} (h:(nums ts)[j]?=some r):r≠[]/\∀k∈r,k<ts.length:=by
 have ok:=gw he ts.length (Zn _);obtain ⟨r1,_,r3⟩:=ok.row j r h;exact ⟨r1,λk hk=>((r3 k).mp hk).1⟩
theorem d7 (g:List Int) (j:Nat) (z:Int):(bH g).set j (.sh (.int z))=bH (g.set j z):=by
 unfold bH;rw [List.map_set,List.map_set]
theorem zI (ns:List Int) (st:Int) (m:Nat) (s0:0<=st) (s1:st+m<=1000):∃cf:Nat->Int,∀k:Nat,k<m->bA [.list (ns.map PyData.int),.int (st+(k:Int))]=.ok (.sh (.int (cf k))):=by
 have hq:∀k:Nat,∃z:Int,k<m->bA [.list (ns.map PyData.int),.int (st+(k:Int))]=.ok (.sh (.int z)):=λk=>by
  by_cases hk:k<m
  ·obtain ⟨x,hx⟩:=kY ns (st+(k:Int)) (by lia) (by lia)
   exact ⟨x,λ_=>hx⟩
  ·exact ⟨0,λh=>absurd h hk⟩
 obtain ⟨cf,hcf⟩:=Classical.skolem.mp hq;exact ⟨cf,hcf⟩
noncomputable def inB (j:Nat) (n:Nd):Bool:=decide ((j:Int)<=n.e)
noncomputable def kE (j:Nat) (n:Nd):Nd:=⟨n.e-j,n.l,n.t⟩
noncomputable def cU (ts:List Nd) (j:Nat):List Nd:=match ts[j]? with
 |some r=>⟨-1,r.l,r.t⟩ :: ((ts.drop (j+1)).takeWhile (inB j)).map (kE j)
 |none=>[]
theorem mD {ts:List Nd} (h:∀n∈ts,kH n.l) (j:Nat):∀n∈cU ts j,kH n.l:=by
 unfold cU;split
 ·rename_i r hr
  intro n hn;rcases Zo.mp hn with rfl | hn
  ·exact h r (ZB hr)
  ·obtain ⟨m,hm,rfl⟩:=ZC.mp hn
   exact h m (List.mem_of_mem_drop ((List.takeWhile_sublist (inB j)).subset hm))
 ·intro n hn
  cases hn
theorem pS {ts:List Nd} {j:Nat} (h:j<ts.length):1<=(cU ts j).length/\j+(cU ts j).length<=ts.length:=by
 obtain ⟨r,hr⟩:∃n,ts[j]?=some n:=⟨ts[j]'(by lia),by simp⟩
 unfold cU;rw [hr];have:=(List.takeWhile_prefix (inB j) (l:=ts.drop (j+1))).length_le;rw [ZF]at this;simp
 lia
theorem yH {α:Type} (p:α->Bool):∀(L:List α) (s:Nat),s<=L.length->(∀k,k<s->∀x,L[k]?=some x->p x=true)->(∀x,L[s]?=some x->p x=false)->(L.takeWhile p).length=s
 |[],s,h,_,_=>by simp at h;subst h;rfl
 |a :: L,0,_,_,h=>by
  have:=h a rfl;rw [List.takeWhile_cons,this];rfl
 |a :: L,s+1,h,h1,h2=>by
  have:=h1 0 (by lia) a rfl
  rw [List.takeWhile_cons,this,if_pos rfl,Zr,yH p L s (by simp at h;lia) (λk hk x hx=>h1 (k+1) (by lia) x hx) (λx hx=>h2 x hx)]
namespace F
theorem lT:∀f:F,(roots f).length<=(F.pre f).length
 |nil=>Zn _
 |cons a c r=>by
  have:=lT r;rw [roots,F.pre,Zr,Zr,Zd]
  lia
theorem uo {e:Nat->Int}:∀(f:F) (a m:Nat) (p:Int),F.pre f=List.range' a m->Eld e p f->p<(a:Int)->∀k∈F.pre f,e k<(k:Int)
 |nil,a,m,p,hp,_,_,j,h1=>by cases h1
 |cons k c r,a,m,p,hp,he,hpa,j,hj=>by
  obtain ⟨e1,e2,e3⟩:=he;obtain ⟨m',rfl⟩:∃m',m=m'+1:=⟨m-1,by
   have:=congrArg List.length hp;rw [F.pre,Zr,List.length_range']at this
   lia⟩
  rw [F.pre,List.range'_succ]at hp;obtain ⟨hk,hrest⟩:=List.cons.inj hp;subst hk;have hl:=congrArg List.length hrest;rw [Zd,List.length_range']at hl;have hm:m'=(F.pre c).length+(F.pre r).length:=by lia
  rw [hm,<-List.range'_append_1]at hrest;obtain ⟨hc,hr⟩:=List.append_inj hrest (by rw [List.length_range'])
  rw [F.pre]at hj;rcases Zo.mp hj with rfl | hj
  ·lia
  ·rcases Zs.mp hj with hj | hj
   ·exact uo c (k+1) _ (k:Int) hc e2 (by lia) j hj
   ·exact uo r (k+1+(F.pre c).length) _ p hr e3 (by lia) j hj
end F
theorem BM {ts:List Nd} {c:F} (p:PT ts c) {k:Nat} (hk:k<ts.length):eOf ts k<(k:Int):=by
 refine F.uo (F.full c) 0 ts.length (-1) (by rw [p.preF,List.range_eq_range']) p.eldF (by decide) k ?_
 rw [p.preF,ZH];exact hk
theorem vZ {ts:List Nd} {f:F} (hc:F.Con (chN ts) f) (hf:f≠F.nil) (hm:∀k∈F.pre f,k<ts.length):∃g a b,F.roots f=F.roots g++[a]/\a<ts.length/\F.roots g++chN ts a=F.roots (F.app g b)/\F.Con (chN ts) (F.app g b)/\(F.pre f).length=(F.pre (F.app g b)).length+1/\(∀k∈F.pre (F.app g b),k<ts.length)/\∀o:List Nat,(o++[a])++F.g6 (F.app g b)=o++F.g6 f:=by
 obtain ⟨g,a,b,rfl⟩:=F.snoc f hf;rw [F.nH]at hc;obtain ⟨h1,h2,h3,_⟩:=hc;refine ⟨g,a,b,by rw [F.kW];rfl,hm a (by rw [F.pre_app];simp [F.pre]),by rw [h2,F.kW],(F.nH _ _).mpr ⟨h1,h3⟩,?_,λk m=>hm k ?_,λo=>?_⟩
 ·rw [F.pre_app,F.pre_app,Zd,Zd,F.pre,F.pre,Zx,Zr]
  lia
 ·rw [F.pre_app]at m ⊢
  rcases Zs.mp m with m | m
  ·simp [m]
  ·simp [F.pre,m]
 ·rw [F.oG,F.oG,F.g6,F.g6,List.nil_append]
  simp
theorem qf {f:F} (h:F.roots f=[]):f=F.nil:=by
 cases f with
 |nil=>rfl
 |cons k c r=>cases h
theorem mh {ts:List Nd} {c:F} (p:PT ts c):EL ts:=by
 intro k n hn;have hk:=(Zb.mp hn).1;have lt:=BM p hk;rw [eV hn]at lt;have rt:=p.eldF.1;refine ⟨λz=>?_,λz=>?_,lt⟩
 ·subst z
  rw [eV hn]at rt;exact rt
 ·have pc:F.pre (F.full c)=List.range ts.length:=p.preF
  have:F.pre c=List.range' 1 (ts.length-1):=by
   unfold F.full at pc;rw [F.pre,List.range_eq_range',show ts.length=ts.length-1+1 by lia,List.range'_succ]at pc
   have:=(List.cons.inj pc).2;rw [F.pre,Zx]at this;exact this
  have ge:=F.uQ c 0 p.eldF.2.1 (λk m=>by rw [this,List.mem_range'_1]at m;lia) k (by rw [this,List.mem_range'_1];lia)
  rw [eV hn]at ge;exact ge
noncomputable abbrev Lb (ts:List Nd):Prop:=∀n∈ts,kH n.l
theorem vU {ts:List Nd} {k:Nat} (h:k<ts.length):ts[k]?=some (d5 ts k):=by
 unfold d5;rw [Zg h];rfl
theorem vv {ts:List Nd} {c:F} (p:PT ts c) (h:Lb ts):Lb (hX ts c):=by
 intro n hn;unfold hX at hn;obtain ⟨k,hk,rfl⟩:=ZC.mp hn;have hkn:=p.mem.mp hk;exact h (d5 ts k) (ZB (vU hkn))
noncomputable def u_:Fs:=(aD (aN 3 (eOp g7 (eC (.int 256)) (eOp cH (ae 2) (eC (.int 1)))))
 (aD (aN 4 (eSh (bD (iZp (ae 0) (ae 1)) (gTp 2 (aO (gNm 0) (aO (gNm 1) eR))) bQ (eOp eE (eOp cH (eOp gIx (ae 0) (eC (.int 1))) (ae 2)) (eOp gIx (ae 1) (eC (.int 0)))) 2 [3])))
 (aD (aN 5 (eB n6 (af (ae 4) av)))
 (eO (g5 (af (ae 5) (af (zl (ae 4) (ae 5)) av)))))))
noncomputable def pk:Fn:=cq 3 6 u_
noncomputable def lJ:Fs:=(aD (aN 2 (ez (af (eC (.int 0)) av)))
 (aD (fV (iR2 (eC (.int 1)) (eB bP (af (ae 0) av))) (gNm 3) (aD (aN 4 (eSh (vY (bD (iR1 (ae 3)) (gNm 0) bQ (eOp cH (eOp gIx (ae 1) (ae 0)) (eOp gIx (aL pk (af (eOp gIx (ae 2) (ae 0)) (af (eOp gIx (ae 2) (ae 3)) (af (ae 4) av)))) (eC (.int 0)))) 1 [2,0,3,1]))))
 (iZ 2 (eB n6 (af (ae 4) av)))))
 (eX 2)))
noncomputable def lD:Fn:=cq 2 5 lJ
noncomputable def mL:Fs:=(aD (aN 3 (eB bP (af (ae 0) av)))
 (aD (aN 4 (eOp g7 (ez (af (ae 2) av)) (ae 3)))
 (aD (fV (iR3 (eOp eE (ae 3) (eC (.int 2))) (eUn fN (eC (.int 1))) (eUn fN (eC (.int 1)))) (gNm 5) (aD (aN 6 (eOp gIx (ae 0) (ae 5)))
 (aD (aN 7 (eSh (vY (bD (iR2 (eOp cH (ae 5) (eC (.int 1))) (ae 3)) (gNm 0) bQ (eOp eE (eOp gIx (ae 1) (ae 0)) (eOp gIx (aL pk (af (ae 2) (af (eOp gIx (ae 3) (ae 0)) (af (ae 4) av)))) (eC (.int 0)))) 1 [4,6,0,1]))))
 (jB 4 (ae 5) (eB l4 (af (ae 7) av))))))
 (eX 4))))
noncomputable def mH:Fn:=cq 3 8 mL
noncomputable def uS:Fs:=(aD (aN 2 (eSh (aL lD (af (ae 0) (af (ae 1) av)))))
 (eO (g5 (af (ae 2) (af (eSh (aL mH (af (ae 0) (af (ae 1) (af (eOp gIx (ae 2) (eUn fN (eC (.int 1)))) av))))) av)))))
noncomputable def uj:Fn:=cq 2 3 uS
noncomputable def Kf (os:List (Int×Int)):List PyData:=os.map λp=>.tuple [.int p.1,.int p.2]
noncomputable def ask (gap:Int) (os ps:List (Int×Int)):List Int:=(os.zip ps).map λz=>z.1.2+256 * (gap+1)-z.2.1
noncomputable abbrev Ol:=List (Int×Int)
noncomputable def HC (O:List Ol):List PyData:=O.map λos=>.list (Kf os)
noncomputable def dist (gap:Int) (os ps:Ol):Int:=match ask gap os ps with
 |a :: as=>mT a as
 |[]=>0
noncomputable def Jt:List Int->Int
 |[]=>0
 |a :: as=>mT a as
noncomputable def gv (ls:List Int) (k:Nat):Int:=ls[k]?.getD 0
noncomputable def dO (gap:Int) (O:List Ol) (i j:Nat):Int:=dist gap (O[i]?.getD []) (O[j]?.getD [])
theorem CC {ls:List Int} {k:Nat} (h:k<ls.length):ls[k]?=some (gv ls k):=by
 unfold gv;rw [Zg h];rfl
noncomputable def ni:Fs:=(aD (aN 2 (eSh (aL uj (af (ae 0) (af (ae 1) av)))))
 (aD (aN 3 (eOp ft (eOp gIx (eOp gIx (ae 2) (eC (.int 0))) (eUn fN (eC (.int 1)))) (eC (.int 2))))
 (eO (bD (iZp (eOp gIx (ae 2) (eC (.int 0))) (eOp gIx (ae 2) (eC (.int 1)))) (gTp 2 (aO (gNm 0) (aO (gNm 1) eR))) bQ (eOp eE (eOp ft (eOp cH (ae 0) (ae 1)) (eC (.int 2))) (ae 2)) 2 [3]))))
noncomputable def m9:Fn:=cq 2 4 ni
noncomputable def h_:List Int->Int
 |[]=>0
 |a :: as=>qI a as
theorem tp {xs:List Int} (h:xs≠[]):l4 [.list (xs.map PyData.int)]=.ok (.sh (.int (h_ xs))):=by
 cases xs with
 |nil=>exact absurd rfl h
 |cons a as=>exact Ee a as
theorem gj {xs:List Int} (h:xs≠[]):h_ xs∈xs/\∀z∈xs,h_ xs<=z:=by
 cases xs with
 |nil=>exact absurd rfl h
 |cons a as=>exact mB as a
noncomputable def oA (O:List Ol) (j l:Nat):Int×Int:=((O[j]?.getD [])[l]?).getD (0,0)
noncomputable def KJ (O:List Ol) (j:Nat):Nat:=(O[j]?.getD []).length
noncomputable def there (O:List Ol) (l:Nat):List Nat:=(List.range O.length).filter λj=>decide (l<KJ O j)
noncomputable def jl (O:List Ol) (st:List Int) (l:Nat):Int×Int:=(h_ ((there O l).map λj=>gv st j+(oA O j l).1),Jt ((there O l).map λj=>gv st j+(oA O j l).2))
noncomputable def mxN (O:List Ol):Nat:=(Jt (O.map λo=>(o.length:Int))).toNat
noncomputable def jo (O:List Ol) (st:List Int):Ol:=(List.range (mxN O)).map (jl O st)
theorem CH {es ls:List Int} {n:Nat} (he:es.length=n) (hl:ls.length=n):oU (es.map PyData.int) (ls.map PyData.int)=(List.range n).map λk=>PyData.tuple [.int (gv es k),.int (gv ls k)]:=by
 apply List.ext_getElem?
 intro i;unfold oU;rw [Za,Za];by_cases hi:i<n
 ·rw [Zy hi,(List.getElem?_zip_eq_some (z:=(PyData.int (gv es i),PyData.int (gv ls i)))).mpr ⟨by rw [Za,CC (by lia)];rfl,by rw [Za,CC (by lia)];rfl⟩]
  rfl
 ·rw [Zu (by simp;lia),Zu (by simp;lia)]
  rfl
structure IsSt (gap:Int) (O:List Ol) (es ls st:List Int):Prop where
 le:es.length=O.length
 ll:ls.length=O.length
 lst:st.length=O.length
 isE:IsE O.length (dO gap O) (gv es)
 isL:IsL O.length (dO gap O) (gv es (O.length-1)) (gv ls)
 eq:∀k,k<O.length->gv st k=(gv es k+gv ls k) / 2-gv es (O.length-1) / 2
open Classical in
noncomputable def stF (gap:Int) (O:List Ol):List Int:=if h:∃st:List Int,m9 [.list (HC O),.int gap]=.ok (.ol (bH st)) then choose h else []
noncomputable def ini (ts:List Nd) (k:Nat):Ol:=[(-256 * gv (j6 ts) k,256 * gv (j6 ts) k)]
noncomputable def wY (out:List Ol) (k:Nat):Ol:=(out[k]?).getD []
noncomputable def qr (ts:List Nd) (out:List Ol) (k:Nat):List Ol:=(chN ts k).map (wY out)
noncomputable def joB (ts:List Nd) (gap:Int) (out:List Ol) (k:Nat):Ol:=jo (qr ts out k) (stF gap (qr ts out k))
noncomputable def II (ts:List Nd) (gap:Int) (k:Nat) (out:List Ol):List Ol:=if chN ts k=[] then out else out.set k (wY out k++joB ts gap out k)
noncomputable def xP:List Int->List Nat->List Int->List Int
 |o,c :: cs,s :: ss=>xP (o.set c s) cs ss
 |o,_,_=>o
noncomputable def Jr (ts:List Nd) (gap:Int) (k:Nat) (out:List Ol) (off:List Int):List Int:=if chN ts k=[] then off else xP off (chN ts k) (stF gap (qr ts out k))
noncomputable def PO (ts:List Nd) (gap:Int):Nat->List Ol×List Int
 |0=>((List.range ts.length).map (ini ts),List.replicate ts.length 0)
 |m+1=>(II ts gap (ts.length-1-m) (PO ts gap m).1,Jr ts gap (ts.length-1-m) (PO ts gap m).1 (PO ts gap m).2)
structure PI (ts:List Nd) (gap:Int) (m:Nat):Prop where
 l1:(PO ts gap m).1.length=ts.length
 l2:(PO ts gap m).2.length=ts.length
 lo:∀k,k<ts.length-m->wY (PO ts gap m).1 k=ini ts k
 hi:∀k,ts.length-m<=k->k<ts.length->wY (PO ts gap m).1 k=ini ts k++(if chN ts k=[] then [] else joB ts gap (PO ts gap m).1 k)
 ln:∀k,k<ts.length->1<=(wY (PO ts gap m).1 k).length/\(wY (PO ts gap m).1 k).length<=ts.length-k
 of:∀k,ts.length-m<=k->k<ts.length->∀i j,(chN ts k)[i]?=some j->gv (PO ts gap m).2 j=gv (stF gap (qr ts (PO ts gap m).1 k)) i
 z:gv (PO ts gap m).2 0=0
noncomputable def ET (ts:List Nd) (off:List Int):Nat->List Int
 |0=>[0]
 |i+1=>ET ts off i++[gv (ET ts off i) (eOf ts (i+1)).toNat+gv off (i+1)]
noncomputable def Kk (ts:List Nd) (gap:Int):List Int:=ET ts (PO ts gap ts.length).2 (ts.length-1)
noncomputable def pos (ts:List Nd) (gap:Int) (k:Nat):Int:=gv (Kk ts gap) k
structure Part (ts us:List Nd) (j:Nat):Prop where
 le:j+us.length<=ts.length
 ch:∀i,i<us.length->(chN us i).map (j+·)=chN ts (j+i)
 e:∀i,0<i->i<us.length->eOf us i=eOf ts (j+i)-j
 r:∀i,i<us.length->gv (j6 us) i=gv (j6 ts) (j+i)
noncomputable def dF:Fs:=(aD (aN 1 (ez av))
 (aD (aN 2 (ez (af (eC (.int 0)) av)))
 (aD (fj (ve (aY (eOp gNe (ae 2) (ez av)))) (aD (tu 2 (gNm 3))
 (aD (iZ 1 (ae 3))
 (ke 2 (aN 2 (eOp cH (ae 2) (bD (iR2 (eOp cH (ae 3) (eC (.int 1))) (eB bP (af (ae 0) av))) (gNm 0) (aY (eOp gEq (eOp gIx (eOp gIx (ae 1) (ae 0)) (eC (.int 0))) (ae 2))) (ae 0) 1 [0,3])))))))
 (eX 1))))
noncomputable def cQ:Fn:=cq 1 4 dF
noncomputable def iJ:Fs:=(aD (aN 2 (ez (af (g5 (af (eC (.int 0)) (af (eOp gIx (eOp gIx (ae 0) (eC (.int 0))) (eC (.int 1))) (af (eOp gIx (eOp gIx (ae 0) (eC (.int 0))) (eC (.int 2))) av)))) av)))
 (aD (fV (e7 (eSl l7 (ae 0) (iA (eC (.int 1))) ji)) (gTp 3 (aO (gNm 3) (aO (gNm 4) (aO (gNm 5) eR)))) (iZ 2 (eSh (g5 (af (eOp cH (ae 3) (ae 1)) (af (ae 4) (af (ae 5) av)))))))
 (eX 2)))
noncomputable def gD:Fn:=cq 2 6 iJ
noncomputable def d4:Fs:=(aD (aN 1 (eSh (aL cQ (af (ae 0) av))))
 (aD (aN 2 (ez av))
 (aD (fV (e7 (ae 1)) (gNm 3) (aD (tQ (eOp gIx (ae 0) (ae 3)) (gTp 3 (aO (gNm 4) (aO (gNm 5) (aO (gNm 6) eR)))))
 (aD (sIf (aY (eOp gGe (ae 4) (eC (.int 0)))) (aN 4 (zl (ae 1) (ae 4))) sNx)
 (iZ 2 (g5 (af (ae 4) (af (ae 5) (af (ae 6) av))))))))
 (eX 2))))
noncomputable def cY:Fn:=cq 1 7 d4
noncomputable def eL:Fs:=(aD (aN 3 (ez av))
 (aD (fV (iR1 (eB bP (af (ae 0) av))) (gNm 4) (aD (aN 5 (eOp dR (eOp g7 (aL bA (af (ae 1) (af (eOp cH (ae 2) (ae 4)) av))) (eC (.int 39373))) (eC (.int 2147483629))))
 (aD (aN 6 (eOp cH (eOp g7 (eOp ft (eB bP (af (eOp gIx (eOp gIx (ae 0) (ae 4)) (eC (.int 1))) av)) (eC (.int 2))) (eC (.int 2))) (eOp dR (ae 5) (eC (.int 2)))))
 (aD (aN 7 (eC (.str "abcdefghijklmnopqrstuvwxyz")))
 (aD (aN 8 (eC (.str "")))
 (aD (fV (iR1 (eB p9 (af (eC (.int 1)) (af (eB p8 (af (ae 6) (af (eC (.int 9)) av))) av)))) (gNm 9) (aN 8 (eOp cH (ae 8) (eOp gIx (ae 7) (eOp dR (eOp ft (ae 5) (eOp cH (eC (.int 2)) (eOp g7 (eOp g7 (eC (.int 5)) (ae 9)) (ae 9)))) (eC (.int 26)))))))
 (iZ 3 (eSh (g5 (af (eOp gIx (eOp gIx (ae 0) (ae 4)) (eC (.int 0))) (af (ae 8) (af (eOp cH (eC (.int 1)) (eOp dR (eOp ft (ae 5) (eC (.int 1024))) (eC (.int 9)))) av))))))))))))
 (eX 3)))
noncomputable def cC:Fn:=cq 3 10 eL
noncomputable def gS:Fs:=(aD (aN 4 (eSh (aL gL (af (ae 0) (af (ae 1) (af (ae 2) (af (eC (.int 9)) (af (eC (.int 6)) av))))))))
 (aD (aN 5 (eSh (ez (af (eSh (g5 (af (eUn fN (eC (.int 1))) (af (eSh (eSl Bc (eC (.str "abcdefghi")) ji (iA (eOp cH (eC (.int 1)) (eOp dR (ae 3) (eC (.int 9))))))) (af (eOp cH (eC (.int 1)) (eOp dR (eOp ft (ae 3) (eC (.int 9))) (eC (.int 9)))) av))))) av))))
 (aD (fV (iR1 (eOp cH (eC (.int 1)) (eOp dR (eOp ft (ae 3) (eC (.int 81))) (eC (.int 3))))) (gNm 6) (aD (aN 7 (eSh (aL cC (af (ae 4) (af (ae 0) (af (eOp cH (eOp cH (ae 1) (eC (.int 5))) (eOp g7 (eC (.int 3)) (ae 6))) av))))))
 (aD (sIf (aY (eOp gEq (eOp dR (eOp ft (eOp ft (ae 3) (eC (.int 243))) (eOp cH (eOp g7 (ae 6) (ae 6)) (eC (.int 1)))) (eC (.int 3))) (eC (.int 1)))) (aN 7 (eSh (aL cY (af (ae 7) av)))) sNx)
 (aD (sIf (lp (aY (eOp gEq (eOp dR (eOp ft (eOp ft (ae 3) (eC (.int 729))) (eOp cH (ae 6) (eC (.int 1)))) (eC (.int 5))) (eC (.int 1)))) (aY (eOp gGt (eB bP (af (ae 7) av)) (eC (.int 1))))) (aN 7 (eSh (eSl l7 (ae 7) ji (iA (eUn fN (eC (.int 1))))))) sNx)
 (aN 5 (eSh (eOp cH (ae 5) (aL gD (af (ae 7) (af (eB bP (af (ae 5) av)) av))))))))))
 (eO (ae 5)))))
noncomputable def fv:Fn:=cq 4 8 gS
theorem wy {ts:List Nd} {c:F} (p:PT ts c) {a:Nat} (ha:a<ts.length):((List.range (ts.length-(a+1))).filter λj=>decide (eOf ts (a+1+j)=(a:Int))).map (λj=>a+1+j)=chN ts a:=by
 unfold chN;have e:List.range ts.length=List.range (a+1)++(List.range (ts.length-(a+1))).map λj=>a+1+j:=by
  rw [<-List.range_add,show a+1+(ts.length-(a+1))=ts.length by lia]
 rw [e,List.filter_append,List.filter_map];have z:(List.range (a+1)).filter (λj=>decide (eOf ts j=(a:Int)))=[]:=by
  rw [List.filter_eq_nil_iff];intro j hj;rw [ZH]at hj;have:=BM p (k:=j) (by lia)
  rw [decide_eq_true_eq]
  lia
 rw [z,List.nil_append];rfl
theorem vQ {ns:List Int} (h:ns≠[]):gNe (.list (ns.map PyData.int)) (.list [])=.ok (.sh (.bool true)):=by
 cases ns with
 |nil=>exact absurd rfl h
 |cons a as =>
  unfold gNe;rw [jN];unfold iV;rw [cS (lay_ints (a :: as)) (by decide),show SeqAt.shaped (.list [])=true from cS (lay_ints []) (by decide),Bool.and_self,if_pos rfl]
  rfl
theorem rW (ts:List Nd) (c:F) (p:PT ts c) (hl:ts.length<=100):cQ [.list (au ts)]=.ok (.ol (nO (F.R c))):=by
 unfold cQ dF;push_cast only [and_self];generalize hL:fj _ _ _=r
 refine mn hL (λm ρ=>∃(f:F) (o:List Nat) (v3:Option OD),F.Con (chN ts) f/\(F.pre f).length=m/\(∀k∈F.pre f,k<ts.length)/\o++F.g6 f=F.R c/\ρ=[some (.sh (.list (au ts))),some (.ol (nO o)),some (.ol (nO (F.roots f))),v3])
  ts.length ⟨F.full c,[],_,p.con,by rw [p.preF,Zh],(λk m=>by rw [p.preF,ZH]at m;exact m),rfl,rfl⟩
  (fun ρ=>∃v2 v3:Option OD,ρ=[some (.sh (.list (au ts))),some (.ol (nO (F.R c))),v2,v3]) ?_ ?_
 ·rintro m ρ ⟨f,o,v3,hc,hm,hk,ho,rfl⟩
  by_cases hf:F.roots f=[]
  ·left
   have:=qf hf;subst this;rw [F.g6,Zx]at ho;subst ho;have ge:gNe (.list (nD [])) (.list [])=.ok (.sh (.bool false)):=ow (lay_ints []);constructor
   ·push_cast only [j8,F.roots,ge]
   ·exact ⟨_,_,rfl⟩
  ·right
   obtain ⟨g,a,b,r1,r2,r3,r4,r5,r6,r7⟩:=vZ hc (λz=>hf (by rw [z];rfl)) hk
   have ge:gNe (.list (nD (F.roots g++[a]))) (.list [])=.ok (.sh (.bool true)):=vQ (ns:=iL (F.roots g++[a])) (by unfold iL;simp)
   have ol:o.length<=100:=by
    have:=congrArg List.length ho;rw [Zd,p.len]at this
    lia
   have lb1:((nO o).length<BIG)=True:=by rw [oH];exact eg (by lia)
   have lb2:((nD (F.roots g)).length+(nD (chN ts a)).length<=BIG)=True:=by
    rw [c7,c7,<-Zd,r3];have:=F.lT (F.app g b);have q:(F.pre (F.app g b)).length<=ts.length:=by
     have:=congrArg List.length ho;rw [Zd,p.len,(F.f9 f).length_eq]at this
     lia
    exact aW (by lia)
   rw [r1];constructor
   ·push_cast only [j8,ge]
   ·rw [<-l8]
    have em:(a:Int)+1=((a+1:Nat):Int):=by lia
    have s1:aK ((a+1:Nat):Int)=true:=iH (by lia) (by lia)
    have s2:aK (ts.length:Int)=true:=iH (by lia) (by lia)
    push_cast only [se,lb1,aF,em,s1,s2,Bool.and_self,j8];generalize hC:ba _ _ _ _ _ _=rc
    have hcnt:((ts.length:Int)-((a+1:Nat):Int)).toNat=ts.length-(a+1):=by lia
    have e:=gR hC (λj:Nat=>PyData.int (((a+1:Nat):Int)+(j:Int))) (λj=>decide (eOf ts (a+1+j)=(a:Int))) (λj=>.sh (.int ((a+1+j:Nat):Int))) (List.range (ts.length-(a+1))) (by rw [hcnt];rfl) (by rw [Zh];exact of_eq_true (aW (by lia))) (by
     intro j hj;rw [ZH]at hj;rw [show ((a+1:Nat):Int)+(j:Int)=((a+1+j:Nat):Int) by lia]
     obtain ⟨n,hn⟩:∃n,ts[a+1+j]?=some n:=⟨ts[a+1+j]'(by lia),by simp⟩
     have g1:=fm hn;have g2:=eV hn;rw [g2];refine ⟨?_,λ_=>?_⟩
     ·push_cast only [g1]
     ·push_cast only [and_self])
    subst e;clear hC;have e3:(((List.range (ts.length-(a+1))).filter λj=>decide (eOf ts (a+1+j)=(a:Int))).map λj=>OD.sh (.int ((a+1+j:Nat):Int)))=nO (chN ts a):=by
     rw [<-wy p r2,<-vC,Zi];rfl
    rw [e3];have e4:(nD (F.roots g)++nD (chN ts a)).map OD.sh=nO (F.roots (F.app g b)):=by
     rw [<-r3,<-uH,Zl];rfl
    push_cast only [j8,uT,lb2];rw [e4,l8];exact ⟨_,by lia,F.app g b,o++[a],_,r4,rfl,r6,by rw [r7];exact ho,rfl⟩
 ·rintro ρ' rfl ⟨v2,v3,rfl⟩
  push_cast only [and_self]
theorem Bb (R:List Nat) (k:Nat):(iL R).idxOf (k:Int)=R.idxOf k:=by
 unfold iL
 induction R with
 |nil=>rfl
 |cons a r ih =>
  rw [Zk,List.idxOf_cons,List.idxOf_cons,ih];by_cases h:a=k
  ·subst h
   simp
  ·have h1:((a:Int) == (k:Int))=false:=by simp;lia
   have h2:(a == k)=false:=by simp;exact h
   rw [h1,h2]
theorem pF (ts:List Nd) (c:F) (p:PT ts c) (hl:ts.length<=100):cY [.list (au ts)]=.ok (.ol ((au (hX ts c)).map OD.sh)):=by
 unfold cY d4;have len:=p.len;push_cast only [rW ts c p hl,j8];generalize hL:bJ _ _ _ _=r'
 refine cT hL (λi ρ=>∃v3 v4 v5 v6:Option OD,ρ=[some (.sh (.list (au ts))),some (.sh (.list (nD (F.R c)))),some (.ol ((au ((hX ts c).take i)).map OD.sh)),v3,v4,v5,v6]) ⟨_,_,_,_,rfl⟩ ?_ ?_
 ·rintro i d ρ hd ⟨v3,v4,v5,v6,rfl⟩
  have hi:i<(F.R c).length:=by
   have:=(Zb.mp hd).1;rw [c7]at this;exact this
  obtain ⟨k,hk⟩:∃k,(F.R c)[i]?=some k:=⟨(F.R c)[i],by simp⟩
  rw [yS hk]at hd;cases hd;have hkn:=p.mem.mp (ZB hk);have g1:=fm (vU hkn);have lb:((au ((hX ts c).take i)).length<BIG)=True:=by rw [aF,ZE];exact eg (by lia)
  have e2:(au ((hX ts c).take (i+1))).map OD.sh=(au ((hX ts c).take i)).map OD.sh++[OD.sh (.tuple [.int (F.gi c (d5 ts k).e),.str (d5 ts k).l,.int (d5 ts k).t])]:=by
   have:(hX ts c)[i]?=some ⟨F.gi c (d5 ts k).e,(d5 ts k).l,(d5 ts k).t⟩:=by
    unfold hX;rw [Za,hk];rfl
   rw [List.take_add_one,this];unfold au;rw [Zl,Zl];rfl
  rcases p.elder hkn with z | ⟨j,j1,j2⟩
  ·have he:(d5 ts k).e=-1:=by rw [pe hkn,z]
   have d1:decide ((0:Int)<=(d5 ts k).e)=false:=decide_eq_false (by lia)
   have gi:F.gi c (d5 ts k).e=(d5 ts k).e:=by rw [he];rfl
   rw [gi]at e2;push_cast only [g1,d1,lb];rw [<-e2];exact ⟨_,_,_,_,rfl⟩
  ·have he:(d5 ts k).e=(j:Int):=by rw [pe hkn,j2]
   have d1:decide ((0:Int)<=(d5 ts k).e)=true:=decide_eq_true (by lia)
   have mj:(j:Int)∈iL (F.R c):=by unfold iL;exact ZC.mpr ⟨j,p.mem.mpr j1,rfl⟩
   have ix:qt (nD (F.R c)) (.int (d5 ts k).e)=.ok (.sh (.int (F.gi c (d5 ts k).e))):=by
    rw [he];have:=Im (iL (F.R c)) (j:Int) mj;rw [Bb]at this;have gi:F.gi c (j:Int)=(((F.R c).idxOf j:Nat):Int):=by
     unfold F.gi;rw [if_neg (by lia)]
     rfl
    rw [gi];exact this
   push_cast only [g1,d1,lb,ix];rw [<-e2];exact ⟨_,_,_,_,rfl⟩
 ·rintro ρ' rfl ⟨v3,v4,v5,v6,rfl⟩
  have e:(hX ts c).take (nD (F.R c)).length=hX ts c:=List.take_of_length_le (by rw [lV p,c7,len];exact Zn _)
  rw [e];push_cast only [and_self]
theorem yG (ts:List Nd) (hlab:Lb ts) (hl:ts.length<=100) (ns:List Int) (st:Int) (h0:0<=st) (h1:st<=1000):∃us:List Nd,us.length=ts.length/\(∀k,k<ts.length->eOf us k=eOf ts k)/\Lb us/\cC [.list (au ts),.list (ns.map PyData.int),.int st]=.ok (.ol ((au us).map OD.sh)):=by
 unfold cC eL;have s0:aK (ts.length:Int)=true:=iH (by lia) (by lia)
 push_cast only [aF,s0];rw [Int.toNat_natCast];generalize hL:bJ _ _ _ _=r
 refine cT hL (λi ρ=>∃(us:List Nd) (v4 v5 v6 v7 v8 v9:Option OD),us.length=i/\(∀k,k<i->eOf us k=eOf ts k)/\Lb us/\ρ=[some (.sh (.list (au ts))),some (.sh (.list (ns.map PyData.int))),some (.sh (.int st)),some (.ol ((au us).map OD.sh)),v4,v5,v6,v7,v8,v9])
  ⟨[],_,_,_,_,_,_,rfl,(λk hk=>by lia),(λn hn=>by cases hn),rfl⟩ ?_ ?_
 ·rintro i d ρ hd ⟨us,v4,v5,v6,v7,v8,v9,hu,he,hlb,rfl⟩
  obtain ⟨hi,rfl⟩:=fZ hd;rw [Int.zero_add];obtain ⟨y,hy⟩:=kY ns (st+(i:Int)) (by lia) (by lia)
  obtain ⟨n,hn⟩:∃n,ts[i]?=some n:=⟨ts[i]'(by lia),by simp⟩
  have g1:=fm hn;have nl:=hlab n (ZB hn);have lbn:=aW (show n.l.length<=1000 by have:=nl.2.1;lia)
  generalize hz:y * 39373 % 2147483629=z
  have hz2:=cW z (show (0:Int)<2 by decide)
  generalize hsz:(n.l.length:Int) / 2 * 2+z % 2=sz
  have hcm:jk ((n.l.length:Int) / 2) 2=true:=G4 (by decide) (by decide)
  obtain ⟨cnt,hcnt,c1,c2⟩:∃cnt:Int,p9 [.int 1,.int (if 9<sz then 9 else sz)]=.ok (.sh (.int cnt))/\1<=cnt/\cnt<=9:=by
   rw [xM];refine ⟨_,rfl,?_,?_⟩
   ·split <;> (try split) <;> lia
   ·split <;> (try split) <;> lia
  have sc:aK cnt=true:=iH (by lia) (by lia)
  obtain ⟨f,hf⟩:∃f:Nat->Nat,∀i:Nat,atI (Str.ofString "abcdefghijklmnopqrstuvwxyz").cps.toList (z / (2+5 * (0+(i:Int)) * (0+(i:Int))) % 26)=some (f i)/\(97<=f i/\f i<=122) :=
   ⟨λi=>Classical.choose (qN _ (cW (z / (2+5 * (0+(i:Int)) * (0+(i:Int)))) (show (0:Int)<26 by decide)).1 (cW _ (by decide)).2),λi=>Classical.choose_spec (qN _ (cW (z / (2+5 * (0+(i:Int)) * (0+(i:Int)))) (show (0:Int)<26 by decide)).1 (cW _ (by decide)).2)⟩
  push_cast only [hy,hz,g1,lbn,hcm,hsz,hcnt,sc];generalize hL2:bJ _ _ _ _=r2
  refine cT hL2 (λj ρ=>∃(l:Str) (v:Option OD),ρ=[some (.sh (.list (au ts))),some (.sh (.list (ns.map PyData.int))),some (.sh (.int st)),some (.ol ((au us).map OD.sh)),some (.sh (.int i)),some (.sh (.int z)),some (.sh (.int sz)),some (.sh (.str (Str.ofString "abcdefghijklmnopqrstuvwxyz"))),some (.sh (.str l)),v]/\l.length=j/\∀c∈l.cps.toList,97<=c/\c<=122) ⟨_,_,rfl,rfl,λc hc=>by cases hc⟩ ?_ ?_
  ·rintro i d ρ hd ⟨l,v,rfl,hl,hc⟩
   obtain ⟨hi,rfl⟩:=fZ hd;have i9:(i:Int)<9:=by lia
   have ib:0<=5 * (0+(i:Int)) * (0+(i:Int))/\5 * (0+(i:Int)) * (0+(i:Int))<=5 * 8 * 8:=by
    have a1:0<=(0+(i:Int)):=by lia
    have a2:(0+(i:Int))<=8:=by lia
    refine ⟨Int.mul_nonneg (by lia) a1,?_⟩
    exact Int.mul_le_mul (by lia) a2 a1 (by lia)
   have ec:=(hf i).1;have c1:=(hf i).2.1;have c2:=(hf i).2.2;generalize f i=c at ec c1 c2
   have k1:jk (5 * (0+(i:Int))) (0+(i:Int))=true:=wG (by lia) (by lia)
   have k2:(0<2+5 * (0+(i:Int)) * (0+(i:Int))/\2+5 * (0+(i:Int)) * (0+(i:Int))<1073741824)=True:=eq_true ⟨by lia,by lia⟩
   have k3:((Str.ofString "abcdefghijklmnopqrstuvwxyz").length<=BIG)=True:=by decide +kernel
   have k4:(l.length+(⟨#[c]⟩:Str).length<=BIG)=True:=aW (by rw [hl];show i+1<=1000;lia)
   push_cast only [k1,k2,k3,k4,ec,Option.map_some];refine ⟨_,_,rfl,by rw [rY,hl],λd hd=>?_⟩
   rw [rV,Zs]at hd;rcases hd with hd | hd
   ·exact hc d hd
   ·have:d=c:=by simpa using hd
    lia
  ·rintro ρ' rfl ⟨l,v,rfl,hll,hc⟩
   rw [fR]at hll;have lb:((au us).length<BIG)=True:=by rw [aF];exact eg (by lia)
   push_cast only [g1,lb];refine ⟨us++[⟨n.e,l,1+z / 1024 % 9⟩],_,_,_,_,_,_,by rw [Zd,hu];rfl,λk hk=>?_,λx hx=>?_,by rw [lI,Zl];rfl⟩
   ·by_cases hk':k<i
    ·rw [<-he k hk']
     unfold eOf;rw [List.getElem?_append_left (by lia)]
    ·have:k=us.length:=by lia
     rw [show k=i by lia,eV hn]
     exact eV (n:=⟨n.e,l,1+z / 1024 % 9⟩) (by rw [<-hu];simp)
   ·rcases Zs.mp hx with hx | hx
    ·exact hlb x hx
    ·rw [List.mem_singleton]at hx
     subst hx;exact ⟨show 1<=l.length by lia,show l.length<=9 by lia,hc⟩
 ·rintro ρ' rfl ⟨us,v4,v5,v6,v7,v8,v9,hu,he,hlb,rfl⟩
  rw [fR]at hu he;exact ⟨us,hu,he,hlb,by push_cast only [and_self]⟩
theorem Bv (n:Nd) (r:List Nd) (s:Nat) (hl:r.length<=100):gD [.list (au (n :: r)),.int s]=.ok (.ol ((au (jC s (n :: r))).map OD.sh)):=by
 unfold gD iJ;have g1:=fm (ts:=n :: r) (k:=0) (n:=n) rfl;rw [Int.natCast_zero]at g1;have cf:cutD (au (n :: r)) (some 1) none=au r:=by
  have:=jM (au (n :: r)) 1 (by rw [aF];simp)
  exact this
 push_cast only [g1,cf,aR];generalize hL:bJ _ _ _ _=r'
 refine cT hL (λi ρ=>∃v3 v4 v5:Option OD,ρ=[some (.sh (.list (au (n :: r)))),some (.sh (.int s)),some (.ol ((au (⟨0,n.l,n.t⟩ :: (r.take i).map λm=>⟨m.e+s,m.l,m.t⟩)).map OD.sh)),v3,v4,v5]) ⟨_,_,_,rfl⟩ ?_ ?_
 ·rintro i d ρ hd ⟨v3,v4,v5,rfl⟩
  unfold au at hd;rw [Za]at hd;obtain ⟨m,hm,rfl⟩:=Zp.mp hd;have hi:=(Zb.mp hm).1;have lb:((au (⟨0,n.l,n.t⟩ :: (r.take i).map λm=>⟨m.e+s,m.l,m.t⟩)).length<BIG)=True:=by
   rw [aF];exact eg (by simp;lia)
  have t1:(au (⟨0,n.l,n.t⟩ :: (r.take (i+1)).map λm=>⟨m.e+s,m.l,m.t⟩)).map OD.sh=(au (⟨0,n.l,n.t⟩ :: (r.take i).map λm=>⟨m.e+s,m.l,m.t⟩)).map OD.sh++[OD.sh (.tuple [.int (m.e+s),.str m.l,.int m.t])]:=by
   rw [List.take_add_one,hm];unfold au;simp [ndD]
  push_cast only [ndD,lb];rw [<-t1];exact ⟨_,_,_,rfl⟩
 ·rintro ρ' rfl ⟨v3,v4,v5,rfl⟩
  have e:r.take (au r).length=r:=List.take_of_length_le (by rw [aF];exact Zn _)
  rw [e];push_cast only [and_self];rfl
theorem KN (r:Int) (h0:0<=r) (h1:r<9):kH (Txt.slice (Str.ofString "abcdefghi") none (some (1+r))):=by
 have all:∀r:Fin 9,kH (Txt.slice (Str.ofString "abcdefghi") none (some (1+(r.val:Int)))):=by
  unfold kH;decide +kernel
 have:=all ⟨r.toNat,by lia⟩
 rw [show ((⟨r.toNat,by lia⟩:Fin 9).val:Int)=r by show (r.toNat:Int)=r;lia]at this
 exact this
theorem yh (xs:List PyData) (h:1<=xs.length):cutD xs none (some (-1))=xs.dropLast:=by
 have e:HT.sIx xs.length xs.length (some (-1))=xs.length-1:=by
  unfold HT.sIx;simp
  lia
 unfold cutD;rw [e,List.dropLast_eq_take];rfl
theorem uP (ts:List Nd):(au ts).dropLast=au ts.dropLast:=by unfold au;rw [List.map_dropLast]
theorem wz (ns:List Int) (st0 many kinds:Int) (q0:0<=st0) (q1:st0<=20) (m0:1<=many) (m1:many<=8):∃(ts:List Nd) (c:F),PT ts c/\Lb ts/\ts.length<=30/\fv [.list (ns.map PyData.int),.int st0,.int many,.int kinds]=.ok (.sh (.list (au ts))):=by
 unfold fv gS;obtain ⟨ps,way,hg,hlen,ht⟩:=Ai ns st0 many.toNat 9 6 (by lia) (by lia) (by lia) (by lia) (by decide) (by decide) (by decide) (by decide)
 rw [show ((many.toNat:Nat):Int)=many by lia]at ht
 obtain ⟨cp,pp,_⟩:=zj hg;have plab:Lb ps:=λn h=>(hg.ok n h).1
 have hq:∀i:Nat,∃us:List Nd,i<3->us.length=ps.length/\(∀k,k<ps.length->eOf us k=eOf ps k)/\Lb us/\cC [.list (au ps),.list (ns.map PyData.int),.int (st0+5+3 * (i:Int))]=.ok (.ol ((au us).map OD.sh)):=by
  intro i;by_cases hi:i<3
  ·obtain ⟨us,a⟩:=yG ps plab (by lia) ns (st0+5+3 * (i:Int)) (by lia) (by lia)
   exact ⟨us,λ_=>a⟩
  ·exact ⟨[],λh=>absurd h hi⟩
 obtain ⟨uf,huf⟩:=Classical.skolem.mp hq;have k9:=cW kinds (show (0:Int)<9 by decide)
 have k81:=cW (kinds / 81) (show (0:Int)<3 by decide)
 have l9:=KN (kinds % 9) k9.1 k9.2;generalize hlab:Txt.slice (Str.ofString "abcdefghi") none (some (1+kinds % 9))=lab at l9
 have k3:((Str.ofString "abcdefghi").length<=BIG)=True:=by decide +kernel
 have sc:aK (1+kinds / 81 % 3)=true:=iH (by lia) (by lia)
 push_cast only [ht,aR,Jk,k3,hlab,sc];generalize hL:bJ _ _ _ _=r
 refine cT hL (λi ρ=>∃(ts:List Nd) (c:F) (v6 v7:Option OD),PT ts c/\Lb ts/\ts.length<=1+8 * i/\ρ=[some (.sh (.list (ns.map PyData.int))),some (.sh (.int st0)),some (.sh (.int many)),some (.sh (.int kinds)),some (.sh (.list (au ps))),some (.sh (.list (au ts))),v6,v7])
  ⟨[⟨-1,lab,1+kinds / 9 % 9⟩],F.nil,_,_,⟨rfl,rfl,trivial⟩,(λn hn=>by rw [List.mem_singleton]at hn;subst hn;exact l9),by simp,rfl⟩ ?_ ?_
 ·rintro i d ρ hd ⟨ts,c,v6,v7,p,tlab,tlen,rfl⟩
  obtain ⟨hi,rfl⟩:=fZ hd;rw [Int.zero_add];have hi3:i<3:=by lia
  have uu:=huf i hi3;have u1:=uu.1;have u2:=uu.2.1;have u3:=uu.2.2.1;have u4:=uu.2.2.2;clear uu;generalize uf i=us at u1 u2 u3 u4
  have pu:PT us cp:=BL pp u1 u2;have ib:0<=(i:Int) * (i:Int)/\(i:Int) * (i:Int)<=2 * 2:=⟨Int.mul_nonneg (by lia) (by lia),Int.mul_le_mul (by lia) (by lia) (by lia) (by lia)⟩
  have c1:jk (i:Int) (i:Int)=true:=wG (by lia) (by lia)
  have c2:(0<(i:Int) * (i:Int)+1/\(i:Int) * (i:Int)+1<1073741824)=True:=eq_true ⟨by lia,by lia⟩
  have c3:(0<(i:Int)+1/\(i:Int)+1<1073741824)=True:=eq_true ⟨by lia,by lia⟩
  have plen:us.length<=8:=by lia
  push_cast only [u4,aR,c1,c2];generalize hI:ifK _ _ _ _=r1
  have hr1:∃(ws:List Nd) (d:F),PT ws d/\Lb ws/\ws.length<=8/\r1=.ok (.nx [some (.sh (.list (ns.map PyData.int))),some (.sh (.int st0)),some (.sh (.int many)),some (.sh (.int kinds)),some (.sh (.list (au ps))),some (.sh (.list (au ts))),some (.sh (.int i)),some (.sh (.list (au ws)))]):=by
   by_cases hc:kinds / 243 / ((i:Int) * (i:Int)+1) % 3=1
   ·rw [decide_eq_true hc]at hI
    have lm:=pF us cp pu (by lia)
    push_cast only [lm,aR]at hI;exact ⟨hX us cp,F.c1 cp,vG pu,vv pu u3,by rw [lV pu];exact plen,hI.symm⟩
   ·rw [decide_eq_false hc]at hI
    push_cast only [and_self]at hI;exact ⟨us,cp,pu,u3,plen,hI.symm⟩
  clear hI;obtain ⟨ws,dw,pw,wlab,wlen,rfl⟩:=hr1;push_cast only [c3,aF];generalize hI:ifK _ _ _ _=r1
  have hr1:∃(ws:List Nd) (d:F),PT ws d/\Lb ws/\ws.length<=8/\r1=.ok (.nx [some (.sh (.list (ns.map PyData.int))),some (.sh (.int st0)),some (.sh (.int many)),some (.sh (.int kinds)),some (.sh (.list (au ps))),some (.sh (.list (au ts))),some (.sh (.int i)),some (.sh (.list (au ws)))]):=by
   by_cases hc:kinds / 729 / ((i:Int)+1) % 5=1
   ·by_cases h1:1<ws.length
    ·have d1:decide ((1:Int)<(ws.length:Int))=true:=decide_eq_true (by lia)
     have cl:=yh (au ws) (by rw [aF];lia)
     rw [uP]at cl;rw [decide_eq_true hc]at hI;push_cast only [aF,d1,cl,aR]at hI;obtain ⟨d',pd⟩:=Dn pw h1;exact ⟨ws.dropLast,d',pd,λn hn=>wlab n (List.dropLast_subset _ hn),by rw [List.length_dropLast];lia,hI.symm⟩
    ·have d1:decide ((1:Int)<(ws.length:Int))=false:=decide_eq_false (by lia)
     rw [decide_eq_true hc]at hI;push_cast only [aF,d1]at hI;exact ⟨ws,dw,pw,wlab,wlen,hI.symm⟩
   ·rw [decide_eq_false hc]at hI
    push_cast only [and_self]at hI;exact ⟨ws,dw,pw,wlab,wlen,hI.symm⟩
  clear hI;obtain ⟨ws,dw,pw,wlab,wlen,rfl⟩:=hr1;have ph:=Bg p pw;obtain ⟨n,rr,rfl⟩:∃n rr,ws=n :: rr:=by
   cases ws with
   |nil=>exact absurd pw.pos (by simp)
   |cons n rr=>exact ⟨n,rr,rfl⟩
  rw [Zr]at wlen;have hh:=Bv n rr ts.length (by lia)
  have hlen2:(jC ts.length (n :: rr)).length=rr.length+1:=by unfold jC;rw [Zr,Zc]
  have lb:(ts.length+(jC ts.length (n :: rr)).length<=BIG)=True:=aW (by rw [hlen2];lia)
  have ea:au ts++au (jC ts.length (n :: rr))=au (ts++jC ts.length (n :: rr)):=by unfold au;rw [Zl]
  push_cast only [aF,hh,aR,uT,lb,ea];refine ⟨_,_,_,_,ph,λx hx=>?_,?_,rfl⟩
  ·rcases Zs.mp hx with hx | hx
   ·exact tlab x hx
   ·unfold jC at hx
    rcases Zo.mp hx with rfl | hx
    ·exact wlab n Zf
    ·obtain ⟨m,hm,rfl⟩:=ZC.mp hx
     exact wlab m (Ze _ hm)
  ·rw [Zd,hlen2]
   lia
 ·rintro ρ' rfl ⟨ts,c,v6,v7,p,tlab,tlen,rfl⟩
  rw [fR]at tlen;exact ⟨ts,c,p,tlab,by lia,by push_cast only [and_self]⟩
noncomputable def eZ:Fs:=(aD (aN 1 (ez av))
 (aD (aN 2 (ez (af (eC (.int 0)) av)))
 (aD (fj (ve (aY (eOp gGt (eB bP (af (ae 2) av)) (eC (.int 0))))) (aD (tu 2 (gNm 3))
 (aD (iZ 1 (ae 3))
 (t9 2 (aL cn (af (ae 0) (af (ae 3) av)))))))
 (eX 1))))
noncomputable def dC:Fn:=cq 1 4 eZ
noncomputable def iy:Fs:=(aD (aN 2 (eD1 (eUn fN (eC (.int 1))) (eUn fN (eC (.int 1)))))
 (aD (fV (iEn (ae 1)) (gTp 2 (aO (gNm 3) (aO (gNm 4) eR))) (sDP 2 (ae 4) (ae 3)))
 (aD (aN 5 (eSh (bD (e7 (ae 1)) (gNm 0) bQ (eOp gIx (ae 1) (ae 0)) 1 [0])))
 (ke 2 (eO (bD (e7 (ae 5)) (gNm 0) bQ (g5 (af (eOp gDx (ae 1) (eOp gIx (ae 0) (eC (.int 0)))) (af (eOp gIx (ae 0) (eC (.int 1))) (af (eOp gIx (ae 0) (eC (.int 2))) av)))) 1 [2]))))))
noncomputable def fQ:Fn:=cq 2 6 iy
noncomputable def jm:Fs:=(aD (aN 1 (eSh (aL dC (af (ae 0) av))))
 (eO (g5 (af (eSh (aL fQ (af (ae 0) (af (ae 1) av)))) (af (ae 1) av)))))
noncomputable def iF:Fn:=cq 1 2 jm
theorem zb (ts:List Nd) (c:F) (p:PT ts c) (hl:ts.length<=100):dC [.list (au ts)]=.ok (.ol (nO (F.R c))):=by
 unfold dC eZ;push_cast only [and_self];generalize hL:fj _ _ _=r
 refine mn hL (λm ρ=>∃(f:F) (o:List Nat) (v3:Option OD),F.Con (chN ts) f/\(F.pre f).length=m/\(∀k∈F.pre f,k<ts.length)/\o++F.g6 f=F.R c/\ρ=[some (.sh (.list (au ts))),some (.ol (nO o)),some (.ol (nO (F.roots f))),v3])
  ts.length ⟨F.full c,[],_,p.con,by rw [p.preF,Zh],(λk m=>by rw [p.preF,ZH]at m;exact m),rfl,rfl⟩
  (fun ρ=>∃v2 v3:Option OD,ρ=[some (.sh (.list (au ts))),some (.ol (nO (F.R c))),v2,v3]) ?_ ?_
 ·rintro m ρ ⟨f,o,v3,hc,hm,hk,ho,rfl⟩
  by_cases hf:F.roots f=[]
  ·left
   have:=qf hf;subst this;rw [F.g6,Zx]at ho;subst ho;constructor
   ·push_cast only [j8,c7,F.roots]
   ·exact ⟨_,_,rfl⟩
  ·right
   obtain ⟨g,a,b,r1,r2,r3,r4,r5,r6,r7⟩:=vZ hc (λz=>hf (by rw [z];rfl)) hk
   have d1:decide ((0:Int)<(((F.roots g++[a]).length:Nat):Int))=true:=decide_eq_true (by simp)
   have ol:o.length<=100:=by
    have:=congrArg List.length ho;rw [Zd,p.len]at this
    lia
   have lb1:((nO o).length<BIG)=True:=by rw [oH];exact eg (by lia)
   have lb2:((nO (F.roots g)).length+(nO (chN ts a)).length<=BIG)=True:=by
    rw [oH,oH,<-Zd,r3];have:=F.lT (F.app g b);have q:(F.pre (F.app g b)).length<=ts.length:=by
     have:=congrArg List.length ho;rw [Zd,p.len,(F.f9 f).length_eq]at this
     lia
    exact aW (by lia)
   rw [r1];constructor
   ·push_cast only [j8,c7,d1]
   ·rw [<-l8]
    push_cast only [se,lb1,ki ts a r2 hl,zq,lb2];rw [l8,uH,r3];exact ⟨_,by lia,F.app g b,o++[a],_,r4,rfl,r6,by rw [r7];exact ho,rfl⟩
 ·rintro ρ' rfl ⟨v2,v3,rfl⟩
  push_cast only [and_self]
noncomputable def kvs (R:List Nat) (i:Nat):List (Key×PyData):=(.inl (-1),.int (-1)) :: (List.range i).map λj:Nat=>(.inl ((R[j]?.getD 0:Nat):Int),.int (j:Int))
theorem xI {ks:List (Key×PyData)} {k:Key} {d:PyData} (h:∀p∈ks,p.1≠k):putD ks k d=ks++[(k,d)]:=by
 unfold putD;rw [if_neg];rw [Bool.not_eq_true,List.any_eq_false];intro p hp;rw [decide_eq_true_eq];exact h p hp
theorem yf {R:List Nat} (nd:R.Nodup) {i j:Nat} (hi:i<R.length) (hj:j<R.length) (h:R[i]=R[j]):i=j:=by
 have a:=nd.idxOf_getElem i hi;have b:=nd.idxOf_getElem j hj;rw [h]at a
 lia
theorem zF {R:List Nat} (nd:R.Nodup) {i k:Nat} (hk:R[i]?=some k):putD (kvs R i) (.inl (k:Int)) (.int (i:Int))=kvs R (i+1):=by
 rw [xI]
 ·unfold kvs
  rw [List.range_succ,Zl,List.cons_append,Zk,hk];rfl
 ·intro p hp
  unfold kvs at hp;rcases Zo.mp hp with rfl | hp
  ·intro z
   have:=Sum.inl.inj z
   lia
  ·obtain ⟨j,hj,rfl⟩:=ZC.mp hp
   rw [ZH]at hj;intro z;have hz:=Sum.inl.inj z;obtain ⟨h1,h2⟩:=Zb.mp hk;rw [Zg (show j<R.length by lia)]at hz
   have hz:((R[j]:Nat):Int)=(k:Int):=hz;have:=yf nd (show j<R.length by lia) h1 (by rw [h2];lia)
   lia
theorem yB (R:List Nat) (i:Nat):oJ (kvs R i) (.inl (-1))=some (.int (-1)):=by
 unfold oJ kvs;rw [List.find?_cons];simp
theorem Ej {R:List Nat} (nd:R.Nodup) {i k:Nat} (hk:R[i]?=some k):oJ (kvs R R.length) (.inl (k:Int))=some (.int (i:Int)):=by
 unfold oJ kvs;have h0:decide ((Sum.inl (-1):Key)=.inl (k:Int))=false:=decide_eq_false λz=>by
  have:=Sum.inl.inj z
  lia
 obtain ⟨h1,h2⟩:=Zb.mp hk;rw [List.find?_cons,h0,List.find?_map];have:(List.range R.length).find? ((λkv:Key×PyData=>decide (kv.1=.inl (k:Int))) ∘ λj:Nat=>(.inl ((R[j]?.getD 0:Nat):Int),PyData.int (j:Int)))=some i:=by
  rw [List.find?_range_eq_some];refine ⟨?_,ZH.mpr h1,λj hj=>?_⟩
  ·show decide ((Sum.inl ((R[i]?.getD 0:Nat):Int):Key)=.inl (k:Int))=true
   rw [hk];exact decide_eq_true rfl
  ·show (!decide ((Sum.inl ((R[j]?.getD 0:Nat):Int):Key)=.inl (k:Int)))=true
   rw [Bool.not_eq_true',decide_eq_false_iff_not];intro z;have hz:=Sum.inl.inj z;rw [Zg (show j<R.length by lia)]at hz
   have hz:((R[j]:Nat):Int)=(k:Int):=hz;have:=yf nd (show j<R.length by lia) h1 (by rw [h2];lia)
   lia
 rw [this];rfl
theorem zX {ts:List Nd} {c:F} (p:PT ts c) {k:Nat} (hk:k<ts.length):oJ (kvs (F.R c) ts.length) (.inl (d5 ts k).e)=some (.int (F.gi c (d5 ts k).e)):=by
 rw [pe hk];rcases p.elder hk with z | ⟨j,j1,j2⟩
 ·rw [z,yB]
  rfl
 ·rw [j2]
  have:=Ej p.nodup (p.at_g j1);rw [p.len]at this;rw [this];have e:F.gi c (j:Int)=(F.g c j:Int):=by
   unfold F.gi;rw [if_neg (by lia)]
   rfl
  rw [e]
theorem zU (ts:List Nd) (c:F) (p:PT ts c) (hl:ts.length<=100):fQ [.list (au ts),.list (nD (F.R c))]=.ok (.ol ((au (hX ts c)).map OD.sh)):=by
 unfold fQ iy;have hd1:∀ρ:L3.Env,eD1 (eUn fN (eC (.int 1))) (eUn fN (eC (.int 1))) ρ=.ok (.od (kvs (F.R c) 0)):=fun ρ=>rfl
 have len:=p.len;push_cast only [hd1];generalize hL:bJ _ _ _ _=r'
 refine cT hL (λi ρ=>∃v3 v4:Option OD,ρ=[some (.sh (.list (au ts))),some (.sh (.list (nD (F.R c)))),some (.od (kvs (F.R c) i)),v3,v4,none]) ⟨_,_,rfl⟩ ?_ ?_
 ·rintro i d ρ hd ⟨v3,v4,rfl⟩
  obtain ⟨e,he,rfl⟩:=jH hd;have hi:i<(F.R c).length:=by
   have:=(Zb.mp he).1;rw [c7]at this;exact this
  obtain ⟨k,hk⟩:∃k,(F.R c)[i]?=some k:=⟨(F.R c)[i],by simp⟩
  rw [yS hk]at he;cases he;have lb:((kvs (F.R c) i).length<BIG)=True:=by unfold kvs;rw [Zr,Zc,Zh];exact eg (by lia)
  push_cast only [Gm,E0,lb,zF p.nodup hk];exact ⟨_,_,rfl⟩
 ·rintro ρ' rfl ⟨v3,v4,rfl⟩
  have el:(gT (nD (F.R c))).length=ts.length:=by unfold gT;rw [Zc,List.length_zipIdx,c7,len]
  rw [el];push_cast only [and_self];generalize hC:ba _ _ _ _ _ _=rc
  have e:=dc hC (λk:Nat=>PyData.int (k:Int)) (λk=>.sh (ndD (d5 ts k))) (F.R c) (by unfold nD iL;rw [Zi];rfl) (by rw [len];exact of_eq_true (aW (by lia))) (by
   intro k hk;have hkn:=p.mem.mp hk;have g1:=fm (vU hkn);push_cast only [g1,ndD])
  subst e;clear hC;have e2:((F.R c).map λk=>OD.sh (ndD (d5 ts k))).map OD.er=(F.R c).map λk=>ndD (d5 ts k):=by
   rw [Zi];exact Zt λk _=>ee _
  push_cast only [e2,Hm];generalize hC:ba _ _ _ _ _ _=rc
  have e:=dc hC (λk:Nat=>ndD (d5 ts k)) (λk=>.sh (ndD ⟨F.gi c (d5 ts k).e,(d5 ts k).l,(d5 ts k).t⟩)) (F.R c) rfl (by rw [len];exact of_eq_true (aW (by lia))) (by
   intro k hk;have hkn:=p.mem.mp hk;have g1:=zX p hkn;push_cast only [ndD,KC,g1])
  subst e;clear hC;have e3:((F.R c).map λk=>OD.sh (ndD ⟨F.gi c (d5 ts k).e,(d5 ts k).l,(d5 ts k).t⟩))=(au (hX ts c)).map OD.sh:=by
   unfold au hX;rw [Zi,Zi];rfl
  push_cast only [e3]
theorem ua (ts:List Nd) (c:F) (p:PT ts c) (hl:ts.length<=100):iF [.list (au ts)]=.ok (.sh (.tuple [.list (au (hX ts c)),.list (nD (F.R c))])):=by
 unfold iF jm;push_cast only [zb ts c p hl,j8,zU ts c p hl,aR]
noncomputable def iN:Fs:=(aD (aN 2 (eOp cH (ae 1) (eC (.int 1))))
 (aD (fj (lp (aY (eOp gLt (ae 2) (eB bP (af (ae 0) av)))) (aY (eOp gGe (eOp gIx (eOp gIx (ae 0) (ae 2)) (eC (.int 0))) (ae 1)))) (wD 2 vx (eC (.int 1))))
 (eO (ae 2))))
noncomputable def gW:Fn:=cq 2 3 iN
noncomputable def gu:Fs:=(eO (bD (iR2 (eC (.int 1)) (eB bP (af (ae 0) av))) (gNm 0) bQ (eOp eE (eB jJ (af (eSl l7 (ae 1) (iA (ae 0)) ji) av)) (eB jJ (af (eSl l7 (ae 1) ji (iA (ae 0))) av))) 1 [0]))
noncomputable def e8:Fn:=cq 1 1 gu
noncomputable def gX:Fs:=(aD (aN 2 (bD (e7 (ae 1)) (gTp 3 (aO (gNm 0) (aO (gNm 1) (aO (gNm 2) eR)))) (aY (ae 1)) (eOp gIx (ae 3) (ae 0)) 3 [0]))
 (aD (t9 2 (bD (e7 (ae 1)) (gTp 3 (aO (gNm 0) (aO (gNm 1) (aO (gNm 2) eR)))) (aY (ae 2)) (eSh (pI (eOp gIx (ae 3) (ae 0)) (eUn fN (eC (.int 1))))) 3 [0]))
 (ke 2 (eO (bD (iR1 (eB bP (af (eOp gIx (ae 2) (eC (.int 0))) av))) (gNm 0) bQ (eB jJ (af (bD (e7 (ae 1)) (gNm 0) bQ (eOp gIx (ae 0) (ae 1)) 1 [0]) av)) 1 [2])))))
noncomputable def d9:Fn:=cq 2 3 gX
noncomputable def eM:Fs:=(eO (g5 (af (eB ij (af (eOp gIx (ae 0) (eC (.int 0))) av)) (af (eB ij (af (eOp gIx (ae 0) (eC (.int 1))) av)) (af (eB ij (af (eOp gIx (ae 0) (eC (.int 2))) av)) av)))))
noncomputable def bz:Fn:=cq 1 1 eM
noncomputable def jj:Fs:=(aD (aN 4 (ez av))
 (aD (aN 5 (ez (af (g5 (af (ae 2) (af (eUn fN (eC (.int 1))) av))) av)))
 (aD (fj (ve (aY (eOp gNe (ae 5) (ez av)))) (aD (tu 5 (gTp 2 (aO (gNm 6) (aO (gNm 7) eR))))
 (aD (iZ 4 (g5 (af (ae 7) (af (eOp ft (eB bP (af (eOp gIx (eOp gIx (ae 0) (ae 6)) (eC (.int 1))) av)) (eC (.int 2))) av))))
 (aD (aN 8 (eOp gIx (ae 1) (ae 6)))
 (aD (sIf (kI (aY (ae 3))) (aN 8 (eSh (pI (ae 8) (eUn fN (eC (.int 1)))))) sNx)
 (ke 5 (aN 5 (nL 4 (eOp cH (ae 5) (bD (e7 (ae 8)) (gNm 0) bQ (g5 (af (ae 0) (af (eOp eE (eB bP (af (ae 1) av)) (eC (.int 1))) av))) 1 [4]))))))))))
 (eX 4))))
noncomputable def dE:Fn:=cq 4 9 jj
noncomputable def jP:Fs:=(eO (nc (Af "bool" (ae 0)) (eOp gEq (ae 0) (ae 1))))
noncomputable def cV:Fn:=cq 2 2 jP
noncomputable def jh:Fs:=(aD (tL (aL dW (af (ae 0) (af (ae 1) av))))
 (aD (aN 2 (ez (af (g5 (af (eUn fN (eC (.int 1))) (af (eOp gIx (eOp gIx (ae 0) (ae 1)) (eC (.int 1))) (af (eOp gIx (eOp gIx (ae 0) (ae 1)) (eC (.int 2))) av)))) av)))
 (aD (fV (e7 (eSl l7 (ae 0) (iA (eOp cH (ae 1) (eC (.int 1)))) (iA (aL gW (af (ae 0) (af (ae 1) av)))))) (gNm 3) (iZ 2 (g5 (af (eOp eE (eOp gIx (ae 3) (eC (.int 0))) (ae 1)) (af (eOp gIx (ae 3) (eC (.int 1))) (af (eOp gIx (ae 3) (eC (.int 2))) av))))))
 (eX 2))))
noncomputable def gh:Fn:=cq 2 4 jh
noncomputable def jT:Fs:=(aD (aN 1 (eSh (bD (e7 (ae 0)) (gNm 0) bQ (eOp gIx (ae 0) (eC (.int 0))) 1 [])))
 (eO (g5 (af (ae 1) (af (eSh (aL iW (af (ae 0) av))) av)))))
noncomputable def f6:Fn:=cq 1 2 jT
noncomputable def eQ:Fs:=(aD (aN 2 (eB ij (af (eOp gIx (ae 1) (eC (.int 2))) av)))
 (aD (fV (iEn (aL bL (af (ae 0) av))) (gTp 2 (aO (gNm 3) (aO (gNm 4) eR))) (aD (jB 2 (eOp gIx (ae 4) (eC (.int 0))) (j4 (eOp cH (eOp gIx (ae 2) (eOp gIx (ae 4) (eC (.int 0)))) (eOp gIx (eOp gIx (ae 1) (eC (.int 0))) (ae 3)))))
 (aD (jB 2 (eOp gIx (ae 4) (eUn fN (eC (.int 1)))) (j4 (eOp eE (eOp gIx (ae 2) (eOp gIx (ae 4) (eUn fN (eC (.int 1))))) (eOp gIx (eOp gIx (ae 1) (eC (.int 1))) (ae 3)))))
 (fV (iR2 (eC (.int 1)) (eB bP (af (ae 4) av))) (gNm 5) (jB 2 (eOp gIx (ae 4) (eOp eE (ae 5) (eC (.int 1)))) (j4 (eOp eE (eOp gIx (ae 2) (eOp gIx (ae 4) (eOp eE (ae 5) (eC (.int 1))))) (eOp gIx (eOp gIx (ae 1) (eC (.int 2))) (eOp gIx (ae 4) (ae 5))))))))))
 (eX 2)))
noncomputable def dt:Fn:=cq 2 6 eQ
noncomputable def dZ:Fs:=(aD (aN 2 (eSh (aL cD (af (ae 0) av))))
 (aD (aN 3 (eSh (bD (iR1 (eB bP (af (ae 0) av))) (gNm 0) (aY (eOp gGt (eB bP (af (eOp gIx (ae 1) (ae 0)) av)) (eC (.int 1)))) (ae 0) 1 [2])))
 (aD (aN 4 (eSh (bD (e7 (ae 3)) (gNm 0) bQ (eSh (aL dE (af (ae 1) (af (ae 2) (af (ae 0) (af (eC (.bool false)) av)))))) 1 [0,2])))
 (aD (aN 5 (eSh (bD (e7 (ae 3)) (gNm 0) bQ (eSh (aL dE (af (ae 1) (af (ae 2) (af (ae 0) (af (eC (.bool true)) av)))))) 1 [0,2])))
 (aD (fV (iR1 (eB bP (af (ae 3) av))) (gNm 6) (aD (aN 7 (eSh (eOp g7 (ez (af (eC (.int 0)) av)) (eB bP (af (eOp gIx (ae 1) (eOp gIx (ae 3) (ae 6))) av)))))
 (aD (fV (iR1 (eB bP (af (ae 3) av))) (gNm 8) (aD (aN 9 (eOp gIx (ae 1) (eOp gIx (ae 3) (ae 8))))
 (aD (sIf (aY (eOp gEq (eOp gIx (ae 4) (ae 8)) (eOp gIx (ae 4) (ae 6)))) (aN 7 (eSh (bD (iZp (ae 7) (ae 9)) (gTp 2 (aO (gNm 0) (aO (gNm 1) eR))) bQ (eOp cH (ae 0) (ae 1)) 2 []))) sNx)
 (sIf (aY (eOp gEq (eOp gIx (ae 5) (ae 8)) (eOp gIx (ae 4) (ae 6)))) (aN 7 (eSh (bD (iZp (ae 7) (pI (ae 9) (eUn fN (eC (.int 1))))) (gTp 2 (aO (gNm 0) (aO (gNm 1) eR))) bQ (eOp cH (ae 0) (ae 1)) 2 []))) sNx))))
 (sIf (aY (eOp gNe (ae 7) (eOp g7 (ez (af (eC (.int 0)) av)) (eB bP (af (ae 7) av))))) (eO (eC (.bool false))) sNx))))
 (eO (eC (.bool true))))))))
noncomputable def cX:Fn:=cq 2 10 dZ
noncomputable def dY:Fs:=(aD (aN 4 (eSh (aL bL (af (ae 0) av))))
 (aD (aN 5 (eSh (bD (iR1 (eB bP (af (ae 4) av))) (gNm 0) bQ (eOp dR (eOp g7 (aL bA (af (ae 1) (af (eOp cH (ae 2) (ae 0)) av))) (eC (.int 69621))) (ae 3)) 1 [1,2,3])))
 (aD (aN 6 (eOp g7 (ez (af (eC (.int 0)) av)) (eB bP (af (ae 0) av))))
 (aD (fV (iEn (ae 4)) (gTp 2 (aO (gNm 7) (aO (gNm 8) eR))) (fV (e7 (eSl l7 (ae 8) (iA (eC (.int 1))) ji)) (gNm 9) (jB 6 (ae 9) (eOp gIx (ae 5) (ae 7)))))
 (ke 6 (eO (g5 (af (ae 5) (af (eSh (eB ij (af (ae 5) av))) (af (ae 6) av))))))))))
noncomputable def cZ:Fn:=cq 4 10 dY
noncomputable def dM:Fs:=(aD (tQ (aL bz (af (ae 1) av)) (gTp 3 (aO (gNm 3) (aO (gNm 4) (aO (gNm 5) eR)))))
 (aD (aN 6 (eOp dR (ae 2) (eC (.int 5))))
 (aD (aN 7 (eSh (bD (e7 (aL bL (af (ae 0) av))) (gNm 0) bQ (eOp gIx (ae 0) (eC (.int 0))) 1 [])))
 (aD (aN 8 (eSh (bD (iR1 (eB bP (af (ae 0) av))) (gNm 0) (aY (eOp (wW true) (ae 0) (ae 1))) (ae 0) 1 [7])))
 (aD (aN 9 (j4 (eOp dR (eOp ft (ae 2) (eC (.int 5))) (eB bP (af (ae 3) av)))))
 (aD (sIf (aY (eOp gEq (ae 6) (eC (.int 1)))) (aD (jB 3 (ae 9) (j4 (eOp cH (eOp gIx (ae 3) (ae 9)) (eC (.int 1)))))
 (jB 4 (j4 (eOp dR (eOp ft (ae 2) (eC (.int 64))) (eB bP (af (ae 4) av)))) (j4 (eOp cH (eOp gIx (ae 4) (eOp dR (eOp ft (ae 2) (eC (.int 64))) (eB bP (af (ae 4) av)))) (eC (.int 1)))))) sNx)
 (aD (sIf (qC (lp (aY (eOp gNe (ae 8) (ez av))) (aY (eOp gEq (ae 6) (eC (.int 2))))) (lp (aY (eOp gGt (eB bP (af (ae 8) av)) (eC (.int 1)))) (aY (eOp gEq (ae 6) (eC (.int 3)))))) (aD (aN 10 (eOp gIx (ae 8) (eOp dR (eOp ft (ae 2) (eC (.int 5))) (eB bP (af (ae 8) av)))))
 (jB 5 (ae 10) (j4 (eOp cH (eOp gIx (ae 5) (ae 10)) (eC (.int 1)))))) sNx)
 (aD (sIf (lp (aY (eOp gGt (eB bP (af (ae 8) av)) (eC (.int 1)))) (aY (eOp gEq (ae 6) (eC (.int 3))))) (aD (aN 11 (eOp gIx (ae 8) (eOp dR (eOp ft (ae 2) (eC (.int 91))) (eB bP (af (ae 8) av)))))
 (jB 5 (ae 11) (j4 (eB p9 (af (eC (.int 0)) (af (eOp eE (eOp gIx (ae 5) (ae 11)) (eC (.int 1))) av)))))) sNx)
 (aD (sIf (aY (eOp gEq (ae 6) (eC (.int 4)))) (jB 4 (ae 9) (j4 (eOp cH (eOp gIx (ae 4) (ae 9)) (eC (.int 1))))) sNx)
 (ke 4 (ke 3 (ke 5 (eO (g5 (af (ae 3) (af (ae 4) (af (ae 5) av)))))))))))))))))
noncomputable def cP:Fn:=cq 3 12 dM
noncomputable def fI:Fs:=(aD (tQ (aL bz (af (ae 1) av)) (gTp 3 (aO (gNm 3) (aO (gNm 4) (aO (gNm 5) eR)))))
 (aD (aN 6 (j4 (eOp dR (eOp ft (ae 2) (eC (.int 8))) (eB bP (af (ae 3) av)))))
 (aD (sIf (aY (eOp gEq (eOp dR (ae 2) (eC (.int 8))) (eC (.int 0)))) (iZ 3 (eC (.int 0))) sNx)
 (aD (sIf (aY (eOp gEq (eOp dR (ae 2) (eC (.int 8))) (eC (.int 1)))) (pO 4) sNx)
 (aD (sIf (aY (eOp gEq (eOp dR (ae 2) (eC (.int 8))) (eC (.int 2)))) (iZ 5 (eC (.int 0))) sNx)
 (aD (sIf (aY (eOp gEq (eOp dR (ae 2) (eC (.int 8))) (eC (.int 3)))) (pO 5) sNx)
 (aD (sIf (aY (eOp gEq (eOp dR (ae 2) (eC (.int 8))) (eC (.int 4)))) (jB 3 (ae 6) (eOp eE (eUn fN (eC (.int 1))) (eOp ft (ae 2) (eC (.int 64))))) sNx)
 (aD (sIf (aY (eOp gEq (eOp dR (ae 2) (eC (.int 8))) (eC (.int 5)))) (jB 4 (ae 6) (eOp eE (eUn fN (eC (.int 1))) (eOp ft (ae 2) (eC (.int 64))))) sNx)
 (aD (sIf (aY (eOp gEq (eOp dR (ae 2) (eC (.int 8))) (eC (.int 6)))) (jB 5 (j4 (eOp dR (eOp ft (ae 2) (eC (.int 64))) (eB bP (af (ae 5) av)))) (eOp eE (eUn fN (eC (.int 1))) (eOp ft (ae 2) (eC (.int 64))))) sNx)
 (aD (sIf (aY (eOp gEq (eOp dR (ae 2) (eC (.int 8))) (eC (.int 7)))) (jB 5 (eC (.int 0)) (eC (.int 1))) sNx)
 (ke 4 (ke 3 (ke 5 (eO (g5 (af (ae 3) (af (ae 4) (af (ae 5) av))))))))))))))))))
noncomputable def d_:Fn:=cq 3 7 fI
noncomputable def mf:Fs:=(eO (bD (iR1 (eB bP (af (ae 0) av))) (gNm 0) (aY (eOp gGt (eB bP (af (aL cn (af (ae 1) (af (ae 0) av))) av)) (eC (.int 1)))) (ae 0) 1 [0]))
noncomputable def kL:Fn:=cq 1 1 mf
noncomputable def iP:Fs:=(aD (aN 2 (eSh (aL cE (af (ae 0) av))))
 (aD (sIf (aY (eOp gNe (bD (iTp (ae 1)) (gNm 0) bQ (eB bP (af (ae 0) av)) 1 []) (ez (af (eB bP (af (ae 2) av)) (af (eB bP (af (ae 2) av)) (af (eB bP (af (ae 0) av)) av)))))) (eO (eC (.bool false))) sNx)
 (aD (aN 3 (eB l4 (af (bD (iTp (ae 1)) (gNm 0) bQ (eB l4 (af (ae 0) av)) 1 []) av)))
 (eO (nc (eOp gGe (ae 3) (eC (.int 0))) (wu (eB qU (af (bD (e7 (ae 2)) (gNm 0) bQ (eOp gIx (eOp gIx (ae 1) (eC (.int 2))) (eOp gIx (ae 0) (eC (.int 0)))) 1 [1]) av))))))))
noncomputable def bN:Fn:=cq 2 4 iP
noncomputable def ik:Fs:=(aD (aN 2 (aL dt (af (ae 0) (af (ae 1) av))))
 (aD (fV (iR3 (eOp eE (eB bP (af (ae 0) av)) (eC (.int 1))) (eC (.int 0)) (eUn fN (eC (.int 1)))) (gNm 3) (jB 2 (eOp gIx (eOp gIx (ae 0) (ae 3)) (eC (.int 0))) (j4 (eOp cH (eOp gIx (ae 2) (eOp gIx (eOp gIx (ae 0) (ae 3)) (eC (.int 0)))) (eOp gIx (ae 2) (ae 3))))))
 (aD (aN 4 (ez av))
 (aD (ke 2 (fV (e7 (aL cD (af (ae 0) av))) (gNm 5) (aD (aN 6 (ez av))
 (aD (fV (iR2 (eC (.int 1)) (eB bP (af (ae 5) av))) (gNm 7) (iZ 6 (eOp eE (eB jJ (af (bD (e7 (eSl l7 (ae 5) (iA (ae 7)) ji)) (gNm 0) bQ (eOp gIx (ae 1) (ae 0)) 1 [2]) av)) (eB jJ (af (bD (e7 (eSl l7 (ae 5) ji (iA (ae 7)))) (gNm 0) bQ (eOp gIx (ae 1) (ae 0)) 1 [2]) av)))))
 (ke 6 (iZ 4 (ae 6)))))))
 (eX 4)))))
noncomputable def fU:Fn:=cq 2 8 ik
noncomputable def ip:Fs:=(aD (aN 2 (eB ij (af (eOp gIx (ae 1) (eC (.int 2))) av)))
 (aD (fV (e7 (aL fX (af (ae 0) av))) (gTp 2 (aO (gNm 3) (aO (gNm 4) eR))) (m6 2 (λi j=>i-j) (ae 3) (eOp gIx (eOp gIx (ae 1) (eC (.int 2))) (ae 4))))
 (aD (fV (zh (af (aL cE (af (ae 0) av)) (af (eOp gIx (ae 1) (eC (.int 0))) (af (eOp gIx (ae 1) (eC (.int 1))) av)))) (gTp 3 (aO (gNm 5) (aO (gNm 6) (aO (gNm 7) eR)))) (aD (m6 2 (λi j=>i+j) (eOp gIx (ae 5) (eC (.int 0))) (ae 6))
 (m6 2 (λi j=>i-j) (eOp gIx (ae 5) (eUn fN (eC (.int 1)))) (ae 7))))
 (eX 2))))
noncomputable def fY:Fn:=cq 2 8 ip
noncomputable def jf:Fs:=(aD (aN 3 (eSh (aL f6 (af (aL gh (af (ae 0) (af (ae 1) av))) av))))
 (aD (aN 4 (eSh (aL gh (af (ae 0) (af (ae 2) av)))))
 (aD (aN 5 (eOp gIx (aL iF (af (ae 4) av)) (eC (.int 0))))
 (eO (g5 (af (eOp gEq (ae 3) (aL f6 (af (ae 4) av))) (af (eOp gEq (ae 3) (aL f6 (af (ae 5) av))) av)))))))
noncomputable def f7:Fn:=cq 3 6 jf
noncomputable def gq:Fs:=(aD (aN 2 (aL fY (af (ae 0) (af (ae 1) av))))
 (aD (fV (iR3 (eOp eE (eB bP (af (ae 0) av)) (eC (.int 1))) (eC (.int 0)) (eUn fN (eC (.int 1)))) (gNm 3) (m6 2 (λi j=>i+j) (eOp gIx (eOp gIx (ae 0) (ae 3)) (eC (.int 0))) (j4 (eOp gIx (ae 2) (ae 3)))))
 (eX 2)))
noncomputable def e_:Fn:=cq 2 4 gq
noncomputable def gJ:Fs:=(aD (aN 1 (ez av))
 (aD (aN 2 (eSh (aL kL (af (ae 0) av))))
 (aD (fj (aY (eOp gGt (eB bP (af (ae 2) av)) (eC (.int 0)))) (aD (aN 3 (eSh (bD (e7 (ae 2)) (gNm 0) bQ (eOp vW (g5 (af (ae 0) av)) (aL f7 (af (ae 1) (af (ae 0) (af (eOp gIx (ae 2) (eC (.int 0))) av))))) 1 [0,2])))
 (aD (iZ 1 (eSh (bD (e7 (ae 3)) (gNm 0) (qC (aY (eOp gIx (ae 0) (eC (.int 1)))) (aY (eOp gIx (ae 0) (eC (.int 2))))) (ae 0) 1 [])))
 (aN 2 (eSh (bD (e7 (ae 3)) (gTp 3 (aO (gNm 0) (aO (gNm 1) (aO (gNm 2) eR)))) (lp (kI (aY (ae 1))) (kI (aY (ae 2)))) (ae 0) 3 []))))))
 (eX 1))))
noncomputable def fi:Fn:=cq 1 4 gJ
noncomputable def mv:Fs:=(aD (aN 2 (eSh (aL e_ (af (ae 0) (af (ae 1) av)))))
 (eO (bD (iR1 (eB bP (af (ae 0) av))) (gNm 0) bQ (aL e8 (af (bD (e7 (aL cn (af (ae 1) (af (ae 0) av)))) (gNm 0) bQ (eOp gIx (ae 1) (ae 0)) 1 [2]) av)) 1 [0,2])))
noncomputable def kN:Fn:=cq 2 3 mv
noncomputable def iE:Fs:=(aD (sIf (kI (aY (aL bN (af (ae 0) (af (ae 1) av))))) (eO (eC (.bool false))) sNx)
 (aD (aN 3 (eB jJ (af (eOp gIx (ae 1) (eC (.int 0))) av)))
 (aD (sIf (qC (aY (eOp gLt (ae 3) (eC (.int 1)))) (aY (eOp gNe (ae 3) (eB jJ (af (eOp gIx (ae 1) (eC (.int 1))) av))))) (eO (eC (.bool false))) sNx)
 (aD (aN 4 (eSh (aL kN (af (ae 0) (af (ae 1) av)))))
 (aD (sIf (aY (ae 2)) (aN 4 (eSh (bD (e7 (aL fi (af (ae 0) av))) (gNm 0) bQ (eSh (aL d9 (af (ae 1) (af (ae 0) av)))) 1 [4]))) sNx)
 (eO (wu (eB qU (af (bD (e7 (ae 4)) (gNm 0) bQ (eB qU (af (ae 0) av)) 1 []) av)))))))))
noncomputable def bV:Fn:=cq 3 5 iE
noncomputable def gy:Fs:=(aD (aN 2 (eSh (aL fU (af (ae 0) (af (ae 1) av)))))
 (aD (aN 3 (nc (eOp gGe (eB jJ (af (eOp gIx (ae 1) (eC (.int 0))) av)) (eC (.int 1))) (eOp gEq (eB jJ (af (eOp gIx (ae 1) (eC (.int 0))) av)) (eB jJ (af (eOp gIx (ae 1) (eC (.int 1))) av)))))
 (aD (aN 4 (eOp gEq (eB bP (af (bD (e7 (ae 2)) (gNm 0) (aY (eOp gNe (ae 0) (eOp g7 (ez (af (eC (.int 0)) av)) (eB bP (af (ae 0) av))))) (ae 0) 1 []) av)) (eC (.int 0))))
 (aD (aN 5 (eSh (ez (af (eSh (eB ij (af (ae 0) av))) (af (eSh (aL bz (af (ae 1) av))) av)))))
 (aD (sIf (kI (aY (aL cV (af (aL (dfl bV [.bool false]) (af (eOp gIx (ae 5) (eC (.int 0))) (af (eOp gIx (ae 5) (eC (.int 1))) av))) (af (nc (ae 3) (ae 4)) av))))) (eO (eC (.bool false))) sNx)
 (aD (sIf (kI (aY (aL cV (af (aL bV (af (eOp gIx (ae 5) (eC (.int 0))) (af (eOp gIx (ae 5) (eC (.int 1))) (af (eC (.bool false)) av)))) (af (nc (ae 3) (ae 4)) av))))) (eO (eC (.bool false))) sNx)
 (aD (aN 6 (eSh (aL bV (af (eOp gIx (ae 5) (eC (.int 0))) (af (eOp gIx (ae 5) (eC (.int 1))) (af (eC (.bool true)) av))))))
 (eO (nc (aL cV (af (ae 6) (af (nc (ae 3) (aL cX (af (ae 0) (af (ae 2) av)))) av))) (eOp gEq (ae 5) (ez (af (ae 0) (af (ae 1) av)))))))))))))
noncomputable def d6:Fn:=cq 2 7 gy
noncomputable def qK:Fs:=(aD (aN 1 (eSh (aL bA (af (ae 0) (af (eC (.int 0)) av)))))
 (aD (aN 2 (eSh (aL fv (af (ae 0) (af (eC (.int 3)) (af (eOp cH (eC (.int 1)) (eOp dR (ae 1) (eC (.int 6)))) (af (eOp dR (aL bA (af (ae 0) (af (eC (.int 1)) av))) (eC (.int 2147483647))) av)))))))
 (aD (aN 3 (eOp gIx (ez (af (eC (.int 10)) (af (eOp Ar (eC (.int 10)) (eC (.int 9))) (af (eC (.int 1)) av)))) (eB p8 (af (eOp ft (eOp dR (eOp ft (ae 1) (eC (.int 6))) (eC (.int 9))) (eC (.int 4))) (af (eC (.int 2)) av)))))
 (aD (aN 4 (eSh (aL cZ (af (ae 2) (af (ae 0) (af (eC (.int 40)) (af (ae 3) av)))))))
 (aD (aN 5 (eOp dR (eOp g7 (aL bA (af (ae 0) (af (eC (.int 2)) av))) (eC (.int 48271))) (eC (.int 2147483647))))
 (aD (aN 6 (eSh (aL cP (af (ae 2) (af (ae 4) (af (ae 5) av))))))
 (aD (sIf (qC (kI (aY (aL d6 (af (ae 2) (af (ae 4) av))))) (kI (aY (aL d6 (af (ae 2) (af (ae 6) av)))))) (eO (eC (.bool false))) sNx)
 (aD (aN 7 (eSh (aL d_ (af (ae 2) (af (ae 4) (af (eOp ft (ae 5) (eC (.int 16))) av))))))
 (eO (nc (aL cV (af (aL (dfl bV [.bool false]) (af (ae 2) (af (ae 7) av))) (af (eC (.bool false)) av))) (aL cV (af (aL bV (af (ae 2) (af (ae 7) (af (eC (.bool true)) av)))) (af (eC (.bool false)) av)))))))))))))
noncomputable def nK:Fn:=cq 1 8 qK
noncomputable def top (i:Nat):Stmt:=PySem.Challenge.pw_boughdraw_k43_is_paper.main.body.getD i (.Pass ⟨0,0,0,0⟩)
noncomputable abbrev c6:Stmt:=top 4
theorem pG:FnScope ["tree", "node"] ["tree", "node"] (aj c6):=⟨rfl,rfl,rfl,by decide +kernel,rfl,by decide +kernel,by decide +kernel⟩
noncomputable abbrev df:Stmt:=top 6
theorem ja:FnScope ["tree", "levels", "row"] ["tree"] (aj df):=⟨rfl,rfl,rfl,by decide +kernel,rfl,by decide +kernel,by decide +kernel⟩
noncomputable abbrev fL:Stmt:=top 9
theorem uW:FnScope ["tree"] ["tree"] (aj fL):=⟨rfl,rfl,rfl,by decide +kernel,rfl,by decide +kernel,by decide +kernel⟩
noncomputable abbrev eF:Stmt:=top 12
theorem jS:FnScope ["tree", "node", "end"] ["tree", "node"] (aj eF):=⟨rfl,rfl,rfl,by decide +kernel,rfl,by decide +kernel,by decide +kernel⟩
noncomputable abbrev cG:Stmt:=top 15
theorem fW:FnScope ["rows", "numbers", "places", "place", "number", "named"] ["rows", "numbers"] (aj cG):=⟨rfl,rfl,rfl,by decide +kernel,rfl,by decide +kernel,by decide +kernel⟩
noncomputable abbrev cF:Stmt:=top 22
theorem oq:FnScope ["sums"] ["sums"] (aj cF):=⟨rfl,rfl,rfl,by decide +kernel,rfl,by decide +kernel,by decide +kernel⟩
noncomputable abbrev bW:Stmt:=top 27
theorem kq:FnScope ["felt", "group", "rows"] ["felt", "group"] (aj bW):=⟨rfl,rfl,rfl,by decide +kernel,rfl,by decide +kernel,by decide +kernel⟩
noncomputable abbrev cM:Stmt:=top 29
theorem jY:FnScope ["_law_script", "_law_k", "_law_number"] ["_law_script", "_law_k"] (aj cM):=⟨rfl,rfl,rfl,by decide +kernel,rfl,by decide +kernel,by decide +kernel⟩
noncomputable abbrev dP:Stmt:=top 30
theorem fS:FnScope ["_law_number", "_law_most", "_law_letters", "_law_label_here", "_law_k"] ["_law_number", "_law_most"] (aj dP):=⟨rfl,rfl,rfl,by decide +kernel,rfl,by decide +kernel,by decide +kernel⟩
noncomputable abbrev bq:Stmt:=top 32
theorem cN:FnScope ["_law_tree_here", "_law_order", "_law_left", "_law_node"] ["_law_tree_here"] (aj bq):=⟨rfl,rfl,rfl,by decide +kernel,rfl,by decide +kernel,by decide +kernel⟩
noncomputable abbrev eD:Stmt:=top 35
theorem gz:FnScope ["_law_tree_here", "_law_shift", "_law_found", "_law_elder", "_law_label_here", "_law_tall"] ["_law_tree_here", "_law_shift"] (aj eD):=⟨rfl,rfl,rfl,by decide +kernel,rfl,by decide +kernel,by decide +kernel⟩
noncomputable abbrev bX:Stmt:=top 37
theorem fA:FnScope ["_law_tree_here", "_law_level", "_law_elder", "_law_label_here", "_law_tall"] ["_law_tree_here"] (aj bX):=⟨rfl,rfl,rfl,by decide +kernel,rfl,by decide +kernel,by decide +kernel⟩
noncomputable abbrev bM:Stmt:=top 38
theorem hR:FnScope ["_law_tree_here", "_law_some", "_law_k"] ["_law_tree_here"] (aj bM):=⟨rfl,rfl,rfl,by decide +kernel,rfl,by decide +kernel,by decide +kernel⟩
noncomputable abbrev b_:Stmt:=top 41
theorem nR:FnScope ["_law_pulls"] ["_law_pulls"] (aj b_):=⟨rfl,rfl,rfl,by decide +kernel,rfl,by decide +kernel,by decide +kernel⟩
noncomputable abbrev eJ:Stmt:=top 42
theorem eA:FnScope ["_law_tree_here", "_law_some", "_law_node", "_law_turned", "_law_found", "_law_left", "_law_at", "_law_elder", "_law_parts"] ["_law_tree_here", "_law_some", "_law_node", "_law_turned"] (aj eJ):=⟨rfl,rfl,rfl,by decide +kernel,rfl,by decide +kernel,by decide +kernel⟩
noncomputable abbrev fK:Stmt:=top 47
theorem uA:FnScope ["_law_found", "_law_due"] ["_law_found", "_law_due"] (aj fK):=⟨rfl,rfl,rfl,by decide +kernel,rfl,by decide +kernel,by decide +kernel⟩
noncomputable abbrev bZ:Stmt:=top 5
theorem o6:FnScope ["tree", "node"] ["tree", "node"] (aj bZ):=⟨rfl,rfl,rfl,by decide +kernel,rfl,by decide +kernel,by decide +kernel⟩
noncomputable abbrev dh:Stmt:=top 7
theorem iK:FnScope ["tree", "numbers", "node", "level"] ["tree"] (aj dh):=⟨rfl,rfl,rfl,by decide +kernel,rfl,by decide +kernel,by decide +kernel⟩
noncomputable abbrev fu:Stmt:=top 11
theorem ku:FnScope ["tree", "node", "bough", "row"] ["tree", "node"] (aj fu):=⟨rfl,rfl,rfl,by decide +kernel,rfl,by decide +kernel,by decide +kernel⟩
noncomputable abbrev fH:Stmt:=top 17
theorem oM:FnScope ["bough", "elders"] ["bough"] (aj fH):=⟨rfl,rfl,rfl,by decide +kernel,rfl,by decide +kernel,by decide +kernel⟩
noncomputable abbrev eI:Stmt:=top 31
theorem c_:FnScope ["_law_script", "_law_start", "_law_many", "_law_most", "_law_deep", "_law_tree_here", "_law_way", "_law_k", "_law_number", "_law_keep"] ["_law_script", "_law_start", "_law_many", "_law_most", "_law_deep"] (aj eI):=⟨rfl,rfl,rfl,by decide +kernel,rfl,by decide +kernel,by decide +kernel⟩
noncomputable abbrev bK:Stmt:=top 33
theorem bF:FnScope ["_law_tree_here", "_law_order", "_law_found", "_law_node", "_law_elder", "_law_label_here", "_law_tall"] ["_law_tree_here"] (aj bK):=⟨rfl,rfl,rfl,by decide +kernel,rfl,by decide +kernel,by decide +kernel⟩
noncomputable abbrev bT:Stmt:=top 34
theorem bu:FnScope ["_law_tree_here", "_law_script", "_law_start", "_law_found", "_law_k", "_law_number", "_law_size", "_law_letters", "_law_label_here", "_law_j"] ["_law_tree_here", "_law_script", "_law_start"] (aj bT):=⟨rfl,rfl,rfl,by decide +kernel,rfl,by decide +kernel,by decide +kernel⟩
noncomputable abbrev bU:Stmt:=top 39
theorem dq:FnScope ["_law_tree_here", "_law_pulls", "_law_found", "_law_at", "_law_level", "_law_k"] ["_law_tree_here", "_law_pulls"] (aj bU):=⟨rfl,rfl,rfl,by decide +kernel,rfl,by decide +kernel,by decide +kernel⟩
noncomputable abbrev aQ:Stmt:=top 43
theorem aX:FnScope ["_law_tree_here", "_law_rows", "_law_some", "_law_wide", "_law_keys", "_law_others", "_law_j", "_law_total", "_law_k", "_law_row"] ["_law_tree_here", "_law_rows"] (aj aQ):=⟨rfl,rfl,rfl,by decide +kernel,rfl,by decide +kernel,by decide +kernel⟩
noncomputable abbrev bw:Stmt:=top 44
theorem bR:FnScope ["_law_tree_here", "_law_script", "_law_start", "_law_most", "_law_levels_here", "_law_sides", "_law_gaps", "_law_at", "_law_level", "_law_node"] ["_law_tree_here", "_law_script", "_law_start", "_law_most"] (aj bw):=⟨rfl,rfl,rfl,by decide +kernel,rfl,by decide +kernel,by decide +kernel⟩
noncomputable abbrev a_:Stmt:=top 45
theorem aZ:FnScope ["_law_tree_here", "_law_pulls", "_law_number", "_law_left", "_law_right", "_law_gaps", "_law_kind", "_law_firsts", "_law_free", "_law_at", "_law_one", "_law_other"] ["_law_tree_here", "_law_pulls", "_law_number"] (aj a_):=⟨rfl,rfl,rfl,by decide +kernel,rfl,by decide +kernel,by decide +kernel⟩
noncomputable abbrev cw:Stmt:=top 46
theorem ed:FnScope ["_law_tree_here", "_law_pulls", "_law_number", "_law_left", "_law_right", "_law_gaps", "_law_at"] ["_law_tree_here", "_law_pulls", "_law_number"] (aj cw):=⟨rfl,rfl,rfl,by decide +kernel,rfl,by decide +kernel,by decide +kernel⟩
noncomputable abbrev c9:Stmt:=top 8
theorem jv:FnScope ["tree", "pairs", "level"] ["tree"] (aj c9):=⟨rfl,rfl,rfl,by decide +kernel,rfl,by decide +kernel,by decide +kernel⟩
noncomputable abbrev b6:Stmt:=top 14
theorem eW:FnScope ["tree", "order", "waiting", "node"] ["tree"] (aj b6):=⟨rfl,rfl,rfl,by decide +kernel,rfl,by decide +kernel,by decide +kernel⟩
noncomputable abbrev iS:Stmt:=top 18
theorem yo:FnScope ["tree"] ["tree"] (aj iS):=⟨rfl,rfl,rfl,by decide +kernel,rfl,by decide +kernel,by decide +kernel⟩
noncomputable abbrev cR:Stmt:=top 26
theorem jW:FnScope ["tree", "pulls", "levels", "least"] ["tree", "pulls"] (aj cR):=⟨rfl,rfl,rfl,by decide +kernel,rfl,by decide +kernel,by decide +kernel⟩
noncomputable abbrev dg:Stmt:=top 36
theorem cO:FnScope ["_law_script", "_law_start", "_law_many", "_law_kinds", "_law_part", "_law_tree_here", "_law_k", "_law_bough"] ["_law_script", "_law_start", "_law_many", "_law_kinds"] (aj dg):=⟨rfl,rfl,rfl,by decide +kernel,rfl,by decide +kernel,by decide +kernel⟩
noncomputable abbrev cI:Stmt:=top 40
theorem dU:FnScope ["_law_tree_here", "_law_pulls", "_law_total", "_law_k", "_law_found", "_law_some", "_law_row", "_law_at"] ["_law_tree_here", "_law_pulls"] (aj cI):=⟨rfl,rfl,rfl,by decide +kernel,rfl,by decide +kernel,by decide +kernel⟩
noncomputable abbrev fC:Stmt:=top 13
theorem mW:FnScope ["tree", "numbers"] ["tree"] (aj fC):=⟨rfl,rfl,rfl,by decide +kernel,rfl,by decide +kernel,by decide +kernel⟩
noncomputable abbrev dI:Stmt:=top 24
theorem dS:FnScope ["tree", "pulls", "told", "one", "other", "level", "left", "right"] ["tree", "pulls"] (aj dI):=⟨rfl,rfl,rfl,by decide +kernel,rfl,by decide +kernel,by decide +kernel⟩
noncomputable abbrev fB:Stmt:=top 16
theorem jg:FnScope ["tree", "one", "other", "form", "bough", "mirror"] ["tree", "one", "other"] (aj fB):=⟨rfl,rfl,rfl,by decide +kernel,rfl,by decide +kernel,by decide +kernel⟩
noncomputable abbrev dm:Stmt:=top 23
theorem iY:FnScope ["tree", "pulls", "sums", "node"] ["tree", "pulls"] (aj dm):=⟨rfl,rfl,rfl,by decide +kernel,rfl,by decide +kernel,by decide +kernel⟩
noncomputable abbrev b5:Stmt:=top 19
theorem fF:FnScope ["tree", "groups", "waiting", "held"] ["tree"] (aj b5):=⟨rfl,rfl,rfl,by decide +kernel,rfl,by decide +kernel,by decide +kernel⟩
noncomputable abbrev iM:Stmt:=top 21
theorem tF:FnScope ["tree", "pulls", "sums"] ["tree", "pulls"] (aj iM):=⟨rfl,rfl,rfl,by decide +kernel,rfl,by decide +kernel,by decide +kernel⟩
noncomputable abbrev dn:Stmt:=top 25
theorem je:FnScope ["tree", "pulls", "strict", "bottom", "felt"] ["tree", "pulls", "strict"] (aj dn):=⟨rfl,rfl,rfl,by decide +kernel,rfl,by decide +kernel,by decide +kernel⟩
noncomputable abbrev cJ:Stmt:=top 48
theorem ef:FnScope ["_law_tree_here", "_law_pulls", "_law_rows", "_law_sides", "_law_calm", "_law_handed", "_law_found"] ["_law_tree_here", "_law_pulls"] (aj cJ):=⟨rfl,rfl,rfl,by decide +kernel,rfl,by decide +kernel,by decide +kernel⟩
noncomputable abbrev lM:Stmt:=top 49
theorem kO:FnScope ["_law_script", "_law_cell_here", "_law_tree_here", "_law_most", "_law_pulls", "_law_number", "_law_about", "_law_wrong"] ["_law_script"] (aj lM):=⟨rfl,rfl,rfl,by decide +kernel,rfl,by decide +kernel,by decide +kernel⟩
theorem jZ:bootBuiltins "list" = some (.type "list"):=by decide +kernel
theorem AD:bootBuiltins "bool" = some (.type "bool"):=by decide +kernel
structure Txt (K:PySem.W.Frag) (mg:Str->Option Value):Prop where
 z_any:mg "any" = none
 z_bool:mg "bool" = none
 z_enumerate:mg "enumerate" = none
 z_isinstance:mg "isinstance" = none
 z_len:mg "len" = none
 z_list:mg "list" = none
 z_max:mg "max" = none
 z_min:mg "min" = none
 z_range:mg "range" = none
 z_sum:mg "sum" = none
 z_zip:mg "zip" = none
section
variable {P:Program} {w:World} {K:PySem.W.Frag} {mg:Str->Option Value} {base:Heap}
theorem pL {f:Addr} {fd:FuncData} (F:Fun K "check_node" "check_node" c6 f fd) (T:Txt K mg):FnOk P w K mg base CX0 1 f fd ["tree", "node"] (sp3 K mg dW):=by
 refine dX (N:=["tree", "node"]) (k:=0) (body:=iz) rfl rfl rfl F pG λcdv A outer s H E hr=>?_
 unfold iz;exact (aq (dk (oX (tW (a9 wq (λ_=>vO) (aa 1) ah (aS _)) (oK (a9 sN (λ_=>t5) (aa 1) (aP az aT rfl T.z_len PySem.boot_len (ab (aa 0) ao)) (aS _))))) (aq yZ) bx))
theorem nP {f:Addr} {fd:FuncData} (F:Fun K "node_levels" "node_levels" df f fd) (T:Txt K mg):FnOk P w K mg base CX0 1 f fd ["tree"] (sp3 K mg fq):=by
 refine dX (N:=["tree", "levels", "row"]) (k:=0) (body:=g4) rfl rfl rfl F ja λcdv A outer s H E hr=>?_
 unfold g4;exact (ai (aC (i:=1) ja.nd rfl (Or.inl rfl) (bO ao))
   (ai (cL rfl PassesOwn.never (bB (aa 0)) (aw (i:=2) ja.nd rfl (Or.inl rfl)) (aq (e9 1 (bC (fP (Iw (a9 (cm hr.units) dH (aA ax aB (aa 2) ah (λ_ _=>rfl)) (gn d8 (λ_=>et) ah) (aS _)) ah (ay aV bh (aA ax aB (aa 1) (aA ax aB (aa 2) ah (λ_ _=>rfl)) (λ_ _=>rfl)) ah)))))))
   (aq (dQ 1))))
theorem uX {f:Addr} {fd:FuncData} (F:Fun K "reaches" "reaches" fL f fd) (T:Txt K mg):FnOk P w K mg base CX0 1 f fd ["tree"] (sp3 K mg iW):=by
 refine dX (N:=["tree"]) (k:=0) (body:=j3) rfl rfl rfl F uW λcdv A outer s H E hr=>?_
 unfold j3;exact (aq (bS (b7 (sc:=(aj fL)) (outs:=[]) (is:=[0]) ["row"] ⟨rfl,rfl,by decide +kernel,by decide +kernel,by decide +kernel,trivial⟩ rfl (by decide) (bB (aa 0)) (λ_ _ _ _ _=>(aw (i:=0) (show List.Nodup (["row"]:List Str) by decide +kernel) rfl (Or.inl rfl))) (λ_ _ _ _ _=>cB) (λ_ _ _ _ _=>(ay bE (λ_=>b8) (aP az aT rfl T.z_len PySem.boot_len (ab (aA ax aB (aa 0) ah (λ_ _=>rfl)) ao)) ah)))))
theorem rm {f:Addr} {fd:FuncData} (F:Fun K "bough_end" "bough_end" eF f fd) (T:Txt K mg):FnOk P w K mg base CX0 1 f fd ["tree", "node"] (sp3 K mg gW):=by
 refine dX (N:=["tree", "node", "end"]) (k:=0) (body:=iN) rfl rfl rfl F jS λcdv A outer s H E hr=>?_
 unfold iN;exact (ai (aC (i:=2) jS.nd rfl (Or.inl rfl) (ay aV bh (aa 1) ah))
   (ai (kA PassesOwn.never (oX (mE (a9 wq (λ_=>vO) (aa 2) (aP az aT rfl T.z_len PySem.boot_len (ab (aa 0) ao)) (aS _)) (k6 (a9 sN (λ_=>t5) (aA ax aB (aA ax aB (aa 0) (aa 2) (λ_ _=>rfl)) ah (λ_ _=>rfl)) (aa 1) (aS _))))) (aq (EW (i:=2) jS.nd rfl (Or.inl rfl) ah u5 (λ_=>yc))))
   (aq (bS (aa 2)))))
theorem pJ {f:Addr} {fd:FuncData} (F:Fun K "renumbered" "renumbered" cG f fd) (T:Txt K mg):FnOk P w K mg base CX0 1 f fd ["rows", "numbers"] (sp3 K mg fQ):=by
 refine dX (N:=["rows", "numbers", "places", "place", "number", "named"]) (k:=0) (body:=iy) rfl rfl rfl F fW λcdv A outer s H E hr=>?_
 unfold iy;exact (ai (aC (i:=2) fW.nd rfl (Or.inr rfl) (HP (gn d8 (λ_=>et) ah) (gn d8 (λ_=>et) ah)))
   (ai (cL rfl PassesOwn.never (mw rfl T.z_enumerate (aa 1)) (eN (n:=2) rfl (aH (aw (i:=3) fW.nd rfl (Or.inl rfl)) (aH (aw (i:=4) fW.nd rfl (Or.inl rfl)) da))) (aq (Al 2 (z_ hr) (aa 4) (aa 3))))
   (ai (gP (i:=5) (sc:=(aj cG)) (outs:=[(0, "rows")]) (is:=[0]) ["number"] (λ_ _ _ q=>oa q) fW.nd rfl (Or.inl rfl) ⟨rfl,rfl,by decide +kernel,by decide +kernel,by decide +kernel,⟨⟨rfl,rfl⟩,trivial⟩⟩ rfl (by decide) (bB (aa 1)) (λ_ _ _ _ _=>(aw (i:=0) (show List.Nodup (["number", "rows"]:List Str) by decide +kernel) rfl (Or.inl rfl))) (λ_ _ _ _ _=>cB) (λ_ _ _ _ _=>(aA ax aB (aa 1) (aa 0) (λ_ _=>rfl))))
   (aq (gN 2 (bS (b7 (sc:=(aj cG)) (outs:=[(2, "places")]) (is:=[0]) ["row"] ⟨rfl,rfl,by decide +kernel,by decide +kernel,by decide +kernel,⟨⟨rfl,rfl⟩,trivial⟩⟩ rfl (by decide) (bB (aa 5)) (λ_ _ _ _ _=>(aw (i:=0) (show List.Nodup (["row", "places"]:List Str) by decide +kernel) rfl (Or.inl rfl))) (λ_ _ _ _ _=>cB) (λ_ _ _ _ _=>(dA (ab (GV (z_ hr) (aa 1) (aA ax aB (aa 0) ah (λ_ _=>rfl)) (λ_ _=>rfl)) (ab (aA ax aB (aa 0) ah (λ_ _=>rfl)) (ab (aA ax aB (aa 0) ah (λ_ _=>rfl)) ao))))))))))))
theorem oS {f:Addr} {fd:FuncData} (F:Fun K "child_leans" "child_leans" cF f fd) (T:Txt K mg):FnOk P w K mg base CX0 1 f fd ["sums"] (sp3 K mg e8):=by
 refine dX (N:=["sums"]) (k:=0) (body:=gu) rfl rfl rfl F oq λcdv A outer s H E hr=>?_
 unfold gu;exact (aq (bS (b7 (sc:=(aj cF)) (outs:=[(0, "sums")]) (is:=[0]) ["place"] ⟨rfl,rfl,by decide +kernel,by decide +kernel,by decide +kernel,⟨⟨rfl,rfl⟩,trivial⟩⟩ rfl (by decide) (sL rfl T.z_range ah (aP az aT rfl T.z_len PySem.boot_len (ab (aa 0) ao))) (λ_ _ _ _ _=>(aw (i:=0) (show List.Nodup (["place", "sums"]:List Str) by decide +kernel) rfl (Or.inl rfl))) (λ_ _ _ _ _=>cB) (λ_ _ _ _ _=>(ay gZ (λ_=>gp) (aP (eT _ rfl rfl) ie rfl T.z_sum PyProof.Rows.boot_sum (ab (kd gQ i6 (aa 1) (fM (aa 0)) gO) ao)) (aP (eT _ rfl rfl) ie rfl T.z_sum PyProof.Rows.boot_sum (ab (kd gQ i6 (aa 1) gO (fM (aa 0))) ao)))))))
theorem oo {f:Addr} {fd:FuncData} (F:Fun K "group_leans" "group_leans" bW f fd) (T:Txt K mg):FnOk P w K mg base CX0 1 f fd ["felt", "group"] (sp3 K mg d9):=by
 refine dX (N:=["felt", "group", "rows"]) (k:=0) (body:=gX) rfl rfl rfl F kq λcdv A outer s H E hr=>?_
 unfold gX;exact (ai (aC (i:=2) kq.nd rfl (Or.inr rfl) (b7 (sc:=(aj bW)) (outs:=[(0, "felt")]) (is:=[0,1,2]) ["node", "like", "mirror"] ⟨rfl,rfl,by decide +kernel,by decide +kernel,by decide +kernel,⟨⟨rfl,rfl⟩,trivial⟩⟩ rfl (by decide) (bB (aa 1)) (λ_ _ _ _ _=>(eN (n:=3) rfl (aH (aw (i:=0) (show List.Nodup (["node", "like", "mirror", "felt"]:List Str) by decide +kernel) rfl (Or.inl rfl)) (aH (aw (i:=1) (show List.Nodup (["node", "like", "mirror", "felt"]:List Str) by decide +kernel) rfl (Or.inl rfl)) (aH (aw (i:=2) (show List.Nodup (["node", "like", "mirror", "felt"]:List Str) by decide +kernel) rfl (Or.inl rfl)) da))))) (λ_ _ _ _ _=>(i5 (hZ (aa 1)))) (λ_ _ _ _ _=>(aA ax aB (aa 3) (aa 0) (λ_ _=>rfl)))))
   (ai (uJ 2 (b7 (sc:=(aj bW)) (outs:=[(0, "felt")]) (is:=[0,1,2]) ["node", "like", "mirror"] ⟨rfl,rfl,by decide +kernel,by decide +kernel,by decide +kernel,⟨⟨rfl,rfl⟩,trivial⟩⟩ rfl (by decide) (bB (aa 1)) (λ_ _ _ _ _=>(eN (n:=3) rfl (aH (aw (i:=0) (show List.Nodup (["node", "like", "mirror", "felt"]:List Str) by decide +kernel) rfl (Or.inl rfl)) (aH (aw (i:=1) (show List.Nodup (["node", "like", "mirror", "felt"]:List Str) by decide +kernel) rfl (Or.inl rfl)) (aH (aw (i:=2) (show List.Nodup (["node", "like", "mirror", "felt"]:List Str) by decide +kernel) rfl (Or.inl rfl)) da))))) (λ_ _ _ _ _=>(i5 (hZ (aa 2)))) (λ_ _ _ _ _=>(bC (uZ (λv u=>[v,u]) (aA ax aB (aa 3) (aa 0) (λ_ _=>rfl)) (gn d8 (λ_=>et) ah))))))
   (aq (gN 2 (bS (o9 (sc:=(aj bW)) (outs:=[(2, "rows")]) (is:=[0]) ["place"] ⟨rfl,rfl,by decide +kernel,by decide +kernel,by decide +kernel,by decide +kernel,⟨⟨rfl,rfl⟩,trivial⟩⟩ rfl (by decide) (i7 rfl T.z_range (aP az aT rfl T.z_len PySem.boot_len (ab (aA ax aB (aa 2) ah (λ_ _=>rfl)) ao))) (λ_ _ _ _ _=>(aw (i:=0) (show List.Nodup (["place", "rows"]:List Str) by decide +kernel) rfl (Or.inr rfl))) (λ_ _ _ _ _=>cB) (λ_ _ _ _ _=>(aP (eT _ rfl rfl) ie rfl T.z_sum PyProof.Rows.boot_sum (ab (b7 (sc:=_) (outs:=[(0, "place")]) (is:=[0]) ["row"] (u6 rfl (by decide +kernel) (by decide +kernel) (by decide +kernel) (show jw _ _ [(0, "place")] from ⟨⟨rfl,rfl⟩,trivial⟩)) rfl (by decide) (bB (aa 1)) (λ_ _ _ _ _=>(aw (i:=0) (show List.Nodup (["row", "place"]:List Str) by decide +kernel) rfl (Or.inl rfl))) (λ_ _ _ _ _=>cB) (λ_ _ _ _ _=>(aA ax aB (aa 0) (aa 1) (λ_ _=>rfl)))) ao)))))))))
theorem qX {f:Addr} {fd:FuncData} (F:Fun K "_law_cell" "_law_cell" cM f fd) (T:Txt K mg):FnOk P w K mg base CX0 1 f fd ["_law_script", "_law_k"] (sp3 K mg bA):=by
 refine dX (N:=["_law_script", "_law_k", "_law_number"]) (k:=0) (body:=iQ) rfl rfl rfl F jY λcdv A outer s H E hr=>?_
 unfold iQ;exact (ai (dk (a9 wq (λ_=>vO) (aa 1) (aP az aT rfl T.z_len PySem.boot_len (ab (aa 0) ao)) (aS _)) (aq (bS (aA ax aB (aa 0) (aa 1) (λ_ _=>rfl)))) bx)
   (ai (aC (i:=2) jY.nd rfl (Or.inl rfl) (ay aV bh (ay de eK ah (aa 1)) ah))
   (ai (dk (a9 l6 (λ_=>lX) (aP az aT rfl T.z_len PySem.boot_len (ab (aa 0) ao)) ah (aS _)) (aq (aC (i:=2) jY.nd rfl (Or.inl rfl) (ay bt (λ_=>br) (ay aV bh (ay de eK (aA ax aB (aa 0) (ay bt (λ_=>br) (aa 1) (aP az aT rfl T.z_len PySem.boot_len (ab (aa 0) ao))) (λ_ _=>rfl)) ah) (ay de eK (aa 1) ah)) ah))) bx)
   (aq (bS (ay bt (λ_=>br) (ay de eK (aa 2) (aa 2)) ah))))))
theorem pv {f:Addr} {fd:FuncData} (F:Fun K "_law_label" "_law_label" dP f fd) (T:Txt K mg):FnOk P w K mg base CX0 1 f fd ["_law_number", "_law_most"] (sp3 K mg eS):=by
 refine dX (N:=["_law_number", "_law_most", "_law_letters", "_law_label_here", "_law_k"]) (k:=0) (body:=iw) rfl rfl rfl F fS λcdv A outer s H E hr=>?_
 unfold iw;exact (ai (aC (i:=2) fS.nd rfl (Or.inl rfl) nU)
   (ai (aC (i:=3) fS.nd rfl (Or.inl rfl) nU)
   (ai (cL rfl PassesOwn.never (i7 rfl T.z_range (ay aV bh ah (ay bt (λ_=>br) (aa 0) (aa 1)))) (aw (i:=4) fS.nd rfl (Or.inl rfl)) (aq (aC (i:=3) fS.nd rfl (Or.inl rfl) (ay aV bh (aa 3) (aA ax aB (aa 2) (ay bt (λ_=>br) (ay bE (λ_=>b8) (aa 0) (ay aV bh ah (ay de eK (ay de eK ah (aa 4)) (aa 4)))) ah) (λ_ _=>rfl))))))
   (aq (bS (aa 3))))))
theorem kG {f:Addr} {fd:FuncData} (F:Fun K "_law_mirror_order" "_law_mirror_order" bq f fd) (T:Txt K mg):FnOk P w K mg base CX0 1 f fd ["_law_tree_here"] (sp3 K mg cQ):=by
 refine dX (N:=["_law_tree_here", "_law_order", "_law_left", "_law_node"]) (k:=0) (body:=dF) rfl rfl rfl F cN λcdv A outer s H E hr=>?_
 unfold dF;exact (ai (aC (i:=1) cN.nd rfl (Or.inl rfl) (bO ao))
   (ai (aC (i:=2) cN.nd rfl (Or.inl rfl) (bO (ab ah ao)))
   (ai (kA PassesOwn.never (rK (a9 (lE hr.units) nT (aa 2) (bO ao) (aS _))) (ai (uR 2 (aw (i:=3) cN.nd rfl (Or.inr rfl)))
   (ai (e9 1 (aa 3))
   (aq (gN 2 (aC (i:=2) cN.nd rfl (Or.inl rfl) (ay aV bh (aa 2) (b7 (sc:=(aj bq)) (outs:=[(0, "_law_tree_here"),(3, "_law_node")]) (is:=[0]) ["_law_k"] ⟨rfl,rfl,by decide +kernel,by decide +kernel,by decide +kernel,⟨⟨rfl,rfl⟩,⟨rfl,rfl⟩,trivial⟩⟩ rfl (by decide) (sL rfl T.z_range (ay aV bh (aa 3) ah) (aP az aT rfl T.z_len PySem.boot_len (ab (aa 0) ao))) (λ_ _ _ _ _=>(aw (i:=0) (show List.Nodup (["_law_k", "_law_tree_here", "_law_node"]:List Str) by decide +kernel) rfl (Or.inl rfl))) (λ_ _ _ _ _=>(i5 (a9 (cm hr.units) dH (aA ax aB (aA ax aB (aa 1) (aa 0) (λ_ _=>rfl)) ah (λ_ _=>rfl)) (aa 2) (aS _)))) (λ_ _ _ _ _=>(aa 0))))))))))
   (aq (dQ 1)))))
theorem qJ {f:Addr} {fd:FuncData} (F:Fun K "_law_hung" "_law_hung" eD f fd) (T:Txt K mg):FnOk P w K mg base CX0 1 f fd ["_law_tree_here", "_law_shift"] (sp3 K mg gD):=by
 refine dX (N:=["_law_tree_here", "_law_shift", "_law_found", "_law_elder", "_law_label_here", "_law_tall"]) (k:=0) (body:=iJ) rfl rfl rfl F gz λcdv A outer s H E hr=>?_
 unfold iJ;exact (ai (aC (i:=2) gz.nd rfl (Or.inl rfl) (bO (ab (dA (ab ah (ab (aA ax aB (aA ax aB (aa 0) ah (λ_ _=>rfl)) ah (λ_ _=>rfl)) (ab (aA ax aB (aA ax aB (aa 0) ah (λ_ _=>rfl)) ah (λ_ _=>rfl)) ao)))) ao)))
   (ai (cL rfl PassesOwn.never (bB (kd gQ i6 (aa 0) (fM ah) gO)) (eN (n:=3) rfl (aH (aw (i:=3) gz.nd rfl (Or.inl rfl)) (aH (aw (i:=4) gz.nd rfl (Or.inl rfl)) (aH (aw (i:=5) gz.nd rfl (Or.inl rfl)) da)))) (aq (e9 2 (bC (dA (ab (ay aV bh (aa 3) (aa 1)) (ab (aa 4) (ab (aa 5) ao))))))))
   (aq (dQ 2))))
theorem o_ {f:Addr} {fd:FuncData} (F:Fun K "_law_levels" "_law_levels" bX f fd) (T:Txt K mg):FnOk P w K mg base CX0 1 f fd ["_law_tree_here"] (sp3 K mg bL):=by
 refine dX (N:=["_law_tree_here", "_law_level", "_law_elder", "_law_label_here", "_law_tall"]) (k:=0) (body:=gF) rfl rfl rfl F fA λcdv A outer s H E hr=>?_
 unfold gF;exact (ai (aC (i:=1) fA.nd rfl (Or.inr rfl) (bO (ab ah ao)))
   (ai (cL rfl PassesOwn.never (bB (kd gQ i6 (aa 0) (fM ah) gO)) (eN (n:=3) rfl (aH (aw (i:=2) fA.nd rfl (Or.inl rfl)) (aH (aw (i:=3) fA.nd rfl (Or.inl rfl)) (aH (aw (i:=4) fA.nd rfl (Or.inl rfl)) da)))) (aq (e9 1 (fP (ay aV bh (aA ax aB (aa 1) (aa 2) (λ_ _=>rfl)) ah)))))
   (aq (gN 1 (bS (o9 (sc:=(aj bX)) (outs:=[(0, "_law_tree_here"),(1, "_law_level")]) (is:=[0]) ["_law_j"] ⟨rfl,rfl,by decide +kernel,by decide +kernel,by decide +kernel,by decide +kernel,⟨⟨rfl,rfl⟩,⟨rfl,rfl⟩,trivial⟩⟩ rfl (by decide) (i7 rfl T.z_range (ay aV bh (aP (xt _ rfl rfl) BD rfl T.z_max PyProof.Rows.boot_max (ab (aa 1) ao)) ah)) (λ_ _ _ _ _=>(aw (i:=0) (show List.Nodup (["_law_j", "_law_tree_here", "_law_level"]:List Str) by decide +kernel) rfl (Or.inr rfl))) (λ_ _ _ _ _=>cB) (λ_ _ _ _ _=>(bC (b7 (sc:=_) (outs:=[(2, "_law_level"),(0, "_law_j")]) (is:=[0]) ["_law_k"] (u6 rfl (by decide +kernel) (by decide +kernel) (by decide +kernel) (show jw _ _ [(2, "_law_level"),(0, "_law_j")] from ⟨⟨rfl,rfl⟩,⟨rfl,rfl⟩,trivial⟩)) rfl (by decide) (i7 rfl T.z_range (aP az aT rfl T.z_len PySem.boot_len (ab (aa 1) ao))) (λ_ _ _ _ _=>(aw (i:=0) (show List.Nodup (["_law_k", "_law_level", "_law_j"]:List Str) by decide +kernel) rfl (Or.inl rfl))) (λ_ _ _ _ _=>(i5 (a9 (cm hr.units) dH (aA ax aB (aa 1) (aa 0) (λ_ _=>rfl)) (aa 2) (aS _)))) (λ_ _ _ _ _=>(aa 0)))))))))))
theorem mO {f:Addr} {fd:FuncData} (F:Fun K "_law_children" "_law_children" bM f fd) (T:Txt K mg):FnOk P w K mg base CX0 1 f fd ["_law_tree_here"] (sp3 K mg cD):=by
 refine dX (N:=["_law_tree_here", "_law_some", "_law_k"]) (k:=0) (body:=fO) rfl rfl rfl F hR λcdv A outer s H E hr=>?_
 unfold fO;exact (ai (gP (i:=1) (sc:=(aj bM)) (outs:=[]) (is:=[0]) ["_law_row"] (λ_ _ _ q=>q) hR.nd rfl (Or.inl rfl) ⟨rfl,rfl,by decide +kernel,by decide +kernel,by decide +kernel,trivial⟩ rfl (by decide) (bB (aa 0)) (λ_ _ _ _ _=>(aw (i:=0) (show List.Nodup (["_law_row"]:List Str) by decide +kernel) rfl (Or.inl rfl))) (λ_ _ _ _ _=>cB) (λ_ _ _ _ _=>(bO ao)))
   (ai (cL rfl PassesOwn.never (sL rfl T.z_range ah (aP az aT rfl T.z_len PySem.boot_len (ab (aa 0) ao))) (aw (i:=2) hR.nd rfl (Or.inl rfl)) (aq (sE 1 (aA ax aB (aA ax aB (aa 0) (aa 2) (λ_ _=>rfl)) ah (λ_ _=>rfl)) (aa 2) (λ_ _=>rfl))))
   (aq (dQ 1))))
theorem oy {f:Addr} {fd:FuncData} (F:Fun K "_law_copied" "_law_copied" b_ f fd) (T:Txt K mg):FnOk P w K mg base CX0 1 f fd ["_law_pulls"] (sp3 K mg bz):=by
 refine dX (N:=["_law_pulls"]) (k:=0) (body:=eM) rfl rfl rfl F nR λcdv A outer s H E hr=>?_
 unfold eM;exact (aq (bS (dA (ab (n9 (g_ _ rfl) lB rfl T.z_list jZ (ab (aA ax aB (aa 0) ah (λ_ _=>rfl)) ao)) (ab (n9 (g_ _ rfl) lB rfl T.z_list jZ (ab (aA ax aB (aa 0) ah (λ_ _=>rfl)) ao)) (ab (n9 (g_ _ rfl) lB rfl T.z_list jZ (ab (aA ax aB (aa 0) ah (λ_ _=>rfl)) ao)) ao))))))
theorem ub {f:Addr} {fd:FuncData} (F:Fun K "_law_key" "_law_key" eJ f fd) (T:Txt K mg):FnOk P w K mg base CX0 1 f fd ["_law_tree_here", "_law_some", "_law_node", "_law_turned"] (sp3 K mg dE):=by
 refine dX (N:=["_law_tree_here", "_law_some", "_law_node", "_law_turned", "_law_found", "_law_left", "_law_at", "_law_elder", "_law_parts"]) (k:=0) (body:=jj) rfl rfl rfl F eA λcdv A outer s H E hr=>?_
 unfold jj;exact (ai (aC (i:=4) eA.nd rfl (Or.inr rfl) (bO ao))
   (ai (aC (i:=5) eA.nd rfl (Or.inl rfl) (bO (ab (dA (ab (aa 2) (ab (gn d8 (λ_=>et) ah) ao))) ao)))
   (ai (kA PassesOwn.never (rK (a9 (lE hr.units) nT (aa 5) (bO ao) (aS _))) (ai (uR 5 (eN (n:=2) rfl (aH (aw (i:=6) eA.nd rfl (Or.inl rfl)) (aH (aw (i:=7) eA.nd rfl (Or.inl rfl)) da))))
   (ai (e9 4 (dA (ab (aa 7) (ab (ay bE (λ_=>b8) (aP az aT rfl T.z_len PySem.boot_len (ab (aA ax aB (aA ax aB (aa 0) (aa 6) (λ_ _=>rfl)) ah (λ_ _=>rfl)) ao)) ah) ao))))
   (ai (aC (i:=8) eA.nd rfl (Or.inl rfl) (aA ax aB (aa 1) (aa 6) (λ_ _=>rfl)))
   (ai (dk (kM (hZ (aa 3))) (aq (aC (i:=8) eA.nd rfl (Or.inl rfl) (bC (uZ (λv u=>[v,u]) (aa 8) (gn d8 (λ_=>et) ah))))) bx)
   (aq (gN 5 (aC (i:=5) eA.nd rfl (Or.inl rfl) (Bt 4 (ay aV bh (aa 5) (b7 (sc:=(aj eJ)) (outs:=[(4, "_law_found")]) (is:=[0]) ["_law_child"] ⟨rfl,rfl,by decide +kernel,by decide +kernel,by decide +kernel,⟨⟨rfl,rfl⟩,trivial⟩⟩ rfl (by decide) (bB (aa 8)) (λ_ _ _ _ _=>(aw (i:=0) (show List.Nodup (["_law_child", "_law_found"]:List Str) by decide +kernel) rfl (Or.inl rfl))) (λ_ _ _ _ _=>cB) (λ_ _ _ _ _=>(dA (ab (aa 0) (ab (ay gZ (λ_=>gp) (aP az aT rfl T.z_len PySem.boot_len (ab (aa 1) ao)) ah) ao)))))))))))))))
   (aq (dQ 4)))))
theorem uU {f:Addr} {fd:FuncData} (F:Fun K "_law_is" "_law_is" fK f fd) (T:Txt K mg):FnOk P w K mg base CX0 1 f fd ["_law_found", "_law_due"] (sp3 K mg cV):=by
 refine dX (N:=["_law_found", "_law_due"]) (k:=0) (body:=jP) rfl rfl rfl F uA λcdv A outer s H E hr=>?_
 unfold jP;exact (aq (bS (kP (CW rfl T.z_isinstance rfl T.z_bool AD (aa 0)) (ky (kh (cm hr.units) dH (aa 0) (aa 1) (aS _))))))
theorem oY {f:Addr} {fd:FuncData} (F:Fun K "children_of" "children_of" bZ f fd) (T:Txt K mg) {A1:Addr} {B1:FuncData} (X1:Def K mg "check_node" c6 ["tree", "node"] A1 B1) (Y1:FnOk P w K mg base CX0 1 A1 B1 ["tree", "node"] (sp3 K mg dW)):FnOk P w K mg base CX0 2 f fd ["tree", "node"] (sp3 K mg cn):=by
 refine dX (N:=["tree", "node"]) (k:=1) (body:=gE) rfl rfl rfl F o6 λcdv A outer s H E hr=>?_
 unfold gE;exact (ai (vA (aE Y1 (hr.mono (by decide)) rfl X1.g X1.F.kp X1.b aU (ab (aa 0) (ab (aa 1) ao))))
   (aq (bS (b7 (sc:=(aj bZ)) (outs:=[(1, "node")]) (is:=[0,1]) ["number", "row"] ⟨rfl,rfl,by decide +kernel,by decide +kernel,by decide +kernel,⟨⟨rfl,rfl⟩,trivial⟩⟩ rfl (by decide) (mw rfl T.z_enumerate (aa 0)) (λ_ _ _ _ _=>(eN (n:=2) rfl (aH (aw (i:=0) (show List.Nodup (["number", "row", "node"]:List Str) by decide +kernel) rfl (Or.inl rfl)) (aH (aw (i:=1) (show List.Nodup (["number", "row", "node"]:List Str) by decide +kernel) rfl (Or.inl rfl)) da)))) (λ_ _ _ _ _=>(i5 (a9 (cm hr.units) dH (aA ax aB (aa 1) ah (λ_ _=>rfl)) (aa 2) (aS _)))) (λ_ _ _ _ _=>(aa 0))))))
theorem rC {f:Addr} {fd:FuncData} (F:Fun K "levels_of" "levels_of" dh f fd) (T:Txt K mg) {A2:Addr} {B2:FuncData} (X2:Def K mg "node_levels" df ["tree"] A2 B2) (Y2:FnOk P w K mg base CX0 1 A2 B2 ["tree"] (sp3 K mg fq)):FnOk P w K mg base CX0 2 f fd ["tree"] (sp3 K mg cE):=by
 refine dX (N:=["tree", "numbers", "node", "level"]) (k:=1) (body:=iR) rfl rfl rfl F iK λcdv A outer s H E hr=>?_
 unfold iR;exact (ai (aC (i:=1) iK.nd rfl (Or.inl rfl) (bO ao))
   (ai (cL rfl PassesOwn.never (mw rfl T.z_enumerate (aE Y2 (hr.mono (by decide)) rfl X2.g X2.F.kp X2.b aU (ab (aa 0) ao))) (eN (n:=2) rfl (aH (aw (i:=2) iK.nd rfl (Or.inl rfl)) (aH (aw (i:=3) iK.nd rfl (Or.inl rfl)) da))) (ai (dk (rK (a9 (cm hr.units) dH (aa 3) (aP az aT rfl T.z_len PySem.boot_len (ab (aa 1) ao)) (aS _))) (aq (e9 1 (bO ao))) bx)
   (aq (sE 1 (aa 3) (aa 2) (λ_ _=>rfl)))))
   (aq (dQ 1))))
theorem tP {f:Addr} {fd:FuncData} (F:Fun K "bough_of" "bough_of" fu f fd) (T:Txt K mg) {A1:Addr} {B1:FuncData} (X1:Def K mg "check_node" c6 ["tree", "node"] A1 B1) (Y1:FnOk P w K mg base CX0 1 A1 B1 ["tree", "node"] (sp3 K mg dW)) {A4:Addr} {B4:FuncData} (X4:Def K mg "bough_end" eF ["tree", "node"] A4 B4) (Y4:FnOk P w K mg base CX0 1 A4 B4 ["tree", "node"] (sp3 K mg gW)):FnOk P w K mg base CX0 2 f fd ["tree", "node"] (sp3 K mg gh):=by
 refine dX (N:=["tree", "node", "bough", "row"]) (k:=1) (body:=jh) rfl rfl rfl F ku λcdv A outer s H E hr=>?_
 unfold jh;exact (ai (vA (aE Y1 (hr.mono (by decide)) rfl X1.g X1.F.kp X1.b aU (ab (aa 0) (ab (aa 1) ao))))
   (ai (aC (i:=2) ku.nd rfl (Or.inl rfl) (bO (ab (dA (ab (gn d8 (λ_=>et) ah) (ab (aA ax aB (aA ax aB (aa 0) (aa 1) (λ_ _=>rfl)) ah (λ_ _=>rfl)) (ab (aA ax aB (aA ax aB (aa 0) (aa 1) (λ_ _=>rfl)) ah (λ_ _=>rfl)) ao)))) ao)))
   (ai (cL rfl PassesOwn.never (bB (kd gQ i6 (aa 0) (fM (ay aV bh (aa 1) ah)) (fM (aE Y4 (hr.mono (by decide)) rfl X4.g X4.F.kp X4.b aU (ab (aa 0) (ab (aa 1) ao)))))) (aw (i:=3) ku.nd rfl (Or.inl rfl)) (aq (e9 2 (dA (ab (ay gZ (λ_=>gp) (aA ax aB (aa 3) ah (λ_ _=>rfl)) (aa 1)) (ab (aA ax aB (aa 3) ah (λ_ _=>rfl)) (ab (aA ax aB (aa 3) ah (λ_ _=>rfl)) ao)))))))
   (aq (dQ 2)))))
theorem uE {f:Addr} {fd:FuncData} (F:Fun K "form_of" "form_of" fH f fd) (T:Txt K mg) {A3:Addr} {B3:FuncData} (X3:Def K mg "reaches" fL ["tree"] A3 B3) (Y3:FnOk P w K mg base CX0 1 A3 B3 ["tree"] (sp3 K mg iW)):FnOk P w K mg base CX0 2 f fd ["bough"] (sp3 K mg f6):=by
 refine dX (N:=["bough", "elders"]) (k:=1) (body:=jT) rfl rfl rfl F oM λcdv A outer s H E hr=>?_
 unfold jT;exact (ai (gP (i:=1) (sc:=(aj fH)) (outs:=[]) (is:=[0]) ["row"] (λ_ _ _ q=>oa q) oM.nd rfl (Or.inl rfl) ⟨rfl,rfl,by decide +kernel,by decide +kernel,by decide +kernel,trivial⟩ rfl (by decide) (bB (aa 0)) (λ_ _ _ _ _=>(aw (i:=0) (show List.Nodup (["row"]:List Str) by decide +kernel) rfl (Or.inl rfl))) (λ_ _ _ _ _=>cB) (λ_ _ _ _ _=>(aA ax aB (aa 0) ah (λ_ _=>rfl))))
   (aq (bS (dA (ab (aa 1) (ab (bC (aE Y3 (hr.mono (by decide)) rfl X3.g X3.F.kp X3.b aU (ab (aa 0) ao))) ao))))))
theorem qp {f:Addr} {fd:FuncData} (F:Fun K "_law_tree" "_law_tree" eI f fd) (T:Txt K mg) {A8:Addr} {B8:FuncData} (X8:Def K mg "_law_cell" cM ["_law_script", "_law_k"] A8 B8) (Y8:FnOk P w K mg base CX0 1 A8 B8 ["_law_script", "_law_k"] (sp3 K mg bA)) {A9:Addr} {B9:FuncData} (X9:Def K mg "_law_label" dP ["_law_number", "_law_most"] A9 B9) (Y9:FnOk P w K mg base CX0 1 A9 B9 ["_law_number", "_law_most"] (sp3 K mg eS)):FnOk P w K mg base CX0 2 f fd ["_law_script", "_law_start", "_law_many", "_law_most", "_law_deep"] (sp3 K mg gL):=by
 refine dX (N:=["_law_script", "_law_start", "_law_many", "_law_most", "_law_deep", "_law_tree_here", "_law_way", "_law_k", "_law_number", "_law_keep"]) (k:=1) (body:=iO) rfl rfl rfl F c_ λcdv A outer s H E hr=>?_
 unfold iO;exact (ai (aC (i:=5) c_.nd rfl (Or.inl rfl) (bO ao))
   (ai (aC (i:=6) c_.nd rfl (Or.inl rfl) (bC (bO ao)))
   (ai (cL rfl PassesOwn.never (i7 rfl T.z_range (aa 2)) (aw (i:=7) c_.nd rfl (Or.inl rfl)) (ai (aC (i:=8) c_.nd rfl (Or.inl rfl) (ay bt (λ_=>br) (ay de eK (aE Y8 (hr.mono (by decide)) rfl X8.g X8.F.kp X8.b aU (ab (aa 0) (ab (ay aV bh (aa 1) (aa 7)) ao))) ah) ah))
   (ai (dk (a9 l6 (λ_=>lX) (aa 7) ah (aS _)) (ai (aC (i:=9) c_.nd rfl (Or.inl rfl) (ay aV bh ah (ay bt (λ_=>br) (aa 8) (aP az aT rfl T.z_len PySem.boot_len (ab (aa 6) ao)))))
   (ai (dk (a9 (cm hr.units) dH (ay bt (λ_=>br) (ay bE (λ_=>b8) (aa 8) ah) ah) ah (aS _)) (aq (aC (i:=9) c_.nd rfl (Or.inl rfl) (aP az aT rfl T.z_len PySem.boot_len (ab (aa 6) ao)))) bx)
   (ai (aC (i:=6) c_.nd rfl (Or.inl rfl) (bC (kd gQ i6 (aa 6) gO (fM (aP (mG rfl) (λ_=>rA) rfl T.z_min PyProof.Rows.boot_min (ab (aa 9) (ab (aa 4) ao)))))))
   (aq (e9 5 (bC (dA (ab (aA ax aB (aa 6) (gn d8 (λ_=>et) ah) (λ_ _=>rfl)) (ab (bC (aE Y9 (hr.mono (by decide)) rfl X9.g X9.F.kp X9.b aU (ab (ay bE (λ_=>b8) (aa 8) ah) (ab (aa 3) ao)))) (ab (ay aV bh ah (ay bt (λ_=>br) (ay bE (λ_=>b8) (aa 8) ah) ah)) ao)))))))))) (aq (e9 5 (bC (dA (ab (gn d8 (λ_=>et) ah) (ab (bC (aE Y9 (hr.mono (by decide)) rfl X9.g X9.F.kp X9.b aU (ab (ay bE (λ_=>b8) (aa 8) ah) (ab (aa 3) ao)))) (ab (ay aV bh ah (ay bt (λ_=>br) (ay bE (λ_=>b8) (aa 8) ah) ah)) ao))))))))
   (aq (aC (i:=6) c_.nd rfl (Or.inl rfl) (bC (ay aV bh (aa 6) (bO (ab (aa 7) ao)))))))))
   (aq (dQ 5)))))
theorem k8 {f:Addr} {fd:FuncData} (F:Fun K "_law_mirror_tree" "_law_mirror_tree" bK f fd) (T:Txt K mg) {A10:Addr} {B10:FuncData} (X10:Def K mg "_law_mirror_order" bq ["_law_tree_here"] A10 B10) (Y10:FnOk P w K mg base CX0 1 A10 B10 ["_law_tree_here"] (sp3 K mg cQ)):FnOk P w K mg base CX0 2 f fd ["_law_tree_here"] (sp3 K mg cY):=by
 refine dX (N:=["_law_tree_here", "_law_order", "_law_found", "_law_node", "_law_elder", "_law_label_here", "_law_tall"]) (k:=1) (body:=d4) rfl rfl rfl F bF λcdv A outer s H E hr=>?_
 unfold d4;exact (ai (aC (i:=1) bF.nd rfl (Or.inl rfl) (bC (aE Y10 (hr.mono (by decide)) rfl X10.g X10.F.kp X10.b aU (ab (aa 0) ao))))
   (ai (aC (i:=2) bF.nd rfl (Or.inl rfl) (bO ao))
   (ai (cL rfl PassesOwn.never (bB (aa 1)) (aw (i:=3) bF.nd rfl (Or.inl rfl)) (ai (uO (aA ax aB (aa 0) (aa 3) (λ_ _=>rfl)) (eN (n:=3) rfl (aH (aw (i:=4) bF.nd rfl (Or.inl rfl)) (aH (aw (i:=5) bF.nd rfl (Or.inl rfl)) (aH (aw (i:=6) bF.nd rfl (Or.inl rfl)) da)))))
   (ai (dk (a9 sN (λ_=>t5) (aa 4) ah (aS _)) (aq (aC (i:=4) bF.nd rfl (Or.inl rfl) (xQ (aa 1) (aa 4)))) bx)
   (aq (e9 2 (dA (ab (aa 4) (ab (aa 5) (ab (aa 6) ao)))))))))
   (aq (dQ 2)))))
theorem lH {f:Addr} {fd:FuncData} (F:Fun K "_law_relabelled" "_law_relabelled" bT f fd) (T:Txt K mg) {A8:Addr} {B8:FuncData} (X8:Def K mg "_law_cell" cM ["_law_script", "_law_k"] A8 B8) (Y8:FnOk P w K mg base CX0 1 A8 B8 ["_law_script", "_law_k"] (sp3 K mg bA)):FnOk P w K mg base CX0 2 f fd ["_law_tree_here", "_law_script", "_law_start"] (sp3 K mg cC):=by
 refine dX (N:=["_law_tree_here", "_law_script", "_law_start", "_law_found", "_law_k", "_law_number", "_law_size", "_law_letters", "_law_label_here", "_law_j"]) (k:=1) (body:=eL) rfl rfl rfl F bu λcdv A outer s H E hr=>?_
 unfold eL;exact (ai (aC (i:=3) bu.nd rfl (Or.inl rfl) (bO ao))
   (ai (cL rfl PassesOwn.never (i7 rfl T.z_range (aP az aT rfl T.z_len PySem.boot_len (ab (aa 0) ao))) (aw (i:=4) bu.nd rfl (Or.inl rfl)) (ai (aC (i:=5) bu.nd rfl (Or.inl rfl) (ay bt (λ_=>br) (ay de eK (aE Y8 (hr.mono (by decide)) rfl X8.g X8.F.kp X8.b aU (ab (aa 1) (ab (ay aV bh (aa 2) (aa 4)) ao))) ah) ah))
   (ai (aC (i:=6) bu.nd rfl (Or.inl rfl) (ay aV bh (ay de eK (ay bE (λ_=>b8) (aP az aT rfl T.z_len PySem.boot_len (ab (aA ax aB (aA ax aB (aa 0) (aa 4) (λ_ _=>rfl)) ah (λ_ _=>rfl)) ao)) ah) ah) (ay bt (λ_=>br) (aa 5) ah)))
   (ai (aC (i:=7) bu.nd rfl (Or.inl rfl) nU)
   (ai (aC (i:=8) bu.nd rfl (Or.inl rfl) nU)
   (ai (cL rfl PassesOwn.never (i7 rfl T.z_range (aP (qh rfl) (λ_=>wc) rfl T.z_max PyProof.Rows.boot_max (ab ah (ab (aP (mG rfl) (λ_=>rA) rfl T.z_min PyProof.Rows.boot_min (ab (aa 6) (ab ah ao))) ao)))) (aw (i:=9) bu.nd rfl (Or.inl rfl)) (aq (aC (i:=8) bu.nd rfl (Or.inl rfl) (ay aV bh (aa 8) (aA ax aB (aa 7) (ay bt (λ_=>br) (ay bE (λ_=>b8) (aa 5) (ay aV bh ah (ay de eK (ay de eK ah (aa 9)) (aa 9)))) ah) (λ_ _=>rfl))))))
   (aq (e9 3 (bC (dA (ab (aA ax aB (aA ax aB (aa 0) (aa 4) (λ_ _=>rfl)) ah (λ_ _=>rfl)) (ab (aa 8) (ab (ay aV bh ah (ay bt (λ_=>br) (ay bE (λ_=>b8) (aa 5) ah) ah)) ao)))))))))))))
   (aq (dQ 3))))
theorem lA {f:Addr} {fd:FuncData} (F:Fun K "_law_node_pulls" "_law_node_pulls" bU f fd) (T:Txt K mg) {A12:Addr} {B12:FuncData} (X12:Def K mg "_law_levels" bX ["_law_tree_here"] A12 B12) (Y12:FnOk P w K mg base CX0 1 A12 B12 ["_law_tree_here"] (sp3 K mg bL)):FnOk P w K mg base CX0 2 f fd ["_law_tree_here", "_law_pulls"] (sp3 K mg dt):=by
 refine dX (N:=["_law_tree_here", "_law_pulls", "_law_found", "_law_at", "_law_level", "_law_k"]) (k:=1) (body:=eQ) rfl rfl rfl F dq λcdv A outer s H E hr=>?_
 unfold eQ;exact (ai (aC (i:=2) dq.nd rfl (Or.inl rfl) (n9 (g_ _ rfl) lB rfl T.z_list jZ (ab (aA ax aB (aa 1) ah (λ_ _=>rfl)) ao)))
   (ai (cL rfl PassesOwn.never (mw rfl T.z_enumerate (aE Y12 (hr.mono (by decide)) rfl X12.g X12.F.kp X12.b aU (ab (aa 0) ao))) (eN (n:=2) rfl (aH (aw (i:=3) dq.nd rfl (Or.inl rfl)) (aH (aw (i:=4) dq.nd rfl (Or.inl rfl)) da))) (ai (gG 2 (aA ax aB (aa 4) ah (λ_ _=>rfl)) (fP (ay aV bh (aA ax aB (aa 2) (aA ax aB (aa 4) ah (λ_ _=>rfl)) (λ_ _=>rfl)) (aA ax aB (aA ax aB (aa 1) ah (λ_ _=>rfl)) (aa 3) (λ_ _=>rfl)))))
   (ai (gG 2 (aA ax aB (aa 4) (gn d8 (λ_=>et) ah) (λ_ _=>rfl)) (fP (ay gZ (λ_=>gp) (aA ax aB (aa 2) (aA ax aB (aa 4) (gn d8 (λ_=>et) ah) (λ_ _=>rfl)) (λ_ _=>rfl)) (aA ax aB (aA ax aB (aa 1) ah (λ_ _=>rfl)) (aa 3) (λ_ _=>rfl)))))
   (aq (cL rfl PassesOwn.never (sL rfl T.z_range ah (aP az aT rfl T.z_len PySem.boot_len (ab (aa 4) ao))) (aw (i:=5) dq.nd rfl (Or.inl rfl)) (aq (gG 2 (aA ax aB (aa 4) (ay gZ (λ_=>gp) (aa 5) ah) (λ_ _=>rfl)) (fP (ay gZ (λ_=>gp) (aA ax aB (aa 2) (aA ax aB (aa 4) (ay gZ (λ_=>gp) (aa 5) ah) (λ_ _=>rfl)) (λ_ _=>rfl)) (aA ax aB (aA ax aB (aa 1) ah (λ_ _=>rfl)) (aA ax aB (aa 4) (aa 5) (λ_ _=>rfl)) (λ_ _=>rfl)))))))))))
   (aq (dQ 2))))
theorem k_ {f:Addr} {fd:FuncData} (F:Fun K "_law_groups_calm" "_law_groups_calm" aQ f fd) (T:Txt K mg) {A13:Addr} {B13:FuncData} (X13:Def K mg "_law_children" bM ["_law_tree_here"] A13 B13) (Y13:FnOk P w K mg base CX0 1 A13 B13 ["_law_tree_here"] (sp3 K mg cD)) {A15:Addr} {B15:FuncData} (X15:Def K mg "_law_key" eJ ["_law_tree_here", "_law_some", "_law_node", "_law_turned"] A15 B15) (Y15:FnOk P w K mg base CX0 1 A15 B15 ["_law_tree_here", "_law_some", "_law_node", "_law_turned"] (sp3 K mg dE)):FnOk P w K mg base CX0 2 f fd ["_law_tree_here", "_law_rows"] (sp3 K mg cX):=by
 refine dX (N:=["_law_tree_here", "_law_rows", "_law_some", "_law_wide", "_law_keys", "_law_others", "_law_j", "_law_total", "_law_k", "_law_row"]) (k:=1) (body:=dZ) rfl rfl rfl F aX λcdv A outer s H E hr=>?_
 unfold dZ;exact (ai (aC (i:=2) aX.nd rfl (Or.inr rfl) (bC (aE Y13 (hr.mono (by decide)) rfl X13.g X13.F.kp X13.b aU (ab (aa 0) ao))))
   (ai (gP (i:=3) (sc:=(aj aQ)) (outs:=[(2, "_law_some")]) (is:=[0]) ["_law_k"] (λ_ _ _ q=>oa q) aX.nd rfl (Or.inl rfl) ⟨rfl,rfl,by decide +kernel,by decide +kernel,by decide +kernel,⟨⟨rfl,rfl⟩,trivial⟩⟩ rfl (by decide) (i7 rfl T.z_range (aP az aT rfl T.z_len PySem.boot_len (ab (aa 0) ao))) (λ_ _ _ _ _=>(aw (i:=0) (show List.Nodup (["_law_k", "_law_some"]:List Str) by decide +kernel) rfl (Or.inl rfl))) (λ_ _ _ _ _=>(i5 (a9 l6 (λ_=>lX) (aP az aT rfl T.z_len PySem.boot_len (ab (aA ax aB (aa 1) (aa 0) (λ_ _=>rfl)) ao)) ah (aS _)))) (λ_ _ _ _ _=>(aa 0)))
   (ai (gP (i:=4) (sc:=(aj aQ)) (outs:=[(0, "_law_tree_here"),(2, "_law_some")]) (is:=[0]) ["_law_node"] (λ_ _ _ q=>oa q) aX.nd rfl (Or.inl rfl) ⟨rfl,rfl,by decide +kernel,by decide +kernel,by decide +kernel,⟨⟨rfl,rfl⟩,⟨rfl,rfl⟩,trivial⟩⟩ rfl (by decide) (bB (aa 3)) (λ_ _ _ _ _=>(aw (i:=0) (show List.Nodup (["_law_node", "_law_tree_here", "_law_some"]:List Str) by decide +kernel) rfl (Or.inl rfl))) (λ_ _ _ _ _=>cB) (λ_ _ _ _ _=>(bC (aE Y15 (hr.mono (by decide)) rfl X15.g X15.F.kp X15.b aU (ab (aa 1) (ab (aa 2) (ab (aa 0) (ab jb ao))))))))
   (ai (gP (i:=5) (sc:=(aj aQ)) (outs:=[(0, "_law_tree_here"),(2, "_law_some")]) (is:=[0]) ["_law_node"] (λ_ _ _ q=>oa q) aX.nd rfl (Or.inl rfl) ⟨rfl,rfl,by decide +kernel,by decide +kernel,by decide +kernel,⟨⟨rfl,rfl⟩,⟨rfl,rfl⟩,trivial⟩⟩ rfl (by decide) (bB (aa 3)) (λ_ _ _ _ _=>(aw (i:=0) (show List.Nodup (["_law_node", "_law_tree_here", "_law_some"]:List Str) by decide +kernel) rfl (Or.inl rfl))) (λ_ _ _ _ _=>cB) (λ_ _ _ _ _=>(bC (aE Y15 (hr.mono (by decide)) rfl X15.g X15.F.kp X15.b aU (ab (aa 1) (ab (aa 2) (ab (aa 0) (ab jb ao))))))))
   (ai (cL rfl PassesOwn.never (i7 rfl T.z_range (aP az aT rfl T.z_len PySem.boot_len (ab (aa 3) ao))) (aw (i:=6) aX.nd rfl (Or.inl rfl)) (ai (aC (i:=7) aX.nd rfl (Or.inl rfl) (bC (ay de eK (bO (ab ah ao)) (aP az aT rfl T.z_len PySem.boot_len (ab (aA ax aB (aa 1) (aA ax aB (aa 3) (aa 6) (λ_ _=>rfl)) (λ_ _=>rfl)) ao)))))
   (ai (cL rfl PassesOwn.never (i7 rfl T.z_range (aP az aT rfl T.z_len PySem.boot_len (ab (aa 3) ao))) (aw (i:=8) aX.nd rfl (Or.inl rfl)) (ai (aC (i:=9) aX.nd rfl (Or.inl rfl) (aA ax aB (aa 1) (aA ax aB (aa 3) (aa 8) (λ_ _=>rfl)) (λ_ _=>rfl)))
   (ai (dk (a9 (cm hr.units) dH (aA ax aB (aa 4) (aa 8) (λ_ _=>rfl)) (aA ax aB (aa 4) (aa 6) (λ_ _=>rfl)) (aS _)) (aq (gP (i:=7) (sc:=(aj aQ)) (outs:=[]) (is:=[0,1]) ["_law_here", "_law_there"] (λ_ _ _ q=>oa q) aX.nd rfl (Or.inl rfl) ⟨rfl,rfl,by decide +kernel,by decide +kernel,by decide +kernel,trivial⟩ rfl (by decide) (ui rfl T.z_zip (aa 7) (aa 9)) (λ_ _ _ _ _=>(eN (n:=2) rfl (aH (aw (i:=0) (show List.Nodup (["_law_here", "_law_there"]:List Str) by decide +kernel) rfl (Or.inl rfl)) (aH (aw (i:=1) (show List.Nodup (["_law_here", "_law_there"]:List Str) by decide +kernel) rfl (Or.inl rfl)) da)))) (λ_ _ _ _ _=>cB) (λ_ _ _ _ _=>(ay aV bh (aa 0) (aa 1))))) bx)
   (aq (dk (a9 (cm hr.units) dH (aA ax aB (aa 5) (aa 8) (λ_ _=>rfl)) (aA ax aB (aa 4) (aa 6) (λ_ _=>rfl)) (aS _)) (aq (gP (i:=7) (sc:=(aj aQ)) (outs:=[]) (is:=[0,1]) ["_law_here", "_law_there"] (λ_ _ _ q=>oa q) aX.nd rfl (Or.inl rfl) ⟨rfl,rfl,by decide +kernel,by decide +kernel,by decide +kernel,trivial⟩ rfl (by decide) (ui rfl T.z_zip (aa 7) (uZ (λv u=>[v,u]) (aa 9) (gn d8 (λ_=>et) ah))) (λ_ _ _ _ _=>(eN (n:=2) rfl (aH (aw (i:=0) (show List.Nodup (["_law_here", "_law_there"]:List Str) by decide +kernel) rfl (Or.inl rfl)) (aH (aw (i:=1) (show List.Nodup (["_law_here", "_law_there"]:List Str) by decide +kernel) rfl (Or.inl rfl)) da)))) (λ_ _ _ _ _=>cB) (λ_ _ _ _ _=>(ay aV bh (aa 0) (aa 1))))) bx)))))
   (aq (dk (a9 (lE hr.units) nT (aa 7) (ay de eK (bO (ab ah ao)) (aP az aT rfl T.z_len PySem.boot_len (ab (aa 7) ao))) (aS _)) (aq (bS jb)) bx)))))
   (aq (bS jb)))))))
theorem lh {f:Addr} {fd:FuncData} (F:Fun K "_law_level_pulls" "_law_level_pulls" bw f fd) (T:Txt K mg) {A8:Addr} {B8:FuncData} (X8:Def K mg "_law_cell" cM ["_law_script", "_law_k"] A8 B8) (Y8:FnOk P w K mg base CX0 1 A8 B8 ["_law_script", "_law_k"] (sp3 K mg bA)) {A12:Addr} {B12:FuncData} (X12:Def K mg "_law_levels" bX ["_law_tree_here"] A12 B12) (Y12:FnOk P w K mg base CX0 1 A12 B12 ["_law_tree_here"] (sp3 K mg bL)):FnOk P w K mg base CX0 2 f fd ["_law_tree_here", "_law_script", "_law_start", "_law_most"] (sp3 K mg cZ):=by
 refine dX (N:=["_law_tree_here", "_law_script", "_law_start", "_law_most", "_law_levels_here", "_law_sides", "_law_gaps", "_law_at", "_law_level", "_law_node"]) (k:=1) (body:=dY) rfl rfl rfl F bR λcdv A outer s H E hr=>?_
 unfold dY;exact (ai (aC (i:=4) bR.nd rfl (Or.inl rfl) (bC (aE Y12 (hr.mono (by decide)) rfl X12.g X12.F.kp X12.b aU (ab (aa 0) ao))))
   (ai (gP (i:=5) (sc:=(aj bw)) (outs:=[(1, "_law_script"),(2, "_law_start"),(3, "_law_most")]) (is:=[0]) ["_law_k"] (λ_ _ _ q=>oa q) bR.nd rfl (Or.inl rfl) ⟨rfl,rfl,by decide +kernel,by decide +kernel,by decide +kernel,⟨⟨rfl,rfl⟩,⟨rfl,rfl⟩,⟨rfl,rfl⟩,trivial⟩⟩ rfl (by decide) (i7 rfl T.z_range (aP az aT rfl T.z_len PySem.boot_len (ab (aa 4) ao))) (λ_ _ _ _ _=>(aw (i:=0) (show List.Nodup (["_law_k", "_law_script", "_law_start", "_law_most"]:List Str) by decide +kernel) rfl (Or.inl rfl))) (λ_ _ _ _ _=>cB) (λ_ _ _ _ _=>(ay bt (λ_=>br) (ay de eK (aE Y8 (hr.mono (by decide)) rfl X8.g X8.F.kp X8.b aU (ab (aa 1) (ab (ay aV bh (aa 2) (aa 0)) ao))) ah) (aa 3))))
   (ai (aC (i:=6) bR.nd rfl (Or.inl rfl) (ay de eK (bO (ab ah ao)) (aP az aT rfl T.z_len PySem.boot_len (ab (aa 0) ao))))
   (ai (cL rfl PassesOwn.never (mw rfl T.z_enumerate (aa 4)) (eN (n:=2) rfl (aH (aw (i:=7) bR.nd rfl (Or.inl rfl)) (aH (aw (i:=8) bR.nd rfl (Or.inl rfl)) da))) (aq (cL rfl PassesOwn.never (bB (kd gQ i6 (aa 8) (fM ah) gO)) (aw (i:=9) bR.nd rfl (Or.inl rfl)) (aq (gG 6 (aa 9) (aA ax aB (aa 5) (aa 7) (λ_ _=>rfl)))))))
   (aq (gN 6 (bS (dA (ab (aa 5) (ab (bC (n9 (g_ _ rfl) lB rfl T.z_list jZ (ab (aa 5) ao))) (ab (aa 6) ao)))))))))))
theorem ko {f:Addr} {fd:FuncData} (F:Fun K "_law_pulled_about" "_law_pulled_about" a_ f fd) (T:Txt K mg) {A12:Addr} {B12:FuncData} (X12:Def K mg "_law_levels" bX ["_law_tree_here"] A12 B12) (Y12:FnOk P w K mg base CX0 1 A12 B12 ["_law_tree_here"] (sp3 K mg bL)) {A14:Addr} {B14:FuncData} (X14:Def K mg "_law_copied" b_ ["_law_pulls"] A14 B14) (Y14:FnOk P w K mg base CX0 1 A14 B14 ["_law_pulls"] (sp3 K mg bz)):FnOk P w K mg base CX0 2 f fd ["_law_tree_here", "_law_pulls", "_law_number"] (sp3 K mg cP):=by
 refine dX (N:=["_law_tree_here", "_law_pulls", "_law_number", "_law_left", "_law_right", "_law_gaps", "_law_kind", "_law_firsts", "_law_free", "_law_at", "_law_one", "_law_other"]) (k:=1) (body:=dM) rfl rfl rfl F aZ λcdv A outer s H E hr=>?_
 unfold dM;exact (ai (uO (aE Y14 (hr.mono (by decide)) rfl X14.g X14.F.kp X14.b aU (ab (aa 1) ao)) (eN (n:=3) rfl (aH (aw (i:=3) aZ.nd rfl (Or.inl rfl)) (aH (aw (i:=4) aZ.nd rfl (Or.inl rfl)) (aH (aw (i:=5) aZ.nd rfl (Or.inl rfl)) da)))))
   (ai (aC (i:=6) aZ.nd rfl (Or.inl rfl) (ay bt (λ_=>br) (aa 2) ah))
   (ai (aC (i:=7) aZ.nd rfl (Or.inr rfl) (bC (b7 (sc:=(aj a_)) (outs:=[]) (is:=[0]) ["_law_level"] ⟨rfl,rfl,by decide +kernel,by decide +kernel,by decide +kernel,trivial⟩ rfl (by decide) (bB (aE Y12 (hr.mono (by decide)) rfl X12.g X12.F.kp X12.b aU (ab (aa 0) ao))) (λ_ _ _ _ _=>(aw (i:=0) (show List.Nodup (["_law_level"]:List Str) by decide +kernel) rfl (Or.inl rfl))) (λ_ _ _ _ _=>cB) (λ_ _ _ _ _=>(aA ax aB (aa 0) ah (λ_ _=>rfl))))))
   (ai (gP (i:=8) (sc:=(aj a_)) (outs:=[(7, "_law_firsts")]) (is:=[0]) ["_law_k"] (λ_ _ _ q=>oa q) aZ.nd rfl (Or.inl rfl) ⟨rfl,rfl,by decide +kernel,by decide +kernel,by decide +kernel,⟨⟨rfl,rfl⟩,trivial⟩⟩ rfl (by decide) (i7 rfl T.z_range (aP az aT rfl T.z_len PySem.boot_len (ab (aa 0) ao))) (λ_ _ _ _ _=>(aw (i:=0) (show List.Nodup (["_law_k", "_law_firsts"]:List Str) by decide +kernel) rfl (Or.inl rfl))) (λ_ _ _ _ _=>(i5 (a9 qS Gi (aa 0) (aa 1) rfl))) (λ_ _ _ _ _=>(aa 0)))
   (ai (aC (i:=9) aZ.nd rfl (Or.inl rfl) (fP (ay bt (λ_=>br) (ay bE (λ_=>b8) (aa 2) ah) (aP az aT rfl T.z_len PySem.boot_len (ab (aa 3) ao)))))
   (ai (dk (a9 (cm hr.units) dH (aa 6) ah (aS _)) (ai (gG 3 (aa 9) (fP (ay aV bh (aA ax aB (aa 3) (aa 9) (λ_ _=>rfl)) ah)))
   (aq (gG 4 (fP (ay bt (λ_=>br) (ay bE (λ_=>b8) (aa 2) ah) (aP az aT rfl T.z_len PySem.boot_len (ab (aa 4) ao)))) (fP (ay aV bh (aA ax aB (aa 4) (ay bt (λ_=>br) (ay bE (λ_=>b8) (aa 2) ah) (aP az aT rfl T.z_len PySem.boot_len (ab (aa 4) ao))) (λ_ _=>rfl)) ah))))) bx)
   (ai (dk (oX (tW (oX (mE (a9 (lE hr.units) nT (aa 8) (bO ao) (aS _)) (k6 (a9 (cm hr.units) dH (aa 6) ah (aS _))))) (oK (oX (mE (a9 l6 (λ_=>lX) (aP az aT rfl T.z_len PySem.boot_len (ab (aa 8) ao)) ah (aS _)) (k6 (a9 (cm hr.units) dH (aa 6) ah (aS _)))))))) (ai (aC (i:=10) aZ.nd rfl (Or.inl rfl) (aA ax aB (aa 8) (ay bt (λ_=>br) (ay bE (λ_=>b8) (aa 2) ah) (aP az aT rfl T.z_len PySem.boot_len (ab (aa 8) ao))) (λ_ _=>rfl)))
   (aq (gG 5 (aa 10) (fP (ay aV bh (aA ax aB (aa 5) (aa 10) (λ_ _=>rfl)) ah))))) bx)
   (ai (dk (oX (mE (a9 l6 (λ_=>lX) (aP az aT rfl T.z_len PySem.boot_len (ab (aa 8) ao)) ah (aS _)) (k6 (a9 (cm hr.units) dH (aa 6) ah (aS _))))) (ai (aC (i:=11) aZ.nd rfl (Or.inl rfl) (aA ax aB (aa 8) (ay bt (λ_=>br) (ay bE (λ_=>b8) (aa 2) ah) (aP az aT rfl T.z_len PySem.boot_len (ab (aa 8) ao))) (λ_ _=>rfl)))
   (aq (gG 5 (aa 11) (fP (aP (qh rfl) (λ_=>wc) rfl T.z_max PyProof.Rows.boot_max (ab ah (ab (ay gZ (λ_=>gp) (aA ax aB (aa 5) (aa 11) (λ_ _=>rfl)) ah) ao))))))) bx)
   (ai (dk (a9 (cm hr.units) dH (aa 6) ah (aS _)) (aq (gG 4 (aa 9) (fP (ay aV bh (aA ax aB (aa 4) (aa 9) (λ_ _=>rfl)) ah)))) bx)
   (aq (gN 4 (gN 3 (gN 5 (bS (dA (ab (aa 3) (ab (aa 4) (ab (aa 5) ao))))))))))))))))))
theorem mQ {f:Addr} {fd:FuncData} (F:Fun K "_law_no_pulls" "_law_no_pulls" cw f fd) (T:Txt K mg) {A14:Addr} {B14:FuncData} (X14:Def K mg "_law_copied" b_ ["_law_pulls"] A14 B14) (Y14:FnOk P w K mg base CX0 1 A14 B14 ["_law_pulls"] (sp3 K mg bz)):FnOk P w K mg base CX0 2 f fd ["_law_tree_here", "_law_pulls", "_law_number"] (sp3 K mg d_):=by
 refine dX (N:=["_law_tree_here", "_law_pulls", "_law_number", "_law_left", "_law_right", "_law_gaps", "_law_at"]) (k:=1) (body:=fI) rfl rfl rfl F ed λcdv A outer s H E hr=>?_
 unfold fI;exact (ai (uO (aE Y14 (hr.mono (by decide)) rfl X14.g X14.F.kp X14.b aU (ab (aa 1) ao)) (eN (n:=3) rfl (aH (aw (i:=3) ed.nd rfl (Or.inl rfl)) (aH (aw (i:=4) ed.nd rfl (Or.inl rfl)) (aH (aw (i:=5) ed.nd rfl (Or.inl rfl)) da)))))
   (ai (aC (i:=6) ed.nd rfl (Or.inl rfl) (fP (ay bt (λ_=>br) (ay bE (λ_=>b8) (aa 2) ah) (aP az aT rfl T.z_len PySem.boot_len (ab (aa 3) ao)))))
   (ai (dk (a9 (cm hr.units) dH (ay bt (λ_=>br) (aa 2) ah) ah (aS _)) (aq (e9 3 ah)) bx)
   (ai (dk (a9 (cm hr.units) dH (ay bt (λ_=>br) (aa 2) ah) ah (aS _)) (aq (vH 4)) bx)
   (ai (dk (a9 (cm hr.units) dH (ay bt (λ_=>br) (aa 2) ah) ah (aS _)) (aq (e9 5 ah)) bx)
   (ai (dk (a9 (cm hr.units) dH (ay bt (λ_=>br) (aa 2) ah) ah (aS _)) (aq (vH 5)) bx)
   (ai (dk (a9 (cm hr.units) dH (ay bt (λ_=>br) (aa 2) ah) ah (aS _)) (aq (gG 3 (aa 6) (ay gZ (λ_=>gp) (gn d8 (λ_=>et) ah) (ay bE (λ_=>b8) (aa 2) ah)))) bx)
   (ai (dk (a9 (cm hr.units) dH (ay bt (λ_=>br) (aa 2) ah) ah (aS _)) (aq (gG 4 (aa 6) (ay gZ (λ_=>gp) (gn d8 (λ_=>et) ah) (ay bE (λ_=>b8) (aa 2) ah)))) bx)
   (ai (dk (a9 (cm hr.units) dH (ay bt (λ_=>br) (aa 2) ah) ah (aS _)) (aq (gG 5 (fP (ay bt (λ_=>br) (ay bE (λ_=>b8) (aa 2) ah) (aP az aT rfl T.z_len PySem.boot_len (ab (aa 5) ao)))) (ay gZ (λ_=>gp) (gn d8 (λ_=>et) ah) (ay bE (λ_=>b8) (aa 2) ah)))) bx)
   (ai (dk (a9 (cm hr.units) dH (ay bt (λ_=>br) (aa 2) ah) ah (aS _)) (aq (gG 5 ah ah)) bx)
   (aq (gN 4 (gN 3 (gN 5 (bS (dA (ab (aa 3) (ab (aa 4) (ab (aa 5) ao)))))))))))))))))))
theorem pE {f:Addr} {fd:FuncData} (F:Fun K "neighbours" "neighbours" c9 f fd) (T:Txt K mg) {A18:Addr} {B18:FuncData} (X18:Def K mg "levels_of" dh ["tree"] A18 B18) (Y18:FnOk P w K mg base CX0 2 A18 B18 ["tree"] (sp3 K mg cE)):FnOk P w K mg base CX0 3 f fd ["tree"] (sp3 K mg fX):=by
 refine dX (N:=["tree", "pairs", "level"]) (k:=2) (body:=iu) rfl rfl rfl F jv λcdv A outer s H E hr=>?_
 unfold iu;exact (ai (aC (i:=1) jv.nd rfl (Or.inl rfl) (bO ao))
   (ai (cL rfl PassesOwn.never (bB (aE Y18 (hr.mono (by decide)) rfl X18.g X18.F.kp X18.b aU (ab (aa 0) ao))) (aw (i:=2) jv.nd rfl (Or.inl rfl)) (aq (uJ 1 (b7 (sc:=(aj c9)) (outs:=[]) (is:=[0,1]) ["one", "other"] ⟨rfl,rfl,by decide +kernel,by decide +kernel,by decide +kernel,trivial⟩ rfl (by decide) (ui rfl T.z_zip (aa 2) (kd gQ i6 (aa 2) (fM ah) gO)) (λ_ _ _ _ _=>(eN (n:=2) rfl (aH (aw (i:=0) (show List.Nodup (["one", "other"]:List Str) by decide +kernel) rfl (Or.inl rfl)) (aH (aw (i:=1) (show List.Nodup (["one", "other"]:List Str) by decide +kernel) rfl (Or.inl rfl)) da)))) (λ_ _ _ _ _=>cB) (λ_ _ _ _ _=>(dA (ab (aa 0) (ab (aa 1) ao))))))))
   (aq (dQ 1))))
theorem lU {f:Addr} {fd:FuncData} (F:Fun K "mirrored_order" "mirrored_order" b6 f fd) (T:Txt K mg) {A17:Addr} {B17:FuncData} (X17:Def K mg "children_of" bZ ["tree", "node"] A17 B17) (Y17:FnOk P w K mg base CX0 2 A17 B17 ["tree", "node"] (sp3 K mg cn)):FnOk P w K mg base CX0 3 f fd ["tree"] (sp3 K mg dC):=by
 refine dX (N:=["tree", "order", "waiting", "node"]) (k:=2) (body:=eZ) rfl rfl rfl F eW λcdv A outer s H E hr=>?_
 unfold eZ;exact (ai (aC (i:=1) eW.nd rfl (Or.inl rfl) (bO ao))
   (ai (aC (i:=2) eW.nd rfl (Or.inl rfl) (bO (ab ah ao)))
   (ai (kA PassesOwn.never (rK (a9 l6 (λ_=>lX) (aP az aT rfl T.z_len PySem.boot_len (ab (aa 2) ao)) ah (aS _))) (ai (uR 2 (aw (i:=3) eW.nd rfl (Or.inl rfl)))
   (ai (e9 1 (aa 3))
   (aq (uJ 2 (aE Y17 (hr.mono (by decide)) rfl X17.g X17.F.kp X17.b aU (ab (aa 0) (ab (aa 3) ao))))))))
   (aq (dQ 1)))))
theorem yn {f:Addr} {fd:FuncData} (F:Fun K "forks" "forks" iS f fd) (T:Txt K mg) {A17:Addr} {B17:FuncData} (X17:Def K mg "children_of" bZ ["tree", "node"] A17 B17) (Y17:FnOk P w K mg base CX0 2 A17 B17 ["tree", "node"] (sp3 K mg cn)):FnOk P w K mg base CX0 3 f fd ["tree"] (sp3 K mg kL):=by
 refine dX (N:=["tree"]) (k:=2) (body:=mf) rfl rfl rfl F yo λcdv A outer s H E hr=>?_
 unfold mf;exact (aq (bS (b7 (sc:=(aj iS)) (outs:=[(0, "tree")]) (is:=[0]) ["node"] ⟨rfl,rfl,by decide +kernel,by decide +kernel,by decide +kernel,⟨⟨rfl,rfl⟩,trivial⟩⟩ rfl (by decide) (i7 rfl T.z_range (aP az aT rfl T.z_len PySem.boot_len (ab (aa 0) ao))) (λ_ _ _ _ _=>(aw (i:=0) (show List.Nodup (["node", "tree"]:List Str) by decide +kernel) rfl (Or.inl rfl))) (λ_ _ _ _ _=>(i5 (a9 l6 (λ_=>lX) (aP az aT rfl T.z_len PySem.boot_len (ab (aE Y17 (hr.mono (by decide)) rfl X17.g X17.F.kp X17.b aU (ab (aa 1) (ab (aa 0) ao))) ao)) ah (aS _)))) (λ_ _ _ _ _=>(aa 0)))))
theorem rG {f:Addr} {fd:FuncData} (F:Fun K "are_pulls" "are_pulls" cR f fd) (T:Txt K mg) {A18:Addr} {B18:FuncData} (X18:Def K mg "levels_of" dh ["tree"] A18 B18) (Y18:FnOk P w K mg base CX0 2 A18 B18 ["tree"] (sp3 K mg cE)):FnOk P w K mg base CX0 3 f fd ["tree", "pulls"] (sp3 K mg bN):=by
 refine dX (N:=["tree", "pulls", "levels", "least"]) (k:=2) (body:=iP) rfl rfl rfl F jW λcdv A outer s H E hr=>?_
 unfold iP;exact (ai (aC (i:=2) jW.nd rfl (Or.inl rfl) (bC (aE Y18 (hr.mono (by decide)) rfl X18.g X18.F.kp X18.b aU (ab (aa 0) ao))))
   (ai (dk (a9 (lE hr.units) nT (b7 (sc:=(aj cR)) (outs:=[]) (is:=[0]) ["part"] ⟨rfl,rfl,by decide +kernel,by decide +kernel,by decide +kernel,trivial⟩ rfl (by decide) (x8 (aa 1)) (λ_ _ _ _ _=>(aw (i:=0) (show List.Nodup (["part"]:List Str) by decide +kernel) rfl (Or.inl rfl))) (λ_ _ _ _ _=>cB) (λ_ _ _ _ _=>(aP az aT rfl T.z_len PySem.boot_len (ab (aa 0) ao)))) (bO (ab (aP az aT rfl T.z_len PySem.boot_len (ab (aa 2) ao)) (ab (aP az aT rfl T.z_len PySem.boot_len (ab (aa 2) ao)) (ab (aP az aT rfl T.z_len PySem.boot_len (ab (aa 0) ao)) ao)))) (aS _)) (aq (bS jb)) bx)
   (ai (aC (i:=3) jW.nd rfl (Or.inl rfl) (aP (pN _ rfl rfl) vM rfl T.z_min PyProof.Rows.boot_min (ab (b7 (sc:=(aj cR)) (outs:=[]) (is:=[0]) ["part"] ⟨rfl,rfl,by decide +kernel,by decide +kernel,by decide +kernel,trivial⟩ rfl (by decide) (x8 (aa 1)) (λ_ _ _ _ _=>(aw (i:=0) (show List.Nodup (["part"]:List Str) by decide +kernel) rfl (Or.inl rfl))) (λ_ _ _ _ _=>cB) (λ_ _ _ _ _=>(aP (pN _ rfl rfl) vM rfl T.z_min PyProof.Rows.boot_min (ab (aa 0) ao)))) ao)))
   (aq (bS (kP (kh sN (λ_=>t5) (aa 3) ah (aS _)) (ky (yU (aP (o8 rfl) uM rfl T.z_any PyProof.Rows.boot_any (ab (b7 (sc:=(aj cR)) (outs:=[(1, "pulls")]) (is:=[0]) ["level"] ⟨rfl,rfl,by decide +kernel,by decide +kernel,by decide +kernel,⟨⟨rfl,rfl⟩,trivial⟩⟩ rfl (by decide) (bB (aa 2)) (λ_ _ _ _ _=>(aw (i:=0) (show List.Nodup (["level", "pulls"]:List Str) by decide +kernel) rfl (Or.inl rfl))) (λ_ _ _ _ _=>cB) (λ_ _ _ _ _=>(aA ax aB (aA ax aB (aa 1) ah (λ_ _=>rfl)) (aA ax aB (aa 0) ah (λ_ _=>rfl)) (λ_ _=>rfl)))) ao))))))))))
theorem nZ {f:Addr} {fd:FuncData} (F:Fun K "_law_family" "_law_family" dg f fd) (T:Txt K mg) {A21:Addr} {B21:FuncData} (X21:Def K mg "_law_tree" eI ["_law_script", "_law_start", "_law_many", "_law_most", "_law_deep"] A21 B21) (Y21:FnOk P w K mg base CX0 2 A21 B21 ["_law_script", "_law_start", "_law_many", "_law_most", "_law_deep"] (sp3 K mg gL)) {A22:Addr} {B22:FuncData} (X22:Def K mg "_law_mirror_tree" bK ["_law_tree_here"] A22 B22) (Y22:FnOk P w K mg base CX0 2 A22 B22 ["_law_tree_here"] (sp3 K mg cY)) {A23:Addr} {B23:FuncData} (X23:Def K mg "_law_relabelled" bT ["_law_tree_here", "_law_script", "_law_start"] A23 B23) (Y23:FnOk P w K mg base CX0 2 A23 B23 ["_law_tree_here", "_law_script", "_law_start"] (sp3 K mg cC)) {A11:Addr} {B11:FuncData} (X11:Def K mg "_law_hung" eD ["_law_tree_here", "_law_shift"] A11 B11) (Y11:FnOk P w K mg base CX0 1 A11 B11 ["_law_tree_here", "_law_shift"] (sp3 K mg gD)):FnOk P w K mg base CX0 3 f fd ["_law_script", "_law_start", "_law_many", "_law_kinds"] (sp3 K mg fv):=by
 refine dX (N:=["_law_script", "_law_start", "_law_many", "_law_kinds", "_law_part", "_law_tree_here", "_law_k", "_law_bough"]) (k:=2) (body:=gS) rfl rfl rfl F cO λcdv A outer s H E hr=>?_
 unfold gS;exact (ai (aC (i:=4) cO.nd rfl (Or.inl rfl) (bC (aE Y21 (hr.mono (by decide)) rfl X21.g X21.F.kp X21.b aU (ab (aa 0) (ab (aa 1) (ab (aa 2) (ab ah (ab ah ao))))))))
   (ai (aC (i:=5) cO.nd rfl (Or.inl rfl) (bC (bO (ab (bC (dA (ab (gn d8 (λ_=>et) ah) (ab (bC (kd Dl Ed nU gO (fM (ay aV bh ah (ay bt (λ_=>br) (aa 3) ah))))) (ab (ay aV bh ah (ay bt (λ_=>br) (ay bE (λ_=>b8) (aa 3) ah) ah)) ao))))) ao))))
   (ai (cL rfl PassesOwn.never (i7 rfl T.z_range (ay aV bh ah (ay bt (λ_=>br) (ay bE (λ_=>b8) (aa 3) ah) ah))) (aw (i:=6) cO.nd rfl (Or.inl rfl)) (ai (aC (i:=7) cO.nd rfl (Or.inl rfl) (bC (aE Y23 (hr.mono (by decide)) rfl X23.g X23.F.kp X23.b aU (ab (aa 4) (ab (aa 0) (ab (ay aV bh (ay aV bh (aa 1) ah) (ay de eK ah (aa 6))) ao))))))
   (ai (dk (a9 (cm hr.units) dH (ay bt (λ_=>br) (ay bE (λ_=>b8) (ay bE (λ_=>b8) (aa 3) ah) (ay aV bh (ay de eK (aa 6) (aa 6)) ah)) ah) ah (aS _)) (aq (aC (i:=7) cO.nd rfl (Or.inl rfl) (bC (aE Y22 (hr.mono (by decide)) rfl X22.g X22.F.kp X22.b aU (ab (aa 7) ao))))) bx)
   (ai (dk (oX (mE (a9 (cm hr.units) dH (ay bt (λ_=>br) (ay bE (λ_=>b8) (ay bE (λ_=>b8) (aa 3) ah) (ay aV bh (aa 6) ah)) ah) ah (aS _)) (k6 (a9 l6 (λ_=>lX) (aP az aT rfl T.z_len PySem.boot_len (ab (aa 7) ao)) ah (aS _))))) (aq (aC (i:=7) cO.nd rfl (Or.inl rfl) (bC (kd gQ i6 (aa 7) gO (fM (gn d8 (λ_=>et) ah)))))) bx)
   (aq (aC (i:=5) cO.nd rfl (Or.inl rfl) (bC (ay aV bh (aa 5) (aE Y11 (hr.mono (by decide)) rfl X11.g X11.F.kp X11.b aU (ab (aa 7) (ab (aP az aT rfl T.z_len PySem.boot_len (ab (aa 5) ao)) ao)))))))))))
   (aq (bS (aa 5))))))
theorem pA {f:Addr} {fd:FuncData} (F:Fun K "_law_leans" "_law_leans" cI f fd) (T:Txt K mg) {A13:Addr} {B13:FuncData} (X13:Def K mg "_law_children" bM ["_law_tree_here"] A13 B13) (Y13:FnOk P w K mg base CX0 1 A13 B13 ["_law_tree_here"] (sp3 K mg cD)) {A24:Addr} {B24:FuncData} (X24:Def K mg "_law_node_pulls" bU ["_law_tree_here", "_law_pulls"] A24 B24) (Y24:FnOk P w K mg base CX0 2 A24 B24 ["_law_tree_here", "_law_pulls"] (sp3 K mg dt)):FnOk P w K mg base CX0 3 f fd ["_law_tree_here", "_law_pulls"] (sp3 K mg fU):=by
 refine dX (N:=["_law_tree_here", "_law_pulls", "_law_total", "_law_k", "_law_found", "_law_some", "_law_row", "_law_at"]) (k:=2) (body:=ik) rfl rfl rfl F dU λcdv A outer s H E hr=>?_
 unfold ik;exact (ai (aC (i:=2) dU.nd rfl (Or.inr rfl) (aE Y24 (hr.mono (by decide)) rfl X24.g X24.F.kp X24.b aU (ab (aa 0) (ab (aa 1) ao))))
   (ai (cL rfl PassesOwn.never (CD rfl T.z_range (ay gZ (λ_=>gp) (aP az aT rfl T.z_len PySem.boot_len (ab (aa 0) ao)) ah) ah (gn d8 (λ_=>et) ah)) (aw (i:=3) dU.nd rfl (Or.inl rfl)) (aq (gG 2 (aA ax aB (aA ax aB (aa 0) (aa 3) (λ_ _=>rfl)) ah (λ_ _=>rfl)) (fP (ay aV bh (aA ax aB (aa 2) (aA ax aB (aA ax aB (aa 0) (aa 3) (λ_ _=>rfl)) ah (λ_ _=>rfl)) (λ_ _=>rfl)) (aA ax aB (aa 2) (aa 3) (λ_ _=>rfl)))))))
   (ai (aC (i:=4) dU.nd rfl (Or.inl rfl) (bO ao))
   (ai (gN 2 (cL rfl PassesOwn.never (bB (aE Y13 (hr.mono (by decide)) rfl X13.g X13.F.kp X13.b aU (ab (aa 0) ao))) (aw (i:=5) dU.nd rfl (Or.inl rfl)) (ai (aC (i:=6) dU.nd rfl (Or.inl rfl) (bO ao))
   (ai (cL rfl PassesOwn.never (sL rfl T.z_range ah (aP az aT rfl T.z_len PySem.boot_len (ab (aa 5) ao))) (aw (i:=7) dU.nd rfl (Or.inl rfl)) (aq (e9 6 (ay gZ (λ_=>gp) (aP (eT _ rfl rfl) ie rfl T.z_sum PyProof.Rows.boot_sum (ab (b7 (sc:=(aj cI)) (outs:=[(2, "_law_total")]) (is:=[0]) ["_law_k"] ⟨rfl,rfl,by decide +kernel,by decide +kernel,by decide +kernel,⟨⟨rfl,rfl⟩,trivial⟩⟩ rfl (by decide) (bB (kd gQ i6 (aa 5) (fM (aa 7)) gO)) (λ_ _ _ _ _=>(aw (i:=0) (show List.Nodup (["_law_k", "_law_total"]:List Str) by decide +kernel) rfl (Or.inl rfl))) (λ_ _ _ _ _=>cB) (λ_ _ _ _ _=>(aA ax aB (aa 1) (aa 0) (λ_ _=>rfl)))) ao)) (aP (eT _ rfl rfl) ie rfl T.z_sum PyProof.Rows.boot_sum (ab (b7 (sc:=(aj cI)) (outs:=[(2, "_law_total")]) (is:=[0]) ["_law_k"] ⟨rfl,rfl,by decide +kernel,by decide +kernel,by decide +kernel,⟨⟨rfl,rfl⟩,trivial⟩⟩ rfl (by decide) (bB (kd gQ i6 (aa 5) gO (fM (aa 7)))) (λ_ _ _ _ _=>(aw (i:=0) (show List.Nodup (["_law_k", "_law_total"]:List Str) by decide +kernel) rfl (Or.inl rfl))) (λ_ _ _ _ _=>cB) (λ_ _ _ _ _=>(aA ax aB (aa 1) (aa 0) (λ_ _=>rfl)))) ao))))))
   (aq (gN 6 (e9 4 (aa 6))))))))
   (aq (dQ 4))))))
theorem sX {f:Addr} {fd:FuncData} (F:Fun K "mirrored" "mirrored" fC f fd) (T:Txt K mg) {A30:Addr} {B30:FuncData} (X30:Def K mg "mirrored_order" b6 ["tree"] A30 B30) (Y30:FnOk P w K mg base CX0 3 A30 B30 ["tree"] (sp3 K mg dC)) {A5:Addr} {B5:FuncData} (X5:Def K mg "renumbered" cG ["rows", "numbers"] A5 B5) (Y5:FnOk P w K mg base CX0 1 A5 B5 ["rows", "numbers"] (sp3 K mg fQ)):FnOk P w K mg base CX0 4 f fd ["tree"] (sp3 K mg iF):=by
 refine dX (N:=["tree", "numbers"]) (k:=3) (body:=jm) rfl rfl rfl F mW λcdv A outer s H E hr=>?_
 unfold jm;exact (ai (aC (i:=1) mW.nd rfl (Or.inl rfl) (bC (aE Y30 (hr.mono (by decide)) rfl X30.g X30.F.kp X30.b aU (ab (aa 0) ao))))
   (aq (bS (dA (ab (bC (aE Y5 (hr.mono (by decide)) rfl X5.g X5.F.kp X5.b aU (ab (aa 0) (ab (aa 1) ao)))) (ab (aa 1) ao))))))
theorem pB {f:Addr} {fd:FuncData} (F:Fun K "node_pulls" "node_pulls" dI f fd) (T:Txt K mg) {A18:Addr} {B18:FuncData} (X18:Def K mg "levels_of" dh ["tree"] A18 B18) (Y18:FnOk P w K mg base CX0 2 A18 B18 ["tree"] (sp3 K mg cE)) {A29:Addr} {B29:FuncData} (X29:Def K mg "neighbours" c9 ["tree"] A29 B29) (Y29:FnOk P w K mg base CX0 3 A29 B29 ["tree"] (sp3 K mg fX)):FnOk P w K mg base CX0 4 f fd ["tree", "pulls"] (sp3 K mg fY):=by
 refine dX (N:=["tree", "pulls", "told", "one", "other", "level", "left", "right"]) (k:=3) (body:=ip) rfl rfl rfl F dS λcdv A outer s H E hr=>?_
 unfold ip;exact (ai (aC (i:=2) dS.nd rfl (Or.inl rfl) (n9 (g_ _ rfl) lB rfl T.z_list jZ (ab (aA ax aB (aa 1) ah (λ_ _=>rfl)) ao)))
   (ai (cL rfl PassesOwn.never (bB (aE Y29 (hr.mono (by decide)) rfl X29.g X29.F.kp X29.b aU (ab (aa 0) ao))) (eN (n:=2) rfl (aH (aw (i:=3) dS.nd rfl (Or.inl rfl)) (aH (aw (i:=4) dS.nd rfl (Or.inl rfl)) da))) (aq (nz 2 xW (aa 3) (aA ax aB (aA ax aB (aa 1) ah (λ_ _=>rfl)) (aa 4) (λ_ _=>rfl)))))
   (ai (cL rfl PassesOwn.never (Gx rfl T.z_zip (aE Y18 (hr.mono (by decide)) rfl X18.g X18.F.kp X18.b aU (ab (aa 0) ao)) (aA ax aB (aa 1) ah (λ_ _=>rfl)) (aA ax aB (aa 1) ah (λ_ _=>rfl))) (eN (n:=3) rfl (aH (aw (i:=5) dS.nd rfl (Or.inl rfl)) (aH (aw (i:=6) dS.nd rfl (Or.inl rfl)) (aH (aw (i:=7) dS.nd rfl (Or.inl rfl)) da)))) (ai (nz 2 u5 (aA ax aB (aa 5) ah (λ_ _=>rfl)) (aa 6))
   (aq (nz 2 xW (aA ax aB (aa 5) (gn d8 (λ_=>et) ah) (λ_ _=>rfl)) (aa 7)))))
   (aq (dQ 2)))))
theorem t8 {f:Addr} {fd:FuncData} (F:Fun K "likeness" "likeness" fB f fd) (T:Txt K mg) {A19:Addr} {B19:FuncData} (X19:Def K mg "bough_of" fu ["tree", "node"] A19 B19) (Y19:FnOk P w K mg base CX0 2 A19 B19 ["tree", "node"] (sp3 K mg gh)) {A35:Addr} {B35:FuncData} (X35:Def K mg "mirrored" fC ["tree"] A35 B35) (Y35:FnOk P w K mg base CX0 4 A35 B35 ["tree"] (sp3 K mg iF)) {A20:Addr} {B20:FuncData} (X20:Def K mg "form_of" fH ["bough"] A20 B20) (Y20:FnOk P w K mg base CX0 2 A20 B20 ["bough"] (sp3 K mg f6)):FnOk P w K mg base CX0 5 f fd ["tree", "one", "other"] (sp3 K mg f7):=by
 refine dX (N:=["tree", "one", "other", "form", "bough", "mirror"]) (k:=4) (body:=jf) rfl rfl rfl F jg λcdv A outer s H E hr=>?_
 unfold jf;exact (ai (aC (i:=3) jg.nd rfl (Or.inl rfl) (bC (aE Y20 (hr.mono (by decide)) rfl X20.g X20.F.kp X20.b aU (ab (aE Y19 (hr.mono (by decide)) rfl X19.g X19.F.kp X19.b aU (ab (aa 0) (ab (aa 1) ao))) ao))))
   (ai (aC (i:=4) jg.nd rfl (Or.inl rfl) (bC (aE Y19 (hr.mono (by decide)) rfl X19.g X19.F.kp X19.b aU (ab (aa 0) (ab (aa 2) ao)))))
   (ai (aC (i:=5) jg.nd rfl (Or.inl rfl) (aA ax aB (aE Y35 (hr.mono (by decide)) rfl X35.g X35.F.kp X35.b aU (ab (aa 4) ao)) ah (λ_ _=>rfl)))
   (aq (bS (dA (ab (kh (cm hr.units) dH (aa 3) (aE Y20 (hr.mono (by decide)) rfl X20.g X20.F.kp X20.b aU (ab (aa 4) ao)) (aS _)) (ab (kh (cm hr.units) dH (aa 3) (aE Y20 (hr.mono (by decide)) rfl X20.g X20.F.kp X20.b aU (ab (aa 5) ao)) (aS _)) ao))))))))
theorem nS {f:Addr} {fd:FuncData} (F:Fun K "bough_pulls" "bough_pulls" dm f fd) (T:Txt K mg) {A36:Addr} {B36:FuncData} (X36:Def K mg "node_pulls" dI ["tree", "pulls"] A36 B36) (Y36:FnOk P w K mg base CX0 4 A36 B36 ["tree", "pulls"] (sp3 K mg fY)):FnOk P w K mg base CX0 5 f fd ["tree", "pulls"] (sp3 K mg e_):=by
 refine dX (N:=["tree", "pulls", "sums", "node"]) (k:=4) (body:=gq) rfl rfl rfl F iY λcdv A outer s H E hr=>?_
 unfold gq;exact (ai (aC (i:=2) iY.nd rfl (Or.inl rfl) (aE Y36 (hr.mono (by decide)) rfl X36.g X36.F.kp X36.b aU (ab (aa 0) (ab (aa 1) ao))))
   (ai (cL rfl PassesOwn.never (CD rfl T.z_range (ay gZ (λ_=>gp) (aP az aT rfl T.z_len PySem.boot_len (ab (aa 0) ao)) ah) ah (gn d8 (λ_=>et) ah)) (aw (i:=3) iY.nd rfl (Or.inl rfl)) (aq (nz 2 u5 (aA ax aB (aA ax aB (aa 0) (aa 3) (λ_ _=>rfl)) ah (λ_ _=>rfl)) (fP (aA ax aB (aa 2) (aa 3) (λ_ _=>rfl))))))
   (aq (dQ 2))))
theorem nX {f:Addr} {fd:FuncData} (F:Fun K "like_groups" "like_groups" b5 f fd) (T:Txt K mg) {A37:Addr} {B37:FuncData} (X37:Def K mg "likeness" fB ["tree", "one", "other"] A37 B37) (Y37:FnOk P w K mg base CX0 5 A37 B37 ["tree", "one", "other"] (sp3 K mg f7)) {A31:Addr} {B31:FuncData} (X31:Def K mg "forks" iS ["tree"] A31 B31) (Y31:FnOk P w K mg base CX0 3 A31 B31 ["tree"] (sp3 K mg kL)):FnOk P w K mg base CX0 6 f fd ["tree"] (sp3 K mg fi):=by
 refine dX (N:=["tree", "groups", "waiting", "held"]) (k:=5) (body:=gJ) rfl rfl rfl F fF λcdv A outer s H E hr=>?_
 unfold gJ;exact (ai (aC (i:=1) fF.nd rfl (Or.inl rfl) (bO ao))
   (ai (aC (i:=2) fF.nd rfl (Or.inr rfl) (bC (aE Y31 (hr.mono (by decide)) rfl X31.g X31.F.kp X31.b aU (ab (aa 0) ao))))
   (ai (kA PassesOwn.never (a9 l6 (λ_=>lX) (aP az aT rfl T.z_len PySem.boot_len (ab (aa 2) ao)) ah (aS _)) (ai (gP (i:=3) (sc:=(aj b5)) (outs:=[(0, "tree"),(2, "waiting")]) (is:=[0]) ["node"] (λ_ _ _ q=>oa q) fF.nd rfl (Or.inl rfl) ⟨rfl,rfl,by decide +kernel,by decide +kernel,by decide +kernel,⟨⟨rfl,rfl⟩,⟨rfl,rfl⟩,trivial⟩⟩ rfl (by decide) (bB (aa 2)) (λ_ _ _ _ _=>(aw (i:=0) (show List.Nodup (["node", "tree", "waiting"]:List Str) by decide +kernel) rfl (Or.inl rfl))) (λ_ _ _ _ _=>cB) (λ_ _ _ _ _=>(ay yR (λ_=>Ay) (dA (ab (aa 0) ao)) (aE Y37 (hr.mono (by decide)) rfl X37.g X37.F.kp X37.b aU (ab (aa 1) (ab (aa 0) (ab (aA ax aB (aa 2) ah (λ_ _=>rfl)) ao)))))))
   (ai (e9 1 (bC (b7 (sc:=(aj b5)) (outs:=[]) (is:=[0]) ["member"] ⟨rfl,rfl,by decide +kernel,by decide +kernel,by decide +kernel,trivial⟩ rfl (by decide) (bB (aa 3)) (λ_ _ _ _ _=>(aw (i:=0) (show List.Nodup (["member"]:List Str) by decide +kernel) rfl (Or.inl rfl))) (λ_ _ _ _ _=>(i5 (oX (tW (hZ (aA ax aB (aa 0) ah (λ_ _=>rfl))) (oK (hZ (aA ax aB (aa 0) ah (λ_ _=>rfl)))))))) (λ_ _ _ _ _=>(aa 0)))))
   (aq (aC (i:=2) fF.nd rfl (Or.inr rfl) (bC (b7 (sc:=(aj b5)) (outs:=[]) (is:=[0,1,2]) ["node", "like", "mirror"] ⟨rfl,rfl,by decide +kernel,by decide +kernel,by decide +kernel,trivial⟩ rfl (by decide) (bB (aa 3)) (λ_ _ _ _ _=>(eN (n:=3) rfl (aH (aw (i:=0) (show List.Nodup (["node", "like", "mirror"]:List Str) by decide +kernel) rfl (Or.inl rfl)) (aH (aw (i:=1) (show List.Nodup (["node", "like", "mirror"]:List Str) by decide +kernel) rfl (Or.inl rfl)) (aH (aw (i:=2) (show List.Nodup (["node", "like", "mirror"]:List Str) by decide +kernel) rfl (Or.inl rfl)) da))))) (λ_ _ _ _ _=>(i5 (oX (mE (kM (hZ (aa 1))) (k6 (kM (hZ (aa 2)))))))) (λ_ _ _ _ _=>(aa 0)))))))))
   (aq (dQ 1)))))
theorem yJ {f:Addr} {fd:FuncData} (F:Fun K "leans" "leans" iM f fd) (T:Txt K mg) {A17:Addr} {B17:FuncData} (X17:Def K mg "children_of" bZ ["tree", "node"] A17 B17) (Y17:FnOk P w K mg base CX0 2 A17 B17 ["tree", "node"] (sp3 K mg cn)) {A6:Addr} {B6:FuncData} (X6:Def K mg "child_leans" cF ["sums"] A6 B6) (Y6:FnOk P w K mg base CX0 1 A6 B6 ["sums"] (sp3 K mg e8)) {A38:Addr} {B38:FuncData} (X38:Def K mg "bough_pulls" dm ["tree", "pulls"] A38 B38) (Y38:FnOk P w K mg base CX0 5 A38 B38 ["tree", "pulls"] (sp3 K mg e_)):FnOk P w K mg base CX0 6 f fd ["tree", "pulls"] (sp3 K mg kN):=by
 refine dX (N:=["tree", "pulls", "sums"]) (k:=5) (body:=mv) rfl rfl rfl F tF λcdv A outer s H E hr=>?_
 unfold mv;exact (ai (aC (i:=2) tF.nd rfl (Or.inr rfl) (bC (aE Y38 (hr.mono (by decide)) rfl X38.g X38.F.kp X38.b aU (ab (aa 0) (ab (aa 1) ao)))))
   (aq (bS (o9 (sc:=(aj iM)) (outs:=[(0, "tree"),(2, "sums")]) (is:=[0]) ["node"] ⟨rfl,rfl,by decide +kernel,by decide +kernel,by decide +kernel,by decide +kernel,⟨⟨rfl,rfl⟩,⟨rfl,rfl⟩,trivial⟩⟩ rfl (by decide) (i7 rfl T.z_range (aP az aT rfl T.z_len PySem.boot_len (ab (aa 0) ao))) (λ_ _ _ _ _=>(aw (i:=0) (show List.Nodup (["node", "tree", "sums"]:List Str) by decide +kernel) rfl (Or.inl rfl))) (λ_ _ _ _ _=>cB) (λ_ _ _ _ _=>(aE Y6 (hr.mono (by decide)) rfl X6.g X6.F.kp X6.b aU (ab (b7 (sc:=_) (outs:=[(2, "sums")]) (is:=[0]) ["child"] (u6 rfl (by decide +kernel) (by decide +kernel) (by decide +kernel) (show jw _ _ [(2, "sums")] from ⟨⟨rfl,rfl⟩,trivial⟩)) rfl (by decide) (bB (aE Y17 (hr.mono (by decide)) rfl X17.g X17.F.kp X17.b aU (ab (aa 1) (ab (aa 0) ao)))) (λ_ _ _ _ _=>(aw (i:=0) (show List.Nodup (["child", "sums"]:List Str) by decide +kernel) rfl (Or.inl rfl))) (λ_ _ _ _ _=>cB) (λ_ _ _ _ _=>(aA ax aB (aa 1) (aa 0) (λ_ _=>rfl)))) ao)))))))
theorem sx {f:Addr} {fd:FuncData} (F:FunD K "is_paper" "is_paper" dn f fd) (T:Txt K mg) {A39:Addr} {B39:FuncData} (X39:Def K mg "like_groups" b5 ["tree"] A39 B39) (Y39:FnOk P w K mg base CX0 6 A39 B39 ["tree"] (sp3 K mg fi)) {A40:Addr} {B40:FuncData} (X40:Def K mg "leans" iM ["tree", "pulls"] A40 B40) (Y40:FnOk P w K mg base CX0 6 A40 B40 ["tree", "pulls"] (sp3 K mg kN)) {A32:Addr} {B32:FuncData} (X32:Def K mg "are_pulls" cR ["tree", "pulls"] A32 B32) (Y32:FnOk P w K mg base CX0 3 A32 B32 ["tree", "pulls"] (sp3 K mg bN)) {A7:Addr} {B7:FuncData} (X7:Def K mg "group_leans" bW ["felt", "group"] A7 B7) (Y7:FnOk P w K mg base CX0 1 A7 B7 ["felt", "group"] (sp3 K mg d9)):FnOk P w K mg base CX0 7 f fd ["tree", "pulls", "strict"] (sp3 K mg bV):=by
 refine Kq (N:=["tree", "pulls", "strict", "bottom", "felt"]) (k:=6) (body:=iE) rfl rfl rfl F je λcdv A outer s H E hr=>?_
 unfold iE;exact (ai (dk (kM (hZ (aE Y32 (hr.mono (by decide)) rfl X32.g X32.F.kp X32.b aU (ab (aa 0) (ab (aa 1) ao))))) (aq (bS jb)) bx)
   (ai (aC (i:=3) je.nd rfl (Or.inl rfl) (aP (eT _ rfl rfl) ie rfl T.z_sum PyProof.Rows.boot_sum (ab (aA ax aB (aa 1) ah (λ_ _=>rfl)) ao)))
   (ai (dk (oX (tW (a9 wq (λ_=>vO) (aa 3) ah (aS _)) (oK (a9 (lE hr.units) nT (aa 3) (aP (eT _ rfl rfl) ie rfl T.z_sum PyProof.Rows.boot_sum (ab (aA ax aB (aa 1) ah (λ_ _=>rfl)) ao)) (aS _))))) (aq (bS jb)) bx)
   (ai (aC (i:=4) je.nd rfl (Or.inr rfl) (bC (aE Y40 (hr.mono (by decide)) rfl X40.g X40.F.kp X40.b aU (ab (aa 0) (ab (aa 1) ao)))))
   (ai (dk (hZ (aa 2)) (aq (aC (i:=4) je.nd rfl (Or.inr rfl) (bC (b7 (sc:=(aj dn)) (outs:=[(4, "felt")]) (is:=[0]) ["group"] ⟨rfl,rfl,by decide +kernel,by decide +kernel,by decide +kernel,⟨⟨rfl,rfl⟩,trivial⟩⟩ rfl (by decide) (bB (aE Y39 (hr.mono (by decide)) rfl X39.g X39.F.kp X39.b aU (ab (aa 0) ao))) (λ_ _ _ _ _=>(aw (i:=0) (show List.Nodup (["group", "felt"]:List Str) by decide +kernel) rfl (Or.inl rfl))) (λ_ _ _ _ _=>cB) (λ_ _ _ _ _=>(bC (aE Y7 (hr.mono (by decide)) rfl X7.g X7.F.kp X7.b aU (ab (aa 1) (ab (aa 0) ao))))))))) bx)
   (aq (bS (yU (aP (o8 rfl) uM rfl T.z_any PyProof.Rows.boot_any (ab (b7 (sc:=(aj dn)) (outs:=[]) (is:=[0]) ["row"] ⟨rfl,rfl,by decide +kernel,by decide +kernel,by decide +kernel,trivial⟩ rfl (by decide) (bB (aa 4)) (λ_ _ _ _ _=>(aw (i:=0) (show List.Nodup (["row"]:List Str) by decide +kernel) rfl (Or.inl rfl))) (λ_ _ _ _ _=>cB) (λ_ _ _ _ _=>(aP (o8 rfl) uM rfl T.z_any PyProof.Rows.boot_any (ab (aa 0) ao)))) ao))))))))))
theorem oP {f:Addr} {fd:FuncData} (F:Fun K "_law_judged" "_law_judged" cJ f fd) (T:Txt K mg) {A41:Addr} {B41:FuncData} (X41:DefD K mg "is_paper" dn ["tree", "pulls", "strict"] ["strict"] 2 [.bl false] A41 B41) (Y41:FnOk P w K mg base CX0 7 A41 B41 ["tree", "pulls", "strict"] (sp3 K mg bV)) {A34:Addr} {B34:FuncData} (X34:Def K mg "_law_leans" cI ["_law_tree_here", "_law_pulls"] A34 B34) (Y34:FnOk P w K mg base CX0 3 A34 B34 ["_law_tree_here", "_law_pulls"] (sp3 K mg fU)) {A14:Addr} {B14:FuncData} (X14:Def K mg "_law_copied" b_ ["_law_pulls"] A14 B14) (Y14:FnOk P w K mg base CX0 1 A14 B14 ["_law_pulls"] (sp3 K mg bz)) {A25:Addr} {B25:FuncData} (X25:Def K mg "_law_groups_calm" aQ ["_law_tree_here", "_law_rows"] A25 B25) (Y25:FnOk P w K mg base CX0 2 A25 B25 ["_law_tree_here", "_law_rows"] (sp3 K mg cX)) {A16:Addr} {B16:FuncData} (X16:Def K mg "_law_is" fK ["_law_found", "_law_due"] A16 B16) (Y16:FnOk P w K mg base CX0 1 A16 B16 ["_law_found", "_law_due"] (sp3 K mg cV)):FnOk P w K mg base CX0 8 f fd ["_law_tree_here", "_law_pulls"] (sp3 K mg d6):=by
 refine dX (N:=["_law_tree_here", "_law_pulls", "_law_rows", "_law_sides", "_law_calm", "_law_handed", "_law_found"]) (k:=7) (body:=gy) rfl rfl rfl F ef λcdv A outer s H E hr=>?_
 unfold gy;exact (ai (aC (i:=2) ef.nd rfl (Or.inl rfl) (bC (aE Y34 (hr.mono (by decide)) rfl X34.g X34.F.kp X34.b aU (ab (aa 0) (ab (aa 1) ao)))))
   (ai (aC (i:=3) ef.nd rfl (Or.inl rfl) (kP (kh sN (λ_=>t5) (aP (eT _ rfl rfl) ie rfl T.z_sum PyProof.Rows.boot_sum (ab (aA ax aB (aa 1) ah (λ_ _=>rfl)) ao)) ah (aS _)) (ky (kh (cm hr.units) dH (aP (eT _ rfl rfl) ie rfl T.z_sum PyProof.Rows.boot_sum (ab (aA ax aB (aa 1) ah (λ_ _=>rfl)) ao)) (aP (eT _ rfl rfl) ie rfl T.z_sum PyProof.Rows.boot_sum (ab (aA ax aB (aa 1) ah (λ_ _=>rfl)) ao)) (aS _)))))
   (ai (aC (i:=4) ef.nd rfl (Or.inl rfl) (kh (cm hr.units) dH (aP az aT rfl T.z_len PySem.boot_len (ab (b7 (sc:=(aj cJ)) (outs:=[]) (is:=[0]) ["_law_row"] ⟨rfl,rfl,by decide +kernel,by decide +kernel,by decide +kernel,trivial⟩ rfl (by decide) (bB (aa 2)) (λ_ _ _ _ _=>(aw (i:=0) (show List.Nodup (["_law_row"]:List Str) by decide +kernel) rfl (Or.inl rfl))) (λ_ _ _ _ _=>(i5 (a9 (lE hr.units) nT (aa 0) (ay de eK (bO (ab ah ao)) (aP az aT rfl T.z_len PySem.boot_len (ab (aa 0) ao))) (aS _)))) (λ_ _ _ _ _=>(aa 0))) ao)) ah (aS _)))
   (ai (aC (i:=5) ef.nd rfl (Or.inl rfl) (bC (bO (ab (bC (n9 (g_ _ rfl) lB rfl T.z_list jZ (ab (aa 0) ao))) (ab (bC (aE Y14 (hr.mono (by decide)) rfl X14.g X14.F.kp X14.b aU (ab (aa 1) ao))) ao)))))
   (ai (dk (kM (hZ (aE Y16 (hr.mono (by decide)) rfl X16.g X16.F.kp X16.b aU (ab (r_ Y41 (hr.mono (by decide)) rfl X41.g X41.F.kp X41.d (B0 false) aU (ab (aA ax aB (aa 5) ah (λ_ _=>rfl)) (ab (aA ax aB (aa 5) ah (λ_ _=>rfl)) ao))) (ab (kP (aa 3) (ky (aa 4))) ao))))) (aq (bS jb)) bx)
   (ai (dk (kM (hZ (aE Y16 (hr.mono (by decide)) rfl X16.g X16.F.kp X16.b aU (ab (aE Y41 (hr.mono (by decide)) rfl X41.g X41.F.kp X41.b aU (ab (aA ax aB (aa 5) ah (λ_ _=>rfl)) (ab (aA ax aB (aa 5) ah (λ_ _=>rfl)) (ab jb ao)))) (ab (kP (aa 3) (ky (aa 4))) ao))))) (aq (bS jb)) bx)
   (ai (aC (i:=6) ef.nd rfl (Or.inl rfl) (bC (aE Y41 (hr.mono (by decide)) rfl X41.g X41.F.kp X41.b aU (ab (aA ax aB (aa 5) ah (λ_ _=>rfl)) (ab (aA ax aB (aa 5) ah (λ_ _=>rfl)) (ab jb ao))))))
   (aq (bS (kP (aE Y16 (hr.mono (by decide)) rfl X16.g X16.F.kp X16.b aU (ab (aa 6) (ab (kP (aa 3) (ky (aE Y25 (hr.mono (by decide)) rfl X25.g X25.F.kp X25.b aU (ab (aa 0) (ab (aa 2) ao))))) ao))) (ky (kh (cm hr.units) dH (aa 5) (bO (ab (aa 0) (ab (aa 1) ao))) (aS _)))))))))))))
theorem FX {f:Addr} {fd:FuncData} (F:Fun K "law" "law" lM f fd) (T:Txt K mg) {A41:Addr} {B41:FuncData} (X41:DefD K mg "is_paper" dn ["tree", "pulls", "strict"] ["strict"] 2 [.bl false] A41 B41) (Y41:FnOk P w K mg base CX0 7 A41 B41 ["tree", "pulls", "strict"] (sp3 K mg bV)) {A8:Addr} {B8:FuncData} (X8:Def K mg "_law_cell" cM ["_law_script", "_law_k"] A8 B8) (Y8:FnOk P w K mg base CX0 1 A8 B8 ["_law_script", "_law_k"] (sp3 K mg bA)) {A33:Addr} {B33:FuncData} (X33:Def K mg "_law_family" dg ["_law_script", "_law_start", "_law_many", "_law_kinds"] A33 B33) (Y33:FnOk P w K mg base CX0 3 A33 B33 ["_law_script", "_law_start", "_law_many", "_law_kinds"] (sp3 K mg fv)) {A26:Addr} {B26:FuncData} (X26:Def K mg "_law_level_pulls" bw ["_law_tree_here", "_law_script", "_law_start", "_law_most"] A26 B26) (Y26:FnOk P w K mg base CX0 2 A26 B26 ["_law_tree_here", "_law_script", "_law_start", "_law_most"] (sp3 K mg cZ)) {A27:Addr} {B27:FuncData} (X27:Def K mg "_law_pulled_about" a_ ["_law_tree_here", "_law_pulls", "_law_number"] A27 B27) (Y27:FnOk P w K mg base CX0 2 A27 B27 ["_law_tree_here", "_law_pulls", "_law_number"] (sp3 K mg cP)) {A28:Addr} {B28:FuncData} (X28:Def K mg "_law_no_pulls" cw ["_law_tree_here", "_law_pulls", "_law_number"] A28 B28) (Y28:FnOk P w K mg base CX0 2 A28 B28 ["_law_tree_here", "_law_pulls", "_law_number"] (sp3 K mg d_)) {A16:Addr} {B16:FuncData} (X16:Def K mg "_law_is" fK ["_law_found", "_law_due"] A16 B16) (Y16:FnOk P w K mg base CX0 1 A16 B16 ["_law_found", "_law_due"] (sp3 K mg cV)) {A42:Addr} {B42:FuncData} (X42:Def K mg "_law_judged" cJ ["_law_tree_here", "_law_pulls"] A42 B42) (Y42:FnOk P w K mg base CX0 8 A42 B42 ["_law_tree_here", "_law_pulls"] (sp3 K mg d6)):FnOk P w K mg base CX0 9 f fd ["_law_script"] (sp3 K mg nK):=by
 refine dX (N:=["_law_script", "_law_cell_here", "_law_tree_here", "_law_most", "_law_pulls", "_law_number", "_law_about", "_law_wrong"]) (k:=8) (body:=qK) rfl rfl rfl F kO λcdv A outer s H E hr=>?_
 unfold qK;exact (ai (aC (i:=1) kO.nd rfl (Or.inl rfl) (bC (aE Y8 (hr.mono (by decide)) rfl X8.g X8.F.kp X8.b aU (ab (aa 0) (ab ah ao)))))
   (ai (aC (i:=2) kO.nd rfl (Or.inl rfl) (bC (aE Y33 (hr.mono (by decide)) rfl X33.g X33.F.kp X33.b aU (ab (aa 0) (ab ah (ab (ay aV bh ah (ay bt (λ_=>br) (aa 1) ah)) (ab (ay bt (λ_=>br) (aE Y8 (hr.mono (by decide)) rfl X8.g X8.F.kp X8.b aU (ab (aa 0) (ab ah ao))) ah) ao)))))))
   (ai (aC (i:=3) kO.nd rfl (Or.inl rfl) (aA ax aB (bO (ab ah (ab (ay Es (λ_=>Ei) ah ah) (ab ah ao)))) (aP (mG rfl) (λ_=>rA) rfl T.z_min PyProof.Rows.boot_min (ab (ay bE (λ_=>b8) (ay bt (λ_=>br) (ay bE (λ_=>b8) (aa 1) ah) ah) ah) (ab ah ao))) (λ_ _=>rfl)))
   (ai (aC (i:=4) kO.nd rfl (Or.inl rfl) (bC (aE Y26 (hr.mono (by decide)) rfl X26.g X26.F.kp X26.b aU (ab (aa 2) (ab (aa 0) (ab ah (ab (aa 3) ao)))))))
   (ai (aC (i:=5) kO.nd rfl (Or.inl rfl) (ay bt (λ_=>br) (ay de eK (aE Y8 (hr.mono (by decide)) rfl X8.g X8.F.kp X8.b aU (ab (aa 0) (ab ah ao))) ah) ah))
   (ai (aC (i:=6) kO.nd rfl (Or.inl rfl) (bC (aE Y27 (hr.mono (by decide)) rfl X27.g X27.F.kp X27.b aU (ab (aa 2) (ab (aa 4) (ab (aa 5) ao))))))
   (ai (dk (oX (tW (kM (hZ (aE Y42 (hr.mono (by decide)) rfl X42.g X42.F.kp X42.b aU (ab (aa 2) (ab (aa 4) ao))))) (oK (kM (hZ (aE Y42 (hr.mono (by decide)) rfl X42.g X42.F.kp X42.b aU (ab (aa 2) (ab (aa 6) ao)))))))) (aq (bS jb)) bx)
   (ai (aC (i:=7) kO.nd rfl (Or.inl rfl) (bC (aE Y28 (hr.mono (by decide)) rfl X28.g X28.F.kp X28.b aU (ab (aa 2) (ab (aa 4) (ab (ay bE (λ_=>b8) (aa 5) ah) ao))))))
   (aq (bS (kP (aE Y16 (hr.mono (by decide)) rfl X16.g X16.F.kp X16.b aU (ab (r_ Y41 (hr.mono (by decide)) rfl X41.g X41.F.kp X41.d (B0 false) aU (ab (aa 2) (ab (aa 7) ao))) (ab jb ao))) (ky (aE Y16 (hr.mono (by decide)) rfl X16.g X16.F.kp X16.b aU (ab (aE Y41 (hr.mono (by decide)) rfl X41.g X41.F.kp X41.b aU (ab (aa 2) (ab (aa 7) (ab jb ao)))) (ab jb ao)))))))))))))))
end
noncomputable def gY (f:Nat->Int):Nat->Int
 |0=>0
 |m+1=>gY f m+f m
theorem tZ {l:List Int} {i:Nat} (h:i<l.length):(l.map PyData.int).getD i .none=.int (plA l i):=by
 rw [List.getD_eq_getElem?_getD,Za];unfold plA;rw [Zg h];rfl
theorem zo {a:List (List Nat)} {i:Nat} {r:List Nat} (h:a[i]?=some r):(iG a).getD i .none=.list (du r):=by
 unfold iG;rw [List.getD_eq_getElem?_getD,Za,h];rfl
noncomputable def fl (n:Nat) (f:Nat->Int):List Int:=(List.range n).map f
theorem jU (n:Nat) (f:Nat->Int):(fl n f).length=n:=by unfold fl;rw [Zc,Zh]
theorem yW {n:Nat} {f:Nat->Int} {j:Nat} (h:j<n):atI ((fl n f).map PyData.int) (j:Int)=some (.int (f j)):=fJ (by unfold fl;rw [Za,Za,Zy h];rfl)
theorem va {n:Nat} {f:Nat->Int} {j:Nat} (h:j<n):(bH (fl n f))[j]?=some (.sh (.int (f j))):=by
 unfold bH fl;rw [Za,Za,Za,Zy h];rfl
theorem BS (g:List Int):g=fl g.length (plA g):=by
 apply List.ext_getElem?
 intro i;unfold fl;rw [Za];by_cases h:i<g.length
 ·rw [Zy h]
  show _=some (plA g i)
  unfold plA;rw [Zg h];rfl
 ·rw [Zu (by lia),Zu (by rw [Zh];lia)]
  rfl
theorem zZ (n:Nat) (f:Nat->Int) (j:Nat) (z:Int):(bH (fl n f)).set j (.sh (.int (f j+z)))=bH (fl n λv=>f v+if v=j then z else 0):=by
 rw [d7];congr 1
 have:=jx f (λv=>f v+if v=j then z else 0) n j (λq hq=>by rw [if_neg hq,Int.add_zero])
 rw [if_pos rfl]at this;exact this
theorem rO (n:Nat) (f:Nat->Int) (j:Nat) (z:Int):(bH (fl n f)).set j (.sh (.int (f j-z)))=bH (fl n λv=>f v-if v=j then z else 0):=by
 rw [d7];congr 1
 have:=jx f (λv=>f v-if v=j then z else 0) n j (λq hq=>by rw [if_neg hq,Int.sub_zero])
 rw [if_pos rfl]at this;exact this
noncomputable def sbT (g:List Int) (v:Nat) (p:Nat×Nat):Int:=if v=p.1 then plA g p.2 else 0
noncomputable def lrT (ts:List Nd) (l r:List Int) (v j:Nat):Int:=(if v=hdN (((nums ts)[j]?).getD []) then plA l j else 0)-(if v=ltN (((nums ts)[j]?).getD []) then plA r j else 0)
noncomputable def npA (g:List Int) (L:List (Nat×Nat)) (v:Nat):Int:=plA g v-(L.map (sbT g v)).sum
noncomputable def npF (ts:List Nd) (l r g:List Int) (v:Nat):Int:=npA g (nbs (nums ts)) v+gY (lrT ts l r v) (nums ts).length
theorem tJ (g:List Int) (L:List (Nat×Nat)) (p:Nat×Nat) (v:Nat):npA g (L++[p]) v=npA g L v-(if v=p.1 then plA g p.2 else 0):=by
 unfold npA;rw [Zl,List.sum_append,Zk,List.map_nil,List.sum_cons,List.sum_nil];unfold sbT
 lia
theorem zD {ts:List Nd} {j:Nat} {q:List Nat} (h:(nums ts)[j]?=some q) (l r:List Int) (v:Nat):lrT ts l r v j=(if v=hdN q then plA l j else 0)-(if v=ltN q then plA r j else 0):=by
 unfold lrT;rw [h];rfl
theorem pC (ts:List Nd) (l r g:List Int) (he:EL ts) (h0:0<ts.length) (hl:ts.length<=100) (ll:l.length=(nums ts).length) (lr:r.length=(nums ts).length) (lg:g.length=ts.length) :
  fY [.list (au ts),bo l r g]=.ok (.ol (bH (fl ts.length (npF ts l r g)))):=by
 unfold fY ip bo iD;have g0:(g.map PyData.int).map OD.sh=bH (fl ts.length (plA g)):=by
  show bH g=_
  rw [<-lg,<-BS]
 push_cast only [pD ts he hl,aR,g0];generalize hL:bJ _ _ _ _=r'
 refine cT hL (λi ρ=>∃(v3 v4:Option OD),ρ=[some (.sh (.list (au ts))),some (.sh (.tuple [.list (l.map PyData.int),.list (r.map PyData.int),.list (g.map PyData.int)])),some (.ol (bH (fl ts.length (npA g ((nbs (nums ts)).take i))))),v3,v4,none,none,none])
  ⟨_,_,by
   have:plA g=npA g []:=funext λv=>by unfold npA;rw [List.map_nil,List.sum_nil,Int.sub_zero]
   rw [List.take_zero,<-this]⟩ ?_ ?_
 ·rintro i d ρ hd ⟨v3,v4,rfl⟩
  rw [Za]at hd;obtain ⟨p,hp,rfl⟩:=Zp.mp hd;have lt:=FD he (ZB hp);have ix:ixN (bH (fl ts.length (npA g ((nbs (nums ts)).take i)))).length ((p.1:Nat):Int)=some p.1:=cz (by rw [bc,jU];exact lt.1)
  have a1:=fE (pl:=g) (k:=p.2) (by rw [lg];exact lt.2)
  have gt:=va (f:=npA g ((nbs (nums ts)).take i)) lt.1;have e:(λv=>npA g ((nbs (nums ts)).take i) v-if v=p.1 then plA g p.2 else 0)=npA g ((nbs (nums ts)).take (i+1)):=funext λv=>by rw [take_snoc hp,tJ]
  unfold prD;push_cast only [a1,uF,qQ ix gt,rO,e];exact ⟨_,_,rfl⟩
 ·rintro ρ' rfl ⟨v3,v4,rfl⟩
  rw [Zc,List.take_of_length_le (Zn _)];clear hL;have kz:zN3 [.list (iG (nums ts)),.list (l.map PyData.int),.list (r.map PyData.int)]=.ok (oZ (iG (nums ts)) (l.map PyData.int) (r.map PyData.int)):=Kz ⟨by rw [gH,Zc,ll],by rw [gH,Zc,lr]⟩
  push_cast only [KR,mC ts he hl,lQ,kz];generalize hL:bJ _ _ _ _=r'
  refine cT hL (λi ρ=>∃(v5 v6 v7:Option OD),ρ=[some (.sh (.list (au ts))),some (.sh (.tuple [.list (l.map PyData.int),.list (r.map PyData.int),.list (g.map PyData.int)])),some (.ol (bH (fl ts.length λv=>npA g (nbs (nums ts)) v+gY (lrT ts l r v) i))),v3,v4,v5,v6,v7])
   ⟨_,_,_,by
    have:npA g (nbs (nums ts))=λv=>npA g (nbs (nums ts)) v+gY (lrT ts l r v) 0:=funext λv=>by rw [show gY (lrT ts l r v) 0=0 from rfl,Int.add_zero]
    rw [<-this]⟩ ?_ ?_
  ·rintro i d ρ hd ⟨v5,v6,v7,rfl⟩
   obtain ⟨hi,rfl⟩:=qe hd;rw [gH]at hi;obtain ⟨q,hq⟩:∃q,(nums ts)[i]?=some q:=⟨(nums ts)[i],by simp [hi]⟩
   obtain ⟨f1,f2⟩:=sy he hq;obtain ⟨e1,e2,e3,e4⟩:=kj f1;rw [zo hq,tZ (by lia),tZ (by lia)]
   have ix1:∀f:Nat->Int,ixN (bH (fl ts.length f)).length ((hdN q:Nat):Int)=some (hdN q):=λf=>cz (by rw [bc,jU];exact f2 _ e3)
   have ix2:∀f:Nat->Int,ixN (bH (fl ts.length f)).length ((ltN q:Nat):Int)=some (ltN q):=λf=>cz (by rw [bc,jU];exact f2 _ e4)
   have gt1:=va (f:=λv=>npA g (nbs (nums ts)) v+gY (lrT ts l r v) i) (f2 _ e3)
   have gt2:=va (f:=λv=>(npA g (nbs (nums ts)) v+gY (lrT ts l r v) i)+if v=hdN q then plA l i else 0) (f2 _ e4)
   have s1:=zZ ts.length (λv=>npA g (nbs (nums ts)) v+gY (lrT ts l r v) i) (hdN q) (plA l i)
   have s2:=rO ts.length (λv=>(npA g (nbs (nums ts)) v+gY (lrT ts l r v) i)+if v=hdN q then plA l i else 0) (ltN q) (plA r i)
   have e:(λv=>npA g (nbs (nums ts)) v+gY (lrT ts l r v) i+(if v=hdN q then plA l i else 0)-if v=ltN q then plA r i else 0)=λv=>npA g (nbs (nums ts)) v+gY (lrT ts l r v) (i+1):=funext λv=>by
    rw [show gY (lrT ts l r v) (i+1)=gY (lrT ts l r v) i+lrT ts l r v i from rfl,zD hq]
    lia
   push_cast only [e1,e2,uF,qQ (ix1 _) gt1,s1,qQ (ix2 _) gt2,s2,e];exact ⟨_,_,_,rfl⟩
  ·rintro ρ' rfl ⟨v5,v6,v7,rfl⟩
   rw [pT,gH];push_cast only [and_self];rfl
theorem lO (ts:List Nd) (l r g:List Int) (he:EL ts) (h0:0<ts.length) (hl:ts.length<=100) (ll:l.length=(nums ts).length) (lr:r.length=(nums ts).length) (lg:g.length=ts.length) :
  dt [.list (au ts),bo l r g]=.ok (.ol (bH (fl ts.length (npF ts l r g)))):=by
 unfold dt eQ bo iD;have ok:=gw he ts.length (Zn _);have g0:(g.map PyData.int).map OD.sh=bH (fl ts.length (plA g)):=by
  show bH g=_
  rw [<-lg,<-BS]
 push_cast only [jz ts he h0 hl,aR,g0];generalize hL:bJ _ _ _ _=r'
 refine cT hL (λi ρ=>∃(v3 v4 v5:Option OD),ρ=[some (.sh (.list (au ts))),some (.sh (.tuple [.list (l.map PyData.int),.list (r.map PyData.int),.list (g.map PyData.int)])),some (.ol (bH (fl ts.length λv=>npA g (nbs ((nums ts).take i)) v+gY (lrT ts l r v) i))),v3,v4,v5])
  ⟨_,_,_,by
   have:plA g=λv=>npA g (nbs ((nums ts).take 0)) v+gY (lrT ts l r v) 0:=funext λv=>by
    unfold npA;rw [List.take_zero,show nbs []=[] from rfl,List.map_nil,List.sum_nil,Int.sub_zero,show gY (lrT ts l r v) 0=0 from rfl,Int.add_zero]
   rw [<-this]⟩ ?_ ?_
 ·rintro i d ρ hd ⟨v3,v4,v5,rfl⟩
  obtain ⟨e,he1,rfl⟩:=jH hd;unfold iG at he1;rw [Za]at he1;obtain ⟨q,hq,rfl⟩:=Zp.mp he1;have hi:i<(nums ts).length:=(Zb.mp hq).1;obtain ⟨f1,f2⟩:=sy he hq;obtain ⟨e1,e2,e3,e4⟩:=kj f1;have a3:=fE (pl:=l) (k:=i) (by lia)
  have a4:=fE (pl:=r) (k:=i) (by lia)
  have ql:q.length<=ts.length:=by
   have:=ur (nums ts) i q hq;have:((nums ts).map List.length).sum=ts.length:=ok.sum
   lia
  have q1:1<=q.length:=by
   cases q with
   |nil=>exact absurd rfl f1
   |cons a b=>simp
  have ix1:∀f:Nat->Int,ixN (bH (fl ts.length f)).length ((hdN q:Nat):Int)=some (hdN q):=λf=>cz (by rw [bc,jU];exact f2 _ e3)
  have ix2:∀f:Nat->Int,ixN (bH (fl ts.length f)).length ((ltN q:Nat):Int)=some (ltN q):=λf=>cz (by rw [bc,jU];exact f2 _ e4)
  have gt1:=yW (f:=λv=>npA g (nbs ((nums ts).take i)) v+gY (lrT ts l r v) i) (f2 _ e3)
  have gt2:=yW (f:=λv=>(npA g (nbs ((nums ts).take i)) v+gY (lrT ts l r v) i)+if v=hdN q then plA l i else 0) (f2 _ e4)
  have s1:=zZ ts.length (λv=>npA g (nbs ((nums ts).take i)) v+gY (lrT ts l r v) i) (hdN q) (plA l i)
  have s2:=rO ts.length (λv=>(npA g (nbs ((nums ts).take i)) v+gY (lrT ts l r v) i)+if v=hdN q then plA l i else 0) (ltN q) (plA r i)
  have e:(λv=>npA g (nbs ((nums ts).take i)) v+gY (lrT ts l r v) i+(if v=hdN q then plA l i else 0)-if v=ltN q then plA r i else 0)=λv=>npA g (nbs ((nums ts).take i)++(prs q).take 0) v+gY (lrT ts l r v) (i+1):=funext λv=>by
   rw [show gY (lrT ts l r v) (i+1)=gY (lrT ts l r v) i+lrT ts l r v i from rfl,zD hq,List.take_zero,Zx]
   lia
  have sm1:aK 1=true:=by decide
  have sm2:aK (q.length:Int)=true:=iH (by lia) (by lia)
  push_cast only [e1,e2,a3,a4,bI,gt1,i8 (ix1 _),s1,gt2,i8 (ix2 _),s2,e,iU,sm1,sm2,Bool.and_self];generalize hL2:bJ _ _ _ _=r2
  refine cT hL2 (λp ρ=>∃(v5:Option OD),ρ=[some (.sh (.list (au ts))),some (.sh (.tuple [.list (l.map PyData.int),.list (r.map PyData.int),.list (g.map PyData.int)])),some (.ol (bH (fl ts.length λv=>npA g (nbs ((nums ts).take i)++(prs q).take p) v+gY (lrT ts l r v) (i+1)))),some (.sh (.int i)),some (.sh (.list (du q))),v5]) ⟨_,rfl⟩ ?_ ?_
  ·rintro p d ρ hd ⟨v5,rfl⟩
   obtain ⟨hp,rfl⟩:=fZ hd;have hp2:p+1<q.length:=by lia
   have x1:q[p]?=some q[p]:=Zg (by lia)
   have x2:q[p+1]?=some q[p+1]:=Zg hp2;have hpr:(prs q)[p]?=some (q[p],q[p+1]):=by
    unfold prs;rw [List.getElem?_zip_eq_some];exact ⟨x1,by rw [List.getElem?_drop,Nat.add_comm 1 p];exact x2⟩
   have y1:=mq x1;have y2:=mq x2;have m1:=f2 _ (List.getElem_mem (l:=q) (n:=p) (by lia))
   have m2:=f2 _ (List.getElem_mem hp2);have z3:=fE (pl:=g) (k:=q[p+1]) (by rw [lg];exact m2)
   have i2:(1:Int)+(p:Int)=((p+1:Nat):Int):=by lia
   have i3:((p+1:Nat):Int)-1=(p:Int):=by lia
   have ix:∀f:Nat->Int,ixN (bH (fl ts.length f)).length ((q[p]:Nat):Int)=some q[p]:=λf=>cz (by rw [bc,jU];exact m1)
   have gt:=yW (f:=λv=>npA g (nbs ((nums ts).take i)++(prs q).take p) v+gY (lrT ts l r v) (i+1)) m1
   have s3:=rO ts.length (λv=>npA g (nbs ((nums ts).take i)++(prs q).take p) v+gY (lrT ts l r v) (i+1)) q[p] (plA g q[p+1])
   have e5:(λv=>npA g (nbs ((nums ts).take i)++(prs q).take p) v+gY (lrT ts l r v) (i+1)-if v=q[p] then plA g q[p+1] else 0)=λv=>npA g (nbs ((nums ts).take i)++(prs q).take (p+1)) v+gY (lrT ts l r v) (i+1):=funext λv=>by
    rw [take_snoc hpr,<-ZD,tJ];show _=_-(if v=q[p] then plA g q[p+1] else 0)+_
    lia
   push_cast only [i2,i3,y1,y2,z3,bI,gt,i8 (ix _),s3,e5];exact ⟨_,rfl⟩
  ·rintro ρ' rfl ⟨v5,rfl⟩
   rw [fR,show ((q.length:Int)-1).toNat=q.length-1 by lia]
   have pl:(prs q).length=q.length-1:=by
    unfold prs;rw [List.length_zip,ZF]
    lia
   rw [<-pl,List.take_of_length_le (Zn _)];have wn:nbs ((nums ts).take i)++prs q=nbs ((nums ts).take (i+1)):=by rw [take_snoc hq,rP,show nbs [q]=prs q++[] from rfl,Zx]
   rw [wn];push_cast only [and_self];exact ⟨_,_,_,rfl⟩
 ·rintro ρ' rfl ⟨v3,v4,v5,rfl⟩
  have el:(gT (iG (nums ts))).length=(nums ts).length:=by unfold gT;simp [gH]
  rw [el,List.take_of_length_le (Zn _)];push_cast only [and_self];rfl
noncomputable def bsF (ts:List Nd) (s:List Int):Nat->List Int
 |0=>s
 |m+1=>(bsF ts s m).set (eOf ts (ts.length-1-m)).toNat (plA (bsF ts s m) (eOf ts (ts.length-1-m)).toNat+plA (bsF ts s m) (ts.length-1-m))
theorem nB (ts:List Nd) (s:List Int):∀m,(bsF ts s m).length=s.length
 |0=>rfl
 |m+1=>by rw [bsF,ZJ,nB ts s m]
theorem y9 {s:List Int} {j:Nat} (h:j<s.length):(bH s)[j]?=some (.sh (.int (plA s j))):=by
 unfold bH plA;rw [Za,Za,Zg h];rfl
noncomputable abbrev fT (ts:List Nd) (l r g:List Int):List Int:=bsF ts (fl ts.length (npF ts l r g)) (ts.length-1)
theorem sH (ts:List Nd) (l r g:List Int):(fT ts l r g).length=ts.length:=by rw [nB,jU]
theorem oj (ts:List Nd) (l r g:List Int) (he:EL ts) (h0:0<ts.length) (hl:ts.length<=100) (ll:l.length=(nums ts).length) (lr:r.length=(nums ts).length) (lg:g.length=ts.length) :
  e_ [.list (au ts),bo l r g]=.ok (.ol (bH (fT ts l r g))):=by
 unfold e_ gq;have np:=pC ts l r g he h0 hl ll lr lg;have r3:=λ(ρ:L3.Env) (h1:(eOp eE (eB bP (af (ae 0) av)) (eC (.int 1))) ρ=.ok (.sh (.int ((ts.length:Int)-1))))=>Hz (fa:=eOp eE (eB bP (af (ae 0) av)) (eC (.int 1))) (fb:=eC (.int 0)) (fc:=eUn fN (eC (.int 1))) (ρ:=ρ) (x:=(ts.length:Int)-1) (y:=0) (z:=-1) h1 rfl rfl rfl (iH (by lia) (by lia)) (iH (by decide) (by decide))
 have r4:=r3 [some (.sh (.list (au ts))),some (.sh (bo l r g)),some (.ol (bH (fl ts.length (npF ts l r g)))),none] (by push_cast only [aF])
 push_cast only [np,r4];generalize hL:bJ _ _ _ _=r'
 refine cT hL (λm ρ=>∃v3:Option OD,ρ=[some (.sh (.list (au ts))),some (.sh (bo l r g)),some (.ol (bH (bsF ts (fl ts.length (npF ts l r g)) m))),v3]) ⟨_,rfl⟩ ?_ ?_
 ·rintro m d ρ hd ⟨v3,rfl⟩
  obtain ⟨hm,rfl⟩:=tw hd;obtain ⟨k,hk⟩:∃k:Nat,k=ts.length-1-m:=⟨_,rfl⟩;have hk2:k<ts.length:=by lia
  have ek:(ts.length:Int)-1-(m:Int)=(k:Int):=by lia
  rw [ek];obtain ⟨n,hn⟩:∃n,ts[k]?=some n:=⟨ts[k],by simp [hk2]⟩
  have el:=he k n hn;obtain ⟨j,hj⟩:∃j:Nat,n.e=(j:Int):=⟨n.e.toNat,by have:=el.2.1 (by lia);lia⟩
  have hjk:j<k:=by have:=el.2.2;lia
  have g3:=fm hn;rw [hj]at g3;have bl:(bsF ts (fl ts.length (npF ts l r g)) m).length=ts.length:=by rw [nB,jU]
  have ix:ixN (bH (bsF ts (fl ts.length (npF ts l r g)) m)).length ((j:Nat):Int)=some j:=cz (by rw [bc,bl];lia)
  have gt:=y9 (s:=bsF ts (fl ts.length (npF ts l r g)) m) (j:=j) (by lia)
  have a1:=fE (pl:=bsF ts (fl ts.length (npF ts l r g)) m) (k:=k) (by lia)
  have e:bsF ts (fl ts.length (npF ts l r g)) (m+1)=(bsF ts (fl ts.length (npF ts l r g)) m).set j (plA (bsF ts (fl ts.length (npF ts l r g)) m) j+plA (bsF ts (fl ts.length (npF ts l r g)) m) k):=by rw [bsF,<-hk,eV hn,hj,Int.toNat_natCast]
  push_cast only [g3,bI,a1,uF,qQ ix gt,d7];rw [e];exact ⟨_,rfl⟩
 ·rintro ρ' rfl ⟨v3,rfl⟩
  rw [tM,show ((ts.length:Int)-1-0).toNat=ts.length-1 by lia]
  push_cast only [and_self]
noncomputable def jn (xs:List Int):List Int:=(List.range (xs.length-1)).map λp=>(xs.drop (p+1)).sum-(xs.take (p+1)).sum
noncomputable def cb (ts:List Nd) (s:List Int):List (List Int):=(List.range ts.length).map λk=>jn ((chN ts k).map (plA s))
noncomputable def wb (D:List (List Int)):List OD:=D.map λxs=>OD.ol (bH xs)
theorem su (D:List (List Int)):(wb D).map OD.er=D.map iD:=by
 unfold wb;rw [Zi];exact Zt λxs _=>by show (OD.ol _).er=_;rw [oE,bI];rfl
theorem u9 {ts:List Nd} {q k:Nat} (h:k∈chN ts q):k<ts.length:=by
 unfold chN at h;exact ZH.mp (List.mem_filter.mp h).1
theorem nv (ts:List Nd) (q:Nat):(chN ts q).length<=ts.length:=v_ ts ts.length q
theorem oz (xs:List Int) (hl:xs.length<=100):e8 [.list (xs.map PyData.int)]=.ok (.ol (bH (jn xs))):=by
 unfold e8 gu;have s1:aK 1=true:=by decide
 have s2:aK (xs.length:Int)=true:=iH (by lia) (by lia)
 push_cast only [s1,s2,Bool.and_self];generalize hC:ba _ _ _ _ _ _=rc
 have e:=dc hC (λk:Nat=>PyData.int (1+(k:Int))) (λk=>.sh (.int ((xs.drop (k+1)).sum-(xs.take (k+1)).sum))) (List.range (xs.length-1)) (by rw [show ((xs.length:Int)-1).toNat=xs.length-1 by lia];rfl) (by rw [Zh];exact of_eq_true (aW (by lia))) (by
  intro k hk;have hk:=ZH.mp hk;rw [show (1:Int)+(k:Int)=((k+1:Nat):Int) by lia]
  have c1:cutD (xs.map PyData.int) (some ((k+1:Nat):Int)) none=(xs.drop (k+1)).map PyData.int:=by rw [jM _ _ (by rw [Zc];lia),List.map_drop]
  have c2:cutD (xs.map PyData.int) none (some ((k+1:Nat):Int))=(xs.take (k+1)).map PyData.int:=by rw [mm,List.map_take]
  push_cast only [c1,c2,aR,jt])
 subst e;push_cast only [and_self];unfold jn bH;rw [Zi,Zi];rfl
theorem DN (ts:List Nd) (s:List Int) (k:Nat):((chN ts k).map λc=>OD.sh (.int (plA s c))).map OD.er=((chN ts k).map (plA s)).map PyData.int:=by
 rw [Zi,Zi];exact Zt λp _=>ee _
theorem yt (ts:List Nd) (l r g:List Int) (he:EL ts) (h0:0<ts.length) (hl:ts.length<=100) (ll:l.length=(nums ts).length) (lr:r.length=(nums ts).length) (lg:g.length=ts.length) :
  kN [.list (au ts),bo l r g]=.ok (.ol (wb (cb ts (fT ts l r g)))):=by
 unfold kN mv;have bp:=oj ts l r g he h0 hl ll lr lg;have sl:=sH ts l r g;have s2:aK (ts.length:Int)=true:=iH (by lia) (by lia)
 push_cast only [bp,bI,aF,s2];generalize fT ts l r g=S at sl
 generalize hC:ba _ _ _ _ _ _=rc
 have e:=dc hC (λk:Nat=>PyData.int (0+(k:Int))) (λk=>.ol (bH (jn ((chN ts k).map (plA S))))) (List.range ts.length) (by rw [Int.toNat_natCast];rfl) (by rw [Zh];exact of_eq_true (aW (by lia))) (by
  intro k hk;have hk:=ZH.mp hk;have cl:=nv ts k;rw [Int.zero_add];push_cast only [ki ts k hk hl,j8];generalize hC2:ba _ _ _ _ _ _=rc2
  have e2:=dc hC2 (λc:Nat=>PyData.int (c:Int)) (λc=>.sh (.int (plA S c))) (chN ts k) (by unfold nD iL;rw [Zi];rfl) (of_eq_true (aW (by lia))) (by
   intro c hc;have a1:=fE (pl:=S) (k:=c) (by rw [sl];exact u9 hc)
   push_cast only [a1])
  subst e2;have q:=oz ((chN ts k).map (plA S)) (by rw [Zc];lia)
  push_cast only [DN,q])
 subst e;push_cast only [and_self];unfold wb cb;rw [Zi];rfl
theorem qz (ts:List Nd) (l r g:List Int) (he:EL ts) (h0:0<ts.length) (hl:ts.length<=100) (ll:l.length=(nums ts).length) (lr:r.length=(nums ts).length) (lg:g.length=ts.length) :
  fU [.list (au ts),bo l r g]=.ok (.ol (((cb ts (fT ts l r g)).map iD).map OD.sh)):=by
 unfold fU ik;have np:=lO ts l r g he h0 hl ll lr lg;have r3:=λ(ρ:L3.Env) (h1:(eOp eE (eB bP (af (ae 0) av)) (eC (.int 1))) ρ=.ok (.sh (.int ((ts.length:Int)-1))))=>Hz (fa:=eOp eE (eB bP (af (ae 0) av)) (eC (.int 1))) (fb:=eC (.int 0)) (fc:=eUn fN (eC (.int 1))) (ρ:=ρ) (x:=(ts.length:Int)-1) (y:=0) (z:=-1) h1 rfl rfl rfl (iH (by lia) (by lia)) (iH (by decide) (by decide))
 have r4:=r3 [some (.sh (.list (au ts))),some (.sh (bo l r g)),some (.ol (bH (fl ts.length (npF ts l r g)))),none,none,none,none,none] (by push_cast only [aF])
 push_cast only [np,r4];generalize hL:bJ _ _ _ _=r'
 refine cT hL (λm ρ=>∃v3:Option OD,ρ=[some (.sh (.list (au ts))),some (.sh (bo l r g)),some (.ol (bH (bsF ts (fl ts.length (npF ts l r g)) m))),v3,none,none,none,none]) ⟨_,rfl⟩ ?_ ?_
 ·rintro m d ρ hd ⟨v3,rfl⟩
  obtain ⟨hm,rfl⟩:=tw hd;obtain ⟨k,hk⟩:∃k:Nat,k=ts.length-1-m:=⟨_,rfl⟩;have hk2:k<ts.length:=by lia
  have ek:(ts.length:Int)-1-(m:Int)=(k:Int):=by lia
  rw [ek];obtain ⟨n,hn⟩:∃n,ts[k]?=some n:=⟨ts[k],by simp [hk2]⟩
  have el:=he k n hn;obtain ⟨j,hj⟩:∃j:Nat,n.e=(j:Int):=⟨n.e.toNat,by have:=el.2.1 (by lia);lia⟩
  have hjk:j<k:=by have:=el.2.2;lia
  have g3:=fm hn;rw [hj]at g3;have bl:(bsF ts (fl ts.length (npF ts l r g)) m).length=ts.length:=by rw [nB,jU]
  have ix:ixN (bH (bsF ts (fl ts.length (npF ts l r g)) m)).length ((j:Nat):Int)=some j:=cz (by rw [bc,bl];lia)
  have a0:=fE (pl:=bsF ts (fl ts.length (npF ts l r g)) m) (k:=j) (by lia)
  have a1:=fE (pl:=bsF ts (fl ts.length (npF ts l r g)) m) (k:=k) (by lia)
  have e:bsF ts (fl ts.length (npF ts l r g)) (m+1)=(bsF ts (fl ts.length (npF ts l r g)) m).set j (plA (bsF ts (fl ts.length (npF ts l r g)) m) j+plA (bsF ts (fl ts.length (npF ts l r g)) m) k):=by rw [bsF,<-hk,eV hn,hj,Int.toNat_natCast]
  push_cast only [g3,bI,a0,a1,i8 ix,d7];rw [e];exact ⟨_,rfl⟩
 ·rintro ρ' rfl ⟨v3,rfl⟩
  rw [tM,show ((ts.length:Int)-1-0).toNat=ts.length-1 by lia]
  clear hL;have sl:=sH ts l r g;have lco:((List.range ts.length).map λq=>OD.ol (nO (chN ts q))).map OD.er=(List.range ts.length).map λq=>PyData.list (nD (chN ts q)):=by
   rw [Zi];exact Zt λq _=>by show (OD.ol _).er=_;rw [oE,j8]
  have sd:bsF ts (fl ts.length (npF ts l r g)) (ts.length-1)=fT ts l r g:=rfl;rw [sd];push_cast only [bI,j9 ts he h0 hl,lco];generalize fT ts l r g=S at sl
  generalize hL:bJ _ _ _ _=r'
  refine cT hL (λi ρ=>∃(v5 v6 v7:Option OD),ρ=[some (.sh (.list (au ts))),some (.sh (bo l r g)),some (.sh (.list (S.map PyData.int))),v3,some (.ol ((((cb ts S).take i).map iD).map OD.sh)),v5,v6,v7]) ⟨_,_,_,rfl⟩ ?_ ?_
  ·rintro i d ρ hd ⟨v5,v6,v7,rfl⟩
   rw [Za]at hd;obtain ⟨k,hk,rfl⟩:=Zp.mp hd;have hi:i<ts.length:=by
    have:=(Zb.mp hk).1
    rwa [Zh]at this
   rw [Zy hi]at hk;cases hk;have cl:=nv ts i;have s1:aK 1=true:=by decide
   have s2:aK ((chN ts i).length:Int)=true:=iH (by lia) (by lia)
   have hx:(cb ts S)[i]?=some (jn ((chN ts i).map (plA S))):=by
    unfold cb;rw [Za,Zy hi];rfl
   have ll':((cb ts S).take i).length<=100:=by
    rw [ZE]
    lia
   push_cast only [c7,s1,s2,Bool.and_self];generalize hL2:bJ _ _ _ _=r2
   refine cT hL2 (λp ρ=>∃(v7:Option OD),ρ=[some (.sh (.list (au ts))),some (.sh (bo l r g)),some (.sh (.list (S.map PyData.int))),v3,some (.ol ((((cb ts S).take i).map iD).map OD.sh)),some (.sh (.list (nD (chN ts i)))),some (.ol (bH ((jn ((chN ts i).map (plA S))).take p))),v7]) ⟨_,rfl⟩ ?_ ?_
   ·rintro p d ρ hd ⟨v7,rfl⟩
    obtain ⟨hp,rfl⟩:=fZ hd;have hp2:p+1<(chN ts i).length:=by lia
    rw [show (1:Int)+(p:Int)=((p+1:Nat):Int) by lia]
    have c1:cutD (nD (chN ts i)) (some ((p+1:Nat):Int)) none=nD ((chN ts i).drop (p+1)):=by
     rw [jM _ _ (by rw [c7];lia)]
     unfold nD iL;rw [List.map_drop,List.map_drop]
    have c2:cutD (nD (chN ts i)) none (some ((p+1:Nat):Int))=nD ((chN ts i).take (p+1)):=by
     rw [mm];unfold nD iL;rw [List.map_take,List.map_take]
    have cs:∀(L:List Nat),(∀c∈L,c<ts.length)->L.length<=100->∀(ρ:L3.Env),ρ[2]?=some (some (.sh (.list (S.map PyData.int))))->ba (gNm 0) bQ (eOp gIx (ae 1) (ae 0)) [none,some (.sh (.list (S.map PyData.int)))] (nD L) []=.ok (L.map λc=>OD.sh (.int (plA S c))):=λL h1 h2 ρ _ =>
     dc rfl (λc:Nat=>PyData.int (c:Int)) (λc=>.sh (.int (plA S c))) L (by unfold nD iL;rw [Zi];rfl) (of_eq_true (aW (by lia))) (by
      intro c hc;have a1:=fE (pl:=S) (k:=c) (by rw [sl];exact h1 c hc)
      push_cast only [a1])
    have cs1:=cs ((chN ts i).drop (p+1)) (λc hc=>u9 (List.mem_of_mem_drop hc)) (by rw [ZF];lia) [none,none,some (.sh (.list (S.map PyData.int)))] rfl
    have cs2:=cs ((chN ts i).take (p+1)) (λc hc=>u9 (List.mem_of_mem_take hc)) (by rw [ZE];lia) [none,none,some (.sh (.list (S.map PyData.int)))] rfl
    have em:∀L:List Nat,(L.map λc=>OD.sh (.int (plA S c))).map OD.er=(L.map (plA S)).map PyData.int:=λL=>by
     rw [Zi,Zi];exact Zt λp _=>ee _
    have hlx:(jn ((chN ts i).map (plA S)))[p]?=some ((((chN ts i).drop (p+1)).map (plA S)).sum-(((chN ts i).take (p+1)).map (plA S)).sum):=by
     unfold jn;rw [Za,Zc,Zy (by lia),List.map_drop,List.map_take]
     rfl
    have lb:((bH ((jn ((chN ts i).map (plA S))).take p)).length<BIG)=True:=by
     rw [bc,ZE];exact eg (by lia)
    push_cast only [c1,c2,aR,cs1,cs2,em,jt,lb];refine ⟨some (.sh (.int ((p+1:Nat):Int))),?_⟩;rw [take_snoc hlx];unfold bH;rw [Zl,Zl];rfl
   ·rintro ρ' rfl ⟨v7,rfl⟩
    have lt:(jn ((chN ts i).map (plA S))).take (kf 1 (((chN ts i).length:Int)-1).toNat).length=jn ((chN ts i).map (plA S)):=by
     rw [fR];exact List.take_of_length_le (by unfold jn;rw [Zc,Zh,Zc];lia)
    rw [lt];have lb:((((cb ts S).take i).map iD).map OD.sh).length<BIG:=by
     rw [Zc,Zc];exact of_eq_true (eg (by lia))
    have lb2:((cb ts S).take i).length<BIG:=of_eq_true (eg (by lia))
    push_cast only [bI,lb,lb2];rw [take_snoc hx,Zl,Zl];exact ⟨_,_,_,rfl⟩
  ·rintro ρ' rfl ⟨v5,v6,v7,rfl⟩
   rw [Zc,Zh,List.take_of_length_le (by unfold cb;rw [Zc,Zh];exact Zn _)]
   push_cast only [and_self]
theorem pR (ts:List Nd) (s:List Int):(cb ts s).length=ts.length:=by unfold cb;rw [Zc,Zh]
theorem Fb (ts:List Nd) (j:Nat) (h:j<ts.length):gW [.list (au ts),.int j]=.ok (.sh (.int ((j+1+((ts.drop (j+1)).takeWhile (inB j)).length:Nat):Int))):=by
 unfold gW iN;push_cast only [and_self];generalize hL:fj _ _ _=r
 refine mn hL (λm ρ=>∃i:Nat,m=ts.length-(j+1+i)/\j+1+i<=ts.length/\ρ=[some (.sh (.list (au ts))),some (.sh (.int j)),some (.sh (.int ((j+1+i:Nat):Int)))]/\∀k,k<i->∀n,(ts.drop (j+1))[k]?=some n->inB j n=true) (ts.length-(j+1)) ⟨0,rfl,by lia,by rfl,λk hk=>by lia⟩
  (fun ρ=>ρ=[some (.sh (.list (au ts))),some (.sh (.int j)),some (.sh (.int ((j+1+((ts.drop (j+1)).takeWhile (inB j)).length:Nat):Int)))]) ?_ ?_
 ·rintro m ρ ⟨i,rfl,hi,rfl,ha⟩
  have fin:(∀x,(ts.drop (j+1))[i]?=some x->inB j x=false)->((ts.drop (j+1)).takeWhile (inB j)).length=i:=λhx=>by
   rw [km _ _ i ha hx (by rw [ZF];lia),ZE,ZF]
   lia
  by_cases h1:((j+1+i:Nat):Int)<(ts.length:Int)
  ·obtain ⟨n,hn⟩:∃n,ts[j+1+i]?=some n:=⟨ts[j+1+i]'(by lia),by simp⟩
   have hd:(ts.drop (j+1))[i]?=some n:=by rw [List.getElem?_drop];exact hn
   have g1:=fm hn;by_cases h2:(j:Int)<=n.e
   ·right
    constructor
    ·push_cast only [aF,decide_eq_true h1,g1,decide_eq_true h2]
    ·push_cast only [and_self]
     refine ⟨_,?_,i+1,rfl,by lia,?_,λk hk x hx=>?_⟩
     ·lia
     ·have e:((j+1+i:Nat):Int)+1=((j+1+(i+1):Nat):Int):=by lia
      rw [e]
     ·by_cases hk':k<i
      ·exact ha k hk' x hx
      ·have:k=i:=by lia
       subst this;rw [hd]at hx;cases hx;exact decide_eq_true h2
   ·left
    constructor
    ·push_cast only [aF,decide_eq_true h1,g1,decide_eq_false h2]
    ·rw [fin λx hx=>by rw [hd]at hx;cases hx;exact decide_eq_false h2]
  ·left
   constructor
   ·push_cast only [aF,decide_eq_false h1]
   ·rw [fin λx hx=>by
     have:=(Zb.mp hx).1;rw [ZF]at this
     lia]
 ·rintro ρ' rfl rfl
  push_cast only [and_self]
theorem tE (ts:List Nd) (j:Nat) (h:j<ts.length) (hl:ts.length<=100):gh [.list (au ts),.int j]=.ok (.ol ((au (cU ts j)).map OD.sh)):=by
 unfold gh jh;obtain ⟨r,hr⟩:∃n,ts[j]?=some n:=⟨ts[j]'(by lia),by simp⟩
 have g1:=fm hr;have c1:=sG (au ts) j (by rw [aF];exact h)
 have e1:=Fb ts j h;have w1:((ts.drop (j+1)).takeWhile (inB j)).length<=ts.length-(j+1):=by
  have:=(List.takeWhile_prefix (inB j) (l:=ts.drop (j+1))).length_le;rw [ZF]at this;exact this
 have ej:(j:Int)+1=((j+1:Nat):Int):=by lia
 have cu:=Bl (au ts) (j+1) (j+1+((ts.drop (j+1)).takeWhile (inB j)).length) (by rw [aF];lia) (by rw [aF];lia)
 have cu2:((au ts).drop (j+1)).take (j+1+((ts.drop (j+1)).takeWhile (inB j)).length-(j+1))=au ((ts.drop (j+1)).takeWhile (inB j)):=by
  unfold au;rw [<-List.map_drop,<-List.map_take,Nat.add_sub_cancel_left];congr 1
  have hp:=List.takeWhile_prefix (inB j) (l:=ts.drop (j+1));exact (List.prefix_iff_eq_take.mp hp).symm
 rw [cu2]at cu;push_cast only [c1,g1,e1,ej,cu,aR];generalize hL:bJ _ _ _ _=r'
 refine cT hL (λi ρ=>∃v3:Option OD,ρ=[some (.sh (.list (au ts))),some (.sh (.int j)),some (.ol ((au (⟨-1,r.l,r.t⟩ :: (((ts.drop (j+1)).takeWhile (inB j)).take i).map (kE j))).map OD.sh)),v3]) ⟨_,rfl⟩ ?_ ?_
 ·rintro i d ρ hd ⟨v3,rfl⟩
  unfold au at hd;rw [Za]at hd;obtain ⟨n,hn,rfl⟩:=Zp.mp hd;have hi:=(Zb.mp hn).1;have lb:((au (⟨-1,r.l,r.t⟩ :: (((ts.drop (j+1)).takeWhile (inB j)).take i).map (kE j))).length<BIG)=True:=by
   rw [aF];exact eg (by simp;lia)
  have t1:(au (⟨-1,r.l,r.t⟩ :: (((ts.drop (j+1)).takeWhile (inB j)).take i).map (kE j))).map OD.sh++[OD.sh (.tuple [.int (n.e-j),.str n.l,.int n.t])]=(au (⟨-1,r.l,r.t⟩ :: (((ts.drop (j+1)).takeWhile (inB j)).take (i+1)).map (kE j))).map OD.sh:=by
   rw [List.take_add_one,hn];unfold au;simp [kE,ndD]
  push_cast only [ndD,lb,t1];exact ⟨_,rfl⟩
 ·rintro ρ' rfl ⟨v3,rfl⟩
  push_cast only [and_self];unfold cU;rw [hr,aF,List.take_of_length_le (Zn _)]
noncomputable def rc (n:Nd):Int:=(n.l.length:Int) / 2
noncomputable def shp (ts:List Nd):List (Int×Int):=ts.map λn=>(n.e,rc n)
noncomputable def esI (ts:List Nd):List Int:=ts.map (·.e)
noncomputable def rsI (ts:List Nd):List Int:=ts.map rc
theorem mz:∀a b:List Int,PyData.eqvAll (a.map PyData.int) (b.map PyData.int)=decide (a=b)
 |[],[]=>by rw [decide_eq_true rfl];rfl
 |[],y :: b=>by rw [decide_eq_false (λz=>nomatch z)];rfl
 |x :: a,[]=>by rw [decide_eq_false (λz=>nomatch z)];rfl
 |x :: a,y :: b=>by
  rw [Zk,Zk,PyData.eqvAll,mz a b,PyData.eqv];by_cases h1:x=y
  ·by_cases h2:a=b
   ·simp [h1,h2]
   ·simp [h1,h2]
  ·simp [h1]
theorem xb (a b:List Nd):decide (esI a=esI b/\rsI a=rsI b)=decide (shp a=shp b):=by
 have:(esI a=esI b/\rsI a=rsI b) ↔ shp a=shp b:=by
  have e1:∀ts,esI ts=(shp ts).map (·.1):=λts=>by unfold esI shp;rw [Zi];rfl
  have e2:∀ts,rsI ts=(shp ts).map (·.2):=λts=>by unfold rsI shp;rw [Zi];rfl
  constructor
  ·rintro ⟨h1,h2⟩
   have z:∀ts,shp ts=(esI ts).zip (rsI ts):=λts=>by unfold shp esI rsI;rw [List.zip_map']
   rw [z,z,h1,h2]
  ·intro h
   exact ⟨by rw [e1,e1,h],by rw [e2,e2,h]⟩
 simp only [this]
noncomputable def kK (ts:List Nd):PyData:=.tuple [.list ((esI ts).map PyData.int),.list ((rsI ts).map PyData.int)]
theorem rZ (ts:List Nd):lay 2 (kK ts):=jG λx hx=>by
 simp only [Zo,List.not_mem_nil,or_false]at hx;rcases hx with rfl | rfl
 ·exact lay_ints _
 ·exact lay_ints _
theorem AI (a b:List Nd):gEq (kK a) (kK b)=.ok (.sh (.bool (decide (shp a=shp b)))):=by
 unfold gEq;have e:eqD (kK a) (kK b)=iV (kK a) (kK b):=rfl;rw [e];unfold iV;rw [cS (rZ a) (by decide),cS (rZ b) (by decide),Bool.and_self,if_pos rfl]
 have:PyData.eqv (kK a) (kK b)=decide (shp a=shp b):=by
  unfold kK;rw [PyData.eqv,PyData.eqvAll,PyData.eqvAll,PyData.eqvAll,PyData.eqv,PyData.eqv,mz,mz,Bool.and_true,<-xb];simp
 rw [this];rfl
theorem rR (ts:List Nd) (h:Lb ts) (hl:ts.length<=100):f6 [.list (au ts)]=.ok (.sh (kK ts)):=by
 have r1:iW [.list (au ts)]=.ok (.ol (((rsI ts).map PyData.int).map OD.sh)):=by
  unfold iW j3;push_cast only [and_self];generalize hL:ba _ _ _ _ _ _=r
  have e:=dc hL ndD (λn:Nd=>.sh (.int ((n.l.length:Int) / 2))) ts rfl (of_eq_true (aW (by lia))) (by
   intro n hn;have:=aW (show n.l.length<=1000 by have:=(h n hn).2.1;lia)
   push_cast only [ndD,this])
  subst e;push_cast only [and_self];unfold rsI;rw [Zi,Zi];rfl
 unfold f6 jT;push_cast only [and_self];generalize hL:ba _ _ _ _ _ _=r
 have e:=dc hL ndD (λn:Nd=>.sh (.int n.e)) ts rfl (of_eq_true (aW (by lia))) (by
  intro n hn;push_cast only [ndD])
 subst e;have e2:(ts.map λn:Nd=>OD.sh (.int n.e)).map OD.er=(esI ts).map PyData.int:=by
  unfold esI;rw [Zi,Zi];exact Zt λn _=>ee _
 push_cast only [e2,r1,aR];rfl
theorem Ak (ts:List Nd) (h:Lb ts) (hl:ts.length<=100) (i j:Nat) (hi:i<ts.length) (hj:j<ts.length) (d:F) (p:PT (cU ts j) d) :
  f7 [.list (au ts),.int i,.int j]=.ok (.sh (.tuple [.bool (decide (shp (cU ts i)=shp (cU ts j))),.bool (decide (shp (cU ts i)=shp (hX (cU ts j) d)))])):=by
 unfold f7 jf;have b1:=pS hi;have b2:=pS hj;have f1:=rR (cU ts i) (mD h i) (by lia)
 have f2:=rR (cU ts j) (mD h j) (by lia)
 have f3:=rR (hX (cU ts j) d) (vv p (mD h j)) (by rw [lV p];lia)
 have m:=ua (cU ts j) d p (by lia)
 push_cast only [tE ts i hi hl,tE ts j hj hl,aR,f1,f2,m,f3,AI]
noncomputable def e6:F->Int->Nat->List (Int×Nat)
 |F.nil,_,_=>[]
 |F.cons k c r,p,n=>(p,k) :: (e6 c (n:Int) (n+1)++e6 r p (n+1+(F.pre c).length))
theorem nA:∀(f:F) (p:Int) (n:Nat),(e6 f p n).length=(F.pre f).length
 |F.nil,_,_=>rfl
 |F.cons k c r,p,n=>by
  rw [e6,F.pre,Zr,Zr,Zd,Zd,nA c,nA r]
theorem qV:∀(f:F) (p:Int) (n:Nat) (x:Int×Nat),x∈e6 f p n->x.1=p\/(n:Int)<=x.1
 |F.nil,_,_,x,h=>by cases h
 |F.cons k c r,p,n,x,h=>by
  rw [e6]at h;rcases Zo.mp h with rfl | h
  ·exact .inl rfl
  ·rcases Zs.mp h with h | h
   ·rcases qV c _ _ x h with z | z
    ·exact .inr (by lia)
    ·exact .inr (by lia)
   ·rcases qV r _ _ x h with z | z
    ·exact .inl z
    ·exact .inr (by lia)
theorem uc:∀(f:F) (p:Int) (n:Nat) (x:Int×Nat),(e6 f p n).head?=some x->x.1=p
 |F.nil,_,_,x,h=>by cases h
 |F.cons k c r,p,n,x,h=>by
  rw [e6,List.head?_cons]at h;cases h;rfl
theorem tx {α:Type} (Q:α->Prop):∀{A A' B B':List α},(∀x∈A,Q x)->(∀x∈A',Q x)->(∀x,B.head?=some x->¬Q x)->(∀x,B'.head?=some x->¬Q x)->A++B=A'++B'->A=A'/\B=B'
 |[],[],B,B',_,_,_,_,h=>⟨rfl,h⟩
 |[],a' :: A',B,B',_,h2,h3,_,h=>by
  have h:B=a' :: (A'++B'):=h;exact absurd (h2 a' Zf) (h3 a' (by rw [h];rfl))
 |a :: A,[],B,B',h1,_,_,h4,h=>by
  have h:a :: (A++B)=B':=h;exact absurd (h1 a Zf) (h4 a (by rw [<-h];rfl))
 |a :: A,a' :: A',B,B',h1,h2,h3,h4,h=>by
  rw [List.cons_append,List.cons_append]at h;obtain ⟨e1,e2⟩:=List.cons.inj h;obtain ⟨e3,e4⟩:=tx Q (λx hx=>h1 x (Ze _ hx)) (λx hx=>h2 x (Ze _ hx)) h3 h4 e2
  exact ⟨by rw [e1,e3],e4⟩
theorem rq:∀(f g:F) (p:Int) (n:Nat),p<(n:Int)->e6 f p n=e6 g p n->f=g
 |F.nil,F.nil,_,_,_,_=>rfl
 |F.nil,F.cons _ _ _,_,_,_,h=>by rw [e6,e6]at h;cases h
 |F.cons _ _ _,F.nil,_,_,_,h=>by rw [e6,e6]at h;cases h
 |F.cons k c r,F.cons k' c' r',p,n,hp,h=>by
  rw [e6,e6]at h;obtain ⟨e1,e2⟩:=List.cons.inj h;have ek:k=k':=congrArg Prod.snd e1;obtain ⟨a1,a2⟩:=tx (λx:Int×Nat=>(n:Int)<=x.1)
   (λx hx=>by rcases qV c _ _ x hx with z | z <;> lia) (λx hx=>by rcases qV c' _ _ x hx with z | z <;> lia)
   (λx hx=>by have:=uc r _ _ x hx;lia) (λx hx=>by have:=uc r' _ _ x hx;lia) e2
  have ec:=rq c c' _ _ (by lia) a1
  subst ec;have er:=rq r r' _ _ (by lia) a2
  rw [ek,er]
theorem sY (h:Nat->Nat) (f:F):(F.pre (F.map h f)).length=(F.pre f).length:=by rw [F.kX,Zc]
theorem qL (h:Nat->Nat):∀(f:F) (p:Int) (n:Nat),e6 (F.map h f) p n=(e6 f p n).map λx=>(x.1,h x.2)
 |F.nil,_,_=>rfl
 |F.cons k c r,p,n=>by
  rw [F.map,e6,e6,Zk,Zl,qL h c,qL h r,sY]
noncomputable def rN (ts:List Nd) (k:Nat):Nat:=(gv (j6 ts) k).toNat
theorem HU {ts:List Nd} {k:Nat}:((rN ts k:Nat):Int)=gv (j6 ts) k:=by
 unfold rN;have:0<=gv (j6 ts) k:=by
  unfold gv j6;rw [Za];cases ts[k]? with
  |none=>exact Int.le_refl _
  |some n=>exact Int.ediv_nonneg (by lia) (by decide)
 lia
theorem qR {ch:Nat->List Nat}:∀f:F,F.Con ch f->F.Con (λk=>(ch k).reverse) (F.mir f)
 |F.nil,_=>trivial
 |F.cons k c r,⟨h1,h2,h3⟩=>by
  rw [F.mir];exact (F.nH _ _).mpr ⟨qR r h3,by rw [F.kT,<-h1],qR c h2,trivial⟩
theorem map_two {h g k:Nat->Nat}:∀f:F,(∀q∈F.pre f,h (g q)=k q)->F.map h (F.map g f)=F.map k f
 |F.nil,_=>rfl
 |F.cons q c r,e=>by
  rw [F.map,F.map,F.map,e q (by rw [F.pre];simp),map_two c λx hx=>e x (by rw [F.pre];simp [hx]),map_two r λx hx=>e x (by rw [F.pre];simp [hx])]
theorem mZ {f:F} {k:Nat} (h:k∈F.pre (F.mir f)):k∈F.pre f:=by
 rw [F.kU]at h;exact (F.f9 f).mem_iff.mp h
structure Wt where
 k:Nat
 c:F
 p:Int
noncomputable def jc:F->Int->List Wt
 |F.nil,_=>[]
 |F.cons k c r,i=>⟨k,c,i⟩ :: jc r i
noncomputable def encL:List Wt->Nat->List (Int×Nat)
 |[],_=>[]
 |w :: r,n=>(w.p,w.k) :: (e6 w.c (n:Int) (n+1)++encL r (n+1+(F.pre w.c).length))
noncomputable def szL:List Wt->Nat
 |[]=>0
 |w :: r=>1+(F.pre w.c).length+szL r
theorem sR:∀(c:F) (i:Int) (r:List Wt) (n:Nat),encL (jc c i++r) n=e6 c i n++encL r (n+(F.pre c).length)
 |F.nil,_,_,_=>rfl
 |F.cons k c d,i,r,n=>by
  rw [jc,List.cons_append,encL,sR d,e6,List.cons_append,ZD,F.pre,Zr,Zd];show (i,k) :: (e6 c (n:Int) (n+1)++(e6 d i (n+1+(F.pre c).length)++encL r (n+1+(F.pre c).length+(F.pre d).length)))=_
  rw [show n+1+(F.pre c).length+(F.pre d).length=n+((F.pre c).length+(F.pre d).length+1) by lia]
theorem rz:∀(c:F) (i:Int) (r:List Wt),szL (jc c i++r)=(F.pre c).length+szL r
 |F.nil,_,r=>by
  show szL r=0+szL r
  lia
 |F.cons k c d,i,r=>by
  rw [jc,List.cons_append,szL,rz d,F.pre,Zr,Zd];show 1+(F.pre c).length+_=_
  lia
noncomputable def pairD (x:Nat×Int):PyData:=.tuple [.int (x.1:Int),.int x.2]
noncomputable def dB (L:List Wt):List PyData:=(L.map λw=>pairD (w.k,w.p)).reverse
noncomputable def la (ts:List Nd) (es:List (Int×Nat)):List PyData:=es.map λx=>.tuple [.int x.1,.int (gv (j6 ts) x.2)]
theorem sT:∀(L:List Wt) (n:Nat),(encL L n).length=szL L
 |[],_=>rfl
 |w :: r,n=>by
  rw [encL,Zr,Zd,nA,sT r,szL]
  lia
theorem xx:∀L:List Wt,L.length<=szL L
 |[]=>Zn _
 |x :: r=>by
  have:=xx r;show r.length+1<=1+(F.pre x.c).length+szL r
  lia
noncomputable def CQ (ch:Nat->List Nat) (n:Nat) (w:Wt):Prop:=ch w.k=F.roots w.c/\F.Con ch w.c/\w.k<n/\∀q∈F.pre w.c,q<n
theorem sV {ch:Nat->List Nat} {n:Nat}:∀(c:F) (i:Int),F.Con ch c->(∀q∈F.pre c,q<n)->∀w∈jc c i,CQ ch n w
 |F.nil,_,_,_,w,h=>by cases h
 |F.cons k c d,i,⟨h1,h2,h3⟩,hq,w,h=>by
  rw [jc]at h;rcases Zo.mp h with rfl | h
  ·exact ⟨h1,h2,hq k (by rw [F.pre];simp),λq z=>hq q (by rw [F.pre];simp [z])⟩
  ·exact sV d i h3 (λq z=>hq q (by rw [F.pre];simp [z])) w h
theorem nV:∀(c:F) (i:Int),(jc c i).map (λw=>pairD (w.k,w.p))=(F.roots c).map λk=>pairD (k,i)
 |F.nil,_=>rfl
 |F.cons k c d,i=>by
  rw [jc,F.roots,Zk,Zk,nV d]
theorem xF {a:PyData} {as:List PyData} {n:Nat} (h:lay n (.list (a :: as))) (hn:n<=64):gNe (.list (a :: as)) (.list [])=.ok (.sh (.bool true)):=by
 unfold gNe;rw [jN];unfold iV;rw [cS h hn,show SeqAt.shaped (.list [])=true from cS (lay_ints []) (by decide),Bool.and_self,if_pos rfl]
 have:PyData.eqv (.list (a :: as)) (.list [])=false:=by unfold PyData.eqv PyData.eqvAll;rfl
 rw [this];rfl
theorem xp (L:List Wt):lay 2 (.list (dB L)):=kx λx hx=>by
 unfold dB at hx;rw [List.mem_reverse]at hx;obtain ⟨w,_,rfl⟩:=ZC.mp hx;exact jG λy hy=>by
  simp only [Zo,List.not_mem_nil,or_false]at hy;rcases hy with rfl | rfl
  ·exact jQ _
  ·exact jQ _
noncomputable def chS (ts:List Nd) (turned:Bool) (k:Nat):List Nat:=if turned then (chN ts k).reverse else chN ts k
theorem zc {ts:List Nd} (hl:ts.length<=40) (hlab:∀n∈ts,n.l.length<=1000) (turned:Bool) (some_:List PyData) (hs:∀k,k<ts.length->atI some_ (k:Int)=some (.list (nD (chN ts k)))) {a:Nat} {c:F} (ha:a<ts.length) (h1:chS ts turned a=F.roots c) (h2:F.Con (chS ts turned) c) (h3:∀q∈F.pre c,q<ts.length) (hsz:(F.pre c).length<=100) :
  dE [.list (au ts),.list some_,.int (a:Int),.bool turned]=.ok (.ol ((la ts (e6 (F.cons a c F.nil) (-1) 0)).map OD.sh)):=by
 unfold dE jj;push_cast only [and_self];generalize hL:fj _ _ _=r
 have e0:encL [⟨a,c,-1⟩] 0=e6 (F.cons a c F.nil) (-1) 0:=rfl;refine mn hL (λm ρ=>∃(L:List Wt) (o:List (Int×Nat)) (v6 v7 v8:Option OD),szL L=m/\m<=101/\o.length<=101/\(∀w∈L,CQ (chS ts turned) ts.length w)/\o++encL L o.length=e6 (F.cons a c F.nil) (-1) 0/\ρ=[some (.sh (.list (au ts))),some (.sh (.list some_)),some (.sh (.int (a:Int))),some (.sh (.bool turned)),some (.ol ((la ts o).map OD.sh)),some (.ol ((dB L).map OD.sh)),v6,v7,v8])
  (szL [⟨a,c,-1⟩]) ⟨[⟨a,c,-1⟩],[],_,_,_,rfl,by show 1+(F.pre c).length+0<=101;lia,by simp,λw hw=>?_,by rw [<-e0];rfl,rfl⟩
  (fun ρ=>∃v5 v6 v7 v8:Option OD,ρ=[some (.sh (.list (au ts))),some (.sh (.list some_)),some (.sh (.int (a:Int))),some (.sh (.bool turned)),some (.ol ((la ts (e6 (F.cons a c F.nil) (-1) 0)).map OD.sh)),v5,v6,v7,v8]) ?_ ?_
 ·have:w=⟨a,c,-1⟩:=by simpa using hw
  subst this;exact ⟨h1,h2,ha,h3⟩
 ·rintro m ρ ⟨L,o,v6,v7,v8,hm,hm2,ol,hc,ho,rfl⟩
  cases L with
  |nil =>
   left
   have ge:gNe (.list (dB [])) (.list [])=.ok (.sh (.bool false)):=ow (lay_ints []);rw [encL,Zx]at ho;subst ho;constructor
   ·push_cast only [aR,ge]
   ·exact ⟨_,_,_,_,rfl⟩
  |cons w L =>
   right
   obtain ⟨w1,w2,w3,w4⟩:=hc w Zf;have sd:dB (w :: L)=dB L++[pairD (w.k,w.p)]:=by
    unfold dB;rw [Zk,List.reverse_cons]
   have ge:gNe (.list (dB (w :: L))) (.list [])=.ok (.sh (.bool true)):=by
    have hx:∃x xs,dB (w :: L)=x :: xs:=by
     cases h:dB (w :: L) with
     |nil =>
      rw [sd]at h;simp at h
     |cons x xs=>exact ⟨x,xs,rfl⟩
    obtain ⟨x,xs,e⟩:=hx;have:=xp (w :: L);rw [e]at this ⊢;exact xF this (by decide)
   constructor
   ·push_cast only [aR,ge]
   ·obtain ⟨nd,hn⟩:∃nd,ts[w.k]?=some nd:=⟨ts[w.k],by simp [w3]⟩
    have g1:=fm hn;have lb0:=aW (hlab nd (ZB hn));have g2:=hs w.k w3;have rc:(nd.l.length:Int) / 2=gv (j6 ts) w.k:=by
     unfold gv j6;rw [Za,hn];rfl
    have lb1:((la ts o).length<BIG)=True:=by unfold la;rw [Zc];exact eg (by lia)
    have ks:(la ts o).map OD.sh++[OD.sh (.tuple [.int w.p,.int (gv (j6 ts) w.k)])]=(la ts (o++[(w.p,w.k)])).map OD.sh:=by
     unfold la;rw [Zl,Zl];rfl
    have prt:∀x,turned=x->(if x then nD (chN ts w.k) else (nD (chN ts w.k)).reverse)=nD (F.roots w.c).reverse:=λx hx=>by
     rw [<-w1];unfold chS;subst hx;cases turned with
     |true =>
      rw [if_pos rfl,if_pos rfl,List.reverse_reverse]
     |false =>
      rw [if_neg Zm,if_neg Zm];unfold nD iL;rw [List.map_reverse,List.map_reverse]
    have szw:szL (w :: L)=1+(F.pre w.c).length+szL L:=rfl;have Ll:L.length<=szL L:=xx L;have rl:=F.lT w.c;have kl:(la ts (o++[(w.p,w.k)])).length=o.length+1:=by unfold la;rw [Zc,Zd];rfl
    have sl:(dB L).length=L.length:=by unfold dB;rw [List.length_reverse,Zc]
    have cat:dB L++(F.roots w.c).reverse.map (λk=>pairD (k,(o.length:Int)))=dB (jc w.c (o.length:Int)++L):=by
     unfold dB;rw [Zl,List.reverse_append,nV,List.map_reverse (l:=F.roots w.c)]
    have b1:∀v6 v7:Option OD,nL 4 (eOp cH (ae 5) (bD (e7 (ae 8)) (gNm 0) bQ (g5 (af (ae 0) (af (eOp eE (eB bP (af (ae 1) av)) (eC (.int 1))) av))) 1 [4])) [some (.sh (.list (au ts))),some (.sh (.list some_)),some (.sh (.int (a:Int))),some (.sh (.bool turned)),some (.ol ((la ts (o++[(w.p,w.k)])).map OD.sh)),some (.sh (.list (dB L))),v6,v7,some (.sh (.list (nD (F.roots w.c).reverse)))]=.ok (.ol ((dB (jc w.c (o.length:Int)++L)).map OD.sh)):=λv6 v7=>by
     refine EU 4 _ _ rfl ?_ ?_ ?_
     ·show ((la ts (o++[(w.p,w.k)])).map OD.sh).all Au=true
      rw [List.all_eq_true];intro x hx;obtain ⟨d,hd,rfl⟩:=ZC.mp hx;rfl
     ·push_cast only [oE,aR]
      generalize hC:ba _ _ _ _ _ _=rc
      have e:=dc hC (λk:Nat=>PyData.int (k:Int)) (λk=>.sh (pairD (k,(o.length:Int)))) (F.roots w.c).reverse (by unfold nD iL;rw [Zi];rfl) (by rw [List.length_reverse];exact of_eq_true (aW (by lia))) (by
       intro k hk;have e1:((o.length+1:Nat):Int)-1=(o.length:Int):=by lia
       push_cast only [kl,e1,pairD])
      subst e;clear hC;have em:((F.roots w.c).reverse.map λk=>OD.sh (pairD (k,(o.length:Int)))).map OD.er=(F.roots w.c).reverse.map λk=>pairD (k,(o.length:Int)):=by
       rw [Zi];exact Zt λk _=>ee _
      have lb2:((dB L).length+(F.roots w.c).reverse.length<=BIG)=True:=aW (by rw [sl,List.length_reverse];lia)
      push_cast only [em,lb2,cat]
     ·show ((dB (jc w.c (o.length:Int)++L)).map OD.sh).all AH=true
      rw [List.all_eq_true];intro x hx;obtain ⟨d,hd,rfl⟩:=ZC.mp hx;unfold dB at hd;rw [List.mem_reverse]at hd;obtain ⟨z,_,rfl⟩:=ZC.mp hd;rfl
    have done:∀v6 v7 v8:Option OD,∃m',m'<m/\∃(L':List Wt) (o':List (Int×Nat)) (v6' v7' v8':Option OD),szL L'=m'/\m'<=101/\o'.length<=101/\(∀w∈L',CQ (chS ts turned) ts.length w)/\o'++encL L' o'.length=e6 (F.cons a c F.nil) (-1) 0/\[some (OD.sh (.list (au ts))),some (.sh (.list some_)),some (.sh (.int (a:Int))),some (.sh (.bool turned)),some (.ol ((la ts (o++[(w.p,w.k)])).map OD.sh)),some (.ol ((dB (jc w.c (o.length:Int)++L)).map OD.sh)),v6,v7,v8]=[some (OD.sh (.list (au ts))),some (.sh (.list some_)),some (.sh (.int (a:Int))),some (.sh (.bool turned)),some (.ol ((la ts o').map OD.sh)),some (.ol ((dB L').map OD.sh)),v6',v7',v8']:=λv6 v7 v8=>by
     refine ⟨szL (jc w.c (o.length:Int)++L),by rw [rz];lia,jc w.c (o.length:Int)++L,o++[(w.p,w.k)],v6,v7,v8,rfl,by rw [rz];lia,?_,λz hz=>?_,?_,rfl⟩
     ·have:=congrArg List.length ho
      rw [Zd,sT,nA,F.pre,Zr,Zd,szw]at this;rw [Zd];show o.length+1<=101
      have e3:(F.pre F.nil).length=0:=rfl
      lia
     ·rcases Zs.mp hz with hz | hz
      ·exact sV w.c _ w2 w4 z hz
      ·exact hc z (Ze _ hz)
     ·rw [sR,Zd,ZD]
      exact ho
    rw [sd,Zl];cases turned with
    |true =>
     have pt:nD (chN ts w.k)=nD (F.roots w.c).reverse:=prt true rfl;rw [pt]at g2;push_cast only [se,Zk,List.map_nil,pairD,g1,lb0,rc,lb1,ks,g2,aR,b1];exact done _ _ _
    |false =>
     have pt:(nD (chN ts w.k)).reverse=nD (F.roots w.c).reverse:=prt false rfl;have crev:∀x4 x5 x6 x7:Option OD,pI (ae 8) (eUn fN (eC (.int 1))) [some (.sh (.list (au ts))),some (.sh (.list some_)),some (.sh (.int (a:Int))),some (.sh (.bool false)),x4,x5,x6,x7,some (.sh (.list (nD (chN ts w.k))))]=.ok (.ol ((nD (F.roots w.c).reverse).map OD.sh)):=λx4 x5 x6 x7=>by
      show R.ok (OD.ol ((nD (chN ts w.k)).reverse.map OD.sh))=_
      rw [pt]
     push_cast only [se,Zk,List.map_nil,pairD,g1,lb0,rc,lb1,ks,g2,crev,aR,b1];exact done _ _ _
 ·rintro ρ' rfl ⟨v5,v6,v7,v8,rfl⟩
  push_cast only [and_self]
noncomputable def j7 (s:List (Int×Int)):List PyData:=s.map λp=>.tuple [.int p.1,.int p.2]
theorem wg:∀a b:List (Int×Int),PyData.eqvAll (j7 a) (j7 b)=decide (a=b)
 |[],[]=>by rw [decide_eq_true rfl];rfl
 |[],y :: b=>by rw [decide_eq_false (λz=>nomatch z)];rfl
 |x :: a,[]=>by rw [decide_eq_false (λz=>nomatch z)];rfl
 | (x1,x2) :: a,(y1,y2) :: b=>by
  have ih:=wg a b;unfold j7 at ih ⊢;rw [Zk,Zk,PyData.eqvAll,ih,PyData.eqv,PyData.eqvAll,PyData.eqvAll,PyData.eqvAll,PyData.eqv,PyData.eqv];by_cases h1:x1=y1
  ·by_cases h2:x2=y2
   ·by_cases h3:a=b
    ·simp [h1,h2,h3]
    ·simp [h1,h2,h3]
   ·simp [h1,h2]
  ·simp [h1]
theorem wa (s:List (Int×Int)):lay 2 (.list (j7 s)):=kx λx hx=>by
 obtain ⟨w,_,rfl⟩:=ZC.mp hx;exact jG λy hy=>by
  simp only [Zo,List.not_mem_nil,or_false]at hy;rcases hy with rfl | rfl
  ·exact jQ _
  ·exact jQ _
theorem ye (a b:List (Int×Int)):gEq (.list (j7 a)) (.list (j7 b))=.ok (.sh (.bool (decide (a=b)))):=by
 unfold gEq;rw [jN];unfold iV;rw [cS (wa a) (by decide),cS (wa b) (by decide),Bool.and_self,if_pos rfl]
 have:PyData.eqv (.list (j7 a)) (.list (j7 b))=decide (a=b):=by rw [PyData.eqv,wg]
 rw [this];rfl
noncomputable def yP (ts:List Nd) (f:F):List (Int×Int):=(e6 f (-1) 0).map λx=>(x.1,gv (j6 ts) x.2)
theorem yE (ts:List Nd) (f:F):la ts (e6 f (-1) 0)=j7 (yP ts f):=by
 unfold la j7 yP;rw [Zi];rfl
section
variable {Fm:Type} [DecidableEq Fm] (fo:Nat->Fm) (rv:Fm->Fm) (R:Nat->List Int)
noncomputable def gI (l:List Int) (p:Nat):Int:=(l[p]?).getD 0
noncomputable def tot (W:List Nat) (j p:Nat):Int:=(W.map λk=>(if fo k=fo j then gI (R k) p else 0)+(if fo k=rv (fo j) then gI (R k).reverse p else 0)).sum
noncomputable def rel (k j:Nat):Bool:=decide (fo k=fo j) || decide (fo k=rv (fo j))
noncomputable def calm (W:List Nat) (j:Nat):Prop:=∀p,p<(R j).length->tot fo rv R W j p=0
theorem sum_filter {α:Type} (L:List α) (f:α->Int) (q:α->Bool) (h:∀x∈L,q x=false->f x=0):((L.filter q).map f).sum=(L.map f).sum:=by
 induction L with
 |nil=>rfl
 |cons a r ih =>
  have ih:=ih λx hx=>h x (Ze _ hx)
  cases e:q a with
  |true=>rw [List.filter_cons_of_pos e,Zk,Zk,List.sum_cons,List.sum_cons,ih]
  |false=>rw [List.filter_cons_of_neg (by rw [e];exact Zm),Zk,List.sum_cons,h a Zf e,ih,Int.zero_add]
variable {fo rv R}
theorem fG {k j:Nat}:rel fo rv k j=true ↔ fo k=fo j\/fo k=rv (fo j):=by
 unfold rel;rw [Bool.or_eq_true,decide_eq_true_eq,decide_eq_true_eq]
theorem lW (j:Nat):rel fo rv j j=true:=fG.mpr (.inl rfl)
theorem rel_trans (hr:∀x,rv (rv x)=x) {a b c:Nat} (h:rel fo rv a b=true) (h2:rel fo rv b c=true):rel fo rv a c=true:=by
 rw [fG]at h h2 ⊢;rcases h with h | h <;> rcases h2 with h2 | h2
 ·exact .inl (h.trans h2)
 ·exact .inr (h.trans h2)
 ·exact .inr (h.trans (congrArg rv h2))
 ·refine .inl (h.trans ?_)
  rw [h2,hr]
theorem zK (hr:∀x,rv (rv x)=x) {a b:Nat} (h:rel fo rv a b=true):rel fo rv b a=true:=by
 rw [fG]at h ⊢;rcases h with h | h
 ·exact .inl h.symm
 ·refine .inr ?_
  rw [h,hr]
theorem nN {W:List Nat} {j p:Nat} (q:Nat->Bool) (h:∀k∈W,rel fo rv k j=true->q k=true):tot fo rv R (W.filter q) j p=tot fo rv R W j p:=by
 unfold tot;refine sum_filter _ _ _ λk hk e=>?_
 have hn:¬rel fo rv k j=true:=λz=>by rw [h k hk z]at e;cases e
 rw [fG,not_or]at hn;rw [if_neg hn.1,if_neg hn.2];rfl
theorem yr (hr:∀x,rv (rv x)=x) (hl:∀a b,rel fo rv a b=true->(R a).length=(R b).length) {W:List Nat} {g j:Nat} (h:rel fo rv j g=true) (hc:calm fo rv R W g):calm fo rv R W j:=by
 intro p hp;rw [hl j g h]at hp;rw [fG]at h;rcases h with h | h
 ·have e:tot fo rv R W j p=tot fo rv R W g p:=by
   unfold tot;rw [h]
  rw [e];exact hc p hp
 ·have e:tot fo rv R W j p=tot fo rv R W g ((R g).length-1-p):=by
   unfold tot;refine congrArg List.sum (Zt λk hk=>?_)
   rw [h,hr];by_cases h1:fo k=rv (fo g)
   ·have l1:=hl k g (fG.mpr (.inr h1))
    have e1:gI (R k) p=gI (R k).reverse ((R g).length-1-p):=by
     unfold gI;rw [List.getElem?_reverse (by lia)]
     congr 2
     lia
    by_cases h2:fo k=fo g
    ·have e2:gI (R k).reverse p=gI (R k) ((R g).length-1-p):=by
      unfold gI;rw [List.getElem?_reverse (by lia)]
      congr 2
      lia
     rw [if_pos h1,if_pos h2,if_pos h2,if_pos h1,e1,e2]
     lia
    ·rw [if_pos h1,if_neg h2,if_neg h2,if_pos h1,e1]
     lia
   ·by_cases h2:fo k=fo g
    ·have l1:=hl k g (fG.mpr (.inl h2))
     have e2:gI (R k).reverse p=gI (R k) ((R g).length-1-p):=by
      unfold gI;rw [List.getElem?_reverse (by lia)]
      congr 2
      lia
     rw [if_neg h1,if_pos h2,if_pos h2,if_neg h1,e2]
     lia
    ·rw [if_neg h1,if_neg h2,if_neg h2,if_neg h1]
  rw [e];exact hc _ (by lia)
inductive Calm (fo:Nat->Fm) (rv:Fm->Fm) (R:Nat->List Int):List Nat->Prop
 |nil:Calm fo rv R []
 |cons {w:Nat} {W:List Nat}:calm fo rv R ((w :: W).filter λk=>rel fo rv k w) w->Calm fo rv R ((w :: W).filter λk=>!rel fo rv k w)->Calm fo rv R (w :: W)
theorem zf (hr:∀x,rv (rv x)=x) (hl:∀a b,rel fo rv a b=true->(R a).length=(R b).length):∀(m:Nat) (W:List Nat),W.length<=m->(Calm fo rv R W ↔ ∀j∈W,calm fo rv R W j):=by
 intro m
 induction m with
 |zero =>
  intro W h;have:W=[]:=List.eq_nil_of_length_eq_zero (by lia)
  subst this;exact ⟨(λ_ j hj=>by cases hj),λ_=>.nil⟩
 |succ m ih =>
  intro W h;cases W with
  |nil=>exact ⟨(λ_ j hj=>by cases hj),λ_=>.nil⟩
  |cons w W =>
   have hB:((w :: W).filter λk=>!rel fo rv k w).length<=m:=by
    rw [List.filter_cons_of_neg (by rw [lW];exact Zm)]
    have:=List.length_filter_le (λk=>!rel fo rv k w) W
    rw [Zr]at h
    lia
   have ihB:=ih _ hB;have tA:∀{j:Nat},rel fo rv j w=true->∀p,tot fo rv R ((w :: W).filter λk=>rel fo rv k w) j p=tot fo rv R (w :: W) j p:=fun {j} hj p=>nN _ λk _ hk=>rel_trans hr hk hj
   have tB:∀{j:Nat},rel fo rv j w=false->∀p,tot fo rv R ((w :: W).filter λk=>!rel fo rv k w) j p=tot fo rv R (w :: W) j p:=fun {j} hj p=>nN _ λk _ hk=>by
    cases e:rel fo rv k w with
    |false=>rfl
    |true =>
     rw [rel_trans hr (zK hr hk) e]at hj;cases hj
   constructor
   ·intro hc j hj
    cases hc with
    |cons h1 h2 =>
     cases e:rel fo rv j w with
     |true =>
      intro p hp;rw [<-tA e];exact yr hr hl e h1 p hp
     |false =>
      intro p hp;rw [<-tB e];exact ihB.mp h2 j (List.mem_filter.mpr ⟨hj,by rw [e];rfl⟩) p hp
   ·intro hj
    refine .cons (λp hp=>?_) (ihB.mpr λj hj' p hp=>?_)
    ·rw [tA (lW w)]
     exact hj w Zf p hp
    ·obtain ⟨m1,m2⟩:=List.mem_filter.mp hj'
     rw [tB (by simpa using m2)]
     exact hj j m1 p hp
end
theorem w_ {e:Nat->Int} (f:F):∀(a m:Nat) (P p:Int) (n:Nat),F.pre f=List.range' a m->F.Eld e P f->P<(a:Int) ->
  e6 f p n=(F.pre f).map λk=>((if e k=P then p else (n:Int)+(e k-(a:Int))),k):=by
 induction f with
 |nil =>
  intro a m P p n _ _ _;rfl
 |cons k c r ihc ihr =>
  intro a m P p n hp he hP;obtain ⟨e1,e2,e3⟩:=he;have hp':k :: (F.pre c++F.pre r)=List.range' a m:=hp;cases m with
  |zero=>cases hp'
  |succ m =>
   rw [List.range'_succ]at hp';obtain ⟨hk,ht⟩:=List.cons.inj hp';subst hk;have hlen:(F.pre c).length+(F.pre r).length=m:=by
    have:=congrArg List.length ht;rw [Zd,List.length_range']at this;exact this
   have hs:List.range' (k+1) m=List.range' (k+1) (F.pre c).length++List.range' (k+1+(F.pre c).length) (F.pre r).length:=by
    rw [<-hlen];have:=List.range'_append (s:=k+1) (m:=(F.pre c).length) (n:=(F.pre r).length) (step:=1);rw [Nat.one_mul]at this;exact this.symm
   rw [hs]at ht;obtain ⟨hc,hr⟩:=List.append_inj ht (by rw [List.length_range'])
   have ic:=ihc (k+1) _ (k:Int) (n:Int) (n+1) hc e2 (by lia)
   have ir:=ihr (k+1+(F.pre c).length) _ P p (n+1+(F.pre c).length) hr e3 (by lia)
   show (p,k) :: (e6 c (n:Int) (n+1)++e6 r p (n+1+(F.pre c).length))=_
   rw [ic,ir,show F.pre (F.cons k c r)=k :: (F.pre c++F.pre r) from rfl,Zk,Zl,e1,if_pos rfl]
   congr 2
   ·refine Zt λq hq=>?_
    have ge:=F.uQ c (k:Int) e2 (λx hx=>by
     rw [hc]at hx;have:=List.mem_range'.mp hx
     lia) q hq
    rw [if_neg (show ¬e q=P by lia)]
    by_cases hz:e q=(k:Int)
    ·rw [if_pos hz,hz]
     congr 1
     lia
    ·rw [if_neg hz]
     congr 1
     lia
   ·refine Zt λq hq=>?_
    by_cases hz:e q=P
    ·rw [if_pos hz,if_pos hz]
    ·rw [if_neg hz,if_neg hz]
     congr 1
     lia
noncomputable instance decF:DecidableEq F:=λa b=>Classical.propDecidable (a=b)
namespace F
theorem wm (h:Nat->Nat) (f:F):mir (map h f)=map h (mir f):=by
 induction f with
 |nil=>rfl
 |cons k c r ihc ihr =>
  show app (mir (map h r)) (cons (h k) (mir (map h c)) nil)=map h (app (mir r) (cons k (mir c) nil))
  rw [tV,ihc,ihr];rfl
end F
noncomputable def jd (f:F):List (Int×Int):=(e6 f (-1) 0).map λx=>(x.1,((x.2:Nat):Int))
theorem ug (ts:List Nd) (f:F):yP ts f=jd (F.map (rN ts) f):=by
 unfold yP jd;rw [qL,Zi];refine Zt λx _=>?_
 show (x.1,gv (j6 ts) x.2)=(x.1,((rN ts x.2:Nat):Int))
 rw [HU]
theorem y_ {f g:F} (h:jd f=jd g):f=g:=by
 refine rq f g (-1) 0 (by decide) ?_
 have h2:=congrArg (List.map λx:Int×Int=>(x.1,x.2.toNat)) h
 unfold jd at h2;rw [Zi,Zi]at h2;have e:((λx:Int×Int=>(x.1,x.2.toNat)) ∘ λx:Int×Nat=>(x.1,((x.2:Nat):Int)))=id:=by
  funext x
  rfl
 rw [e,List.map_id,List.map_id]at h2;exact h2
theorem l_ (f g:F):decide (jd f=jd g)=decide (f=g):=by
 by_cases h:f=g
 ·rw [decide_eq_true h,decide_eq_true (by rw [h])]
 ·rw [decide_eq_false h,decide_eq_false λz=>h (y_ z)]
theorem oF {us:List Nd} {d:F} (p:PT us d):shp us=jd (F.map (rN us) (F.full d)):=by
 rw [<-ug];unfold yP;rw [w_ (e:=eOf us) (F.full d) 0 us.length (-1) (-1) 0 (by rw [p.preF,List.range_eq_range']) p.eldF (by decide),p.preF,Zi]
 unfold shp;apply List.ext_getElem?
 intro i;rw [Za,Za];by_cases hi:i<us.length
 ·obtain ⟨n,hn⟩:∃n,us[i]?=some n:=⟨us[i],by simp [hi]⟩
  rw [hn,Zy hi,Option.map_some,Option.map_some];have e1:eOf us i=n.e:=eV hn;have e2:gv (j6 us) i=rc n:=by
   unfold gv j6;rw [Za,hn];rfl
  show some (n.e,rc n)=some ((if eOf us i=-1 then (-1:Int) else ((0:Nat):Int)+(eOf us i-((0:Nat):Int))),gv (j6 us) i)
  rw [e1,e2];congr 2
  split <;> lia
 ·rw [Zu (by lia),Zu (by rw [Zh];lia)]
  rfl
theorem BH {us:List Nd} {d:F} (p:PT us d) {k:Nat} (hk:k<us.length):rN (hX us d) (F.g d k)=rN us k:=by
 have h1:=p.at_g hk;have h2:(hX us d)[F.g d k]?=some ⟨F.gi d (d5 us k).e,(d5 us k).l,(d5 us k).t⟩:=by
  unfold hX;rw [Za,h1];rfl
 unfold rN gv j6;rw [Za,Za,h2,vU hk];rfl
theorem xE {us:List Nd} {d:F} (p:PT us d):shp (hX us d)=jd (F.mir (F.map (rN us) (F.full d))):=by
 rw [oF (vG p),F.wt,F.wm,map_two (k:=rN us)];intro q hq;have hq:=mZ hq;rw [p.preF,ZH]at hq;exact BH p hq
structure NF (ts:List Nd) (a:Nat) (f:F):Prop where
 ch:chN ts a=F.roots f
 con:F.Con (chN ts) f
 lt:∀k∈F.pre f,k<ts.length
 len:(F.pre f).length<=ts.length
 bough:∃d,PT (cU ts a) d/\F.map (rN (cU ts a)) (F.full d)=F.map (rN ts) (F.cons a f F.nil)
theorem BU {ts:List Nd} {c:F} (p:PT ts c) {j:Nat} (hj:j<ts.length):∃f,NF ts j f:=by
 obtain ⟨r,hr⟩:∃n,ts[j]?=some n:=⟨ts[j]'(by lia),by simp⟩
 obtain ⟨cj,s,q1,q2,q3,q4,q5,q6⟩:=F.rQ (e:=eOf ts) (F.full c) 0 ts.length (-1) (by rw [p.preF,List.range_eq_range']) p.eldF p.con (by decide) j (by lia) (by lia)
 rw [Nat.zero_add]at q3 q4;have ge:=F.uQ cj (j:Int) q2 (λk m=>by rw [q1,List.mem_range'_1]at m;lia)
 have at1:∀k,(ts.drop (j+1))[k]?=ts[j+1+k]?:=λk=>List.getElem?_drop
 have hl:((ts.drop (j+1)).takeWhile (inB j)).length=s:=yH _ _ s (by rw [ZF];lia) (λk hk x hx=>by
  rw [at1]at hx;have:=ge (j+1+k) (by rw [q1,List.mem_range'_1];lia)
  rw [eV hx]at this;exact decide_eq_true this) (λx hx=>by
  rw [at1]at hx;have hlt:=(Zb.mp hx).1;have:=q4 hlt;rw [eV hx]at this;exact decide_eq_false (by lia))
 have hb:cU ts j=⟨-1,r.l,r.t⟩ :: ((ts.drop (j+1)).takeWhile (inB j)).map (kE j):=by unfold cU;rw [hr]
 have bl:(cU ts j).length=s+1:=by rw [hb,Zr,Zc,hl]
 have tk:(ts.drop (j+1)).takeWhile (inB j)=(ts.drop (j+1)).take s:=by
  have:=List.takeWhile_prefix (inB j) (l:=ts.drop (j+1));rw [List.prefix_iff_eq_take.mp this,hl]
 have row:∀k,k<s->∀x,ts[j+1+k]?=some x->(cU ts j)[k+1]?=some (kE j x):=λk hk x hx=>by
  rw [hb,tk,List.getElem?_cons_succ,Za,List.getElem?_take_of_lt hk,at1,hx];rfl
 have e2:∀k,k<s->eOf (cU ts j) (k+1)=eOf ts (j+1+k)-j:=λk hk=>by
  obtain ⟨x,hx⟩:∃n,ts[j+1+k]?=some n:=⟨ts[j+1+k]'(by lia),by simp⟩
  rw [eV hx,eV (row k hk x hx)];rfl
 have P:PT (cU ts j) (F.map (·-j) cj):=by
  refine ⟨?_,?_,?_⟩
  ·rw [F.kX,q1,bl,List.range_eq_range',List.range'_succ]
   congr 1
   apply List.ext_getElem?
   intro i;rw [Za];by_cases hi:i<s
   ·rw [List.getElem?_range' hi,List.getElem?_range' hi]
    simp
    lia
   ·rw [Zu (by rw [List.length_range'];lia),Zu (by rw [List.length_range'];lia)]
    rfl
  ·rw [hb]
   rfl
  ·have:=F.lR (e:=eOf ts) (e':=eOf (cU ts j)) (h:=(·-j)) (hi:=λz=>z-j) (j:Int) cj (λk m=>by
    rw [q1,List.mem_range'_1]at m;refine ⟨?_,by lia⟩
    have:=e2 (k-j-1) (by lia)
    rw [show k-j-1+1=k-j by lia,show j+1+(k-j-1)=k by lia]at this
    exact this) q2
   rw [Int.sub_self]at this;exact this
 refine ⟨cj,q6,q5,λk hk=>?_,?_,_,P,?_⟩
 ·rw [q1,List.mem_range'_1]at hk
  lia
 ·rw [q1,List.length_range']
  lia
 ·have fe:F.full (F.map (·-j) cj)=F.map (·-j) (F.cons j cj F.nil):=by
   show F.cons 0 (F.map (·-j) cj) F.nil=F.cons (j-j) (F.map (·-j) cj) F.nil
   rw [Nat.sub_self]
  rw [fe];refine map_two (k:=rN ts) _ λq hq=>?_
  have hq:q=j\/q∈F.pre cj:=by
   have:q∈j :: (F.pre cj++F.pre F.nil):=hq;rcases Zo.mp this with h | h
   ·exact .inl h
   ·rcases Zs.mp h with h | h
    ·exact .inr h
    ·cases h
  unfold rN gv j6;rw [Za,Za];rcases hq with rfl | hq
  ·rw [Nat.sub_self,hb,hr]
   rfl
  ·rw [q1,List.mem_range'_1]at hq
   obtain ⟨x,hx⟩:∃n,ts[q]?=some n:=⟨ts[q]'(by lia),by simp⟩
   have:=row (q-j-1) (by lia) x (by rw [show j+1+(q-j-1)=q by lia];exact hx)
   rw [show q-j-1+1=q-j by lia]at this
   rw [this,hx];rfl
noncomputable def nf (ts:List Nd) (a:Nat):F:=open Classical in if h:∃f,NF ts a f then choose h else F.nil
theorem tY {ts:List Nd} {c:F} (p:PT ts c) {a:Nat} (ha:a<ts.length):NF ts a (nf ts a):=by
 unfold nf;rw [dif_pos (BU p ha)];exact Classical.choose_spec (BU p ha)
noncomputable def fo (ts:List Nd) (a:Nat):F:=F.map (rN ts) (F.cons a (nf ts a) F.nil)
theorem GA {ts:List Nd} {c:F} (p:PT ts c) (h:Lb ts) (hl:ts.length<=100) {i j:Nat} (hi:i<ts.length) (hj:j<ts.length) :
  f7 [.list (au ts),.int i,.int j]=.ok (.sh (.tuple [.bool (decide (fo ts i=fo ts j)),.bool (decide (fo ts i=F.mir (fo ts j)))])):=by
 obtain ⟨di,pi,ei⟩:=(tY p hi).bough;obtain ⟨dj,pj,ej⟩:=(tY p hj).bough;rw [Ak ts h hl i j hi hj dj pj,oF pi,oF pj,xE pj,ei,ej,l_,l_];rfl
noncomputable def nfT (t:Bool) (f:F):F:=if t then F.mir f else f
theorem Kw {ts:List Nd} {c:F} (p:PT ts c) (hl:ts.length<=40) (hlab:∀n∈ts,n.l.length<=1000) (turned:Bool) (some_:List PyData) (hs:∀k,k<ts.length->atI some_ (k:Int)=some (.list (nD (chN ts k)))) {a:Nat} (ha:a<ts.length) :
  dE [.list (au ts),.list some_,.int (a:Int),.bool turned]=.ok (.ol ((j7 (jd (nfT turned (fo ts a)))).map OD.sh)):=by
 have N:=tY p ha;cases turned with
 |false =>
  rw [zc hl hlab false some_ hs ha (c:=nf ts a) N.ch N.con N.lt (by have:=N.len;lia),yE,ug]
  rfl
 |true =>
  have h1:chS ts true a=F.roots (F.mir (nf ts a)):=by
   show (chN ts a).reverse=_
   rw [F.kT,<-N.ch]
  rw [zc hl hlab true some_ hs ha (c:=F.mir (nf ts a)) h1 (qR _ N.con) (λq hq=>N.lt q (mZ hq)) (by rw [F.kU,(F.f9 _).length_eq];have:=N.len;lia),yE,ug]
  have:F.map (rN ts) (F.cons a (F.mir (nf ts a)) F.nil)=F.mir (fo ts a):=by
   unfold fo;rw [F.wm];rfl
  rw [this];rfl
theorem EC {ts:List Nd} {c:F} (p:PT ts c) {a b:Nat} (ha:a<ts.length) (hb:b<ts.length) (h:rel (fo ts) F.mir a b=true):(chN ts a).length=(chN ts b).length:=by
 have e1:=(tY p ha).ch;have e2:=(tY p hb).ch;have hm:∀f:F,((F.roots (F.map (rN ts) f))).length=(F.roots f).length:=λf=>by rw [F.nJ,Zc]
 rcases fG.mp h with h | h
 ·have h:F.cons (rN ts a) (F.map (rN ts) (nf ts a)) F.nil=F.cons (rN ts b) (F.map (rN ts) (nf ts b)) F.nil:=h
  injection h with h1 h2 h3
  rw [e1,e2,<-hm (nf ts a),h2,hm]
 ·have h:F.cons (rN ts a) (F.map (rN ts) (nf ts a)) F.nil=F.cons (rN ts b) (F.mir (F.map (rN ts) (nf ts b))) F.nil:=h
  injection h with h1 h2 h3
  rw [e1,e2,<-hm (nf ts a),h2,F.kT,List.length_reverse,hm]
noncomputable def fk (ts:List Nd):List Nat:=(List.range ts.length).filter λk=>decide ((1:Int)<((chN ts k).length:Int))
theorem t6 {ts:List Nd} {k:Nat} (h:k∈fk ts):k<ts.length:=ZH.mp (List.mem_filter.mp h).1
theorem rh (ts:List Nd):(fk ts).length<=ts.length:=by
 have:=List.length_filter_le (λk=>decide ((1:Int)<((chN ts k).length:Int))) (List.range ts.length)
 rw [Zh]at this;exact this
theorem ia (L:List Nat):(L.map λk:Nat=>OD.sh (.int (k:Int))).map OD.er=nD L:=by
 rw [Zi];unfold nD iL;rw [Zi];exact Zt λk _=>ee _
theorem zM (ts:List Nd) (hl:ts.length<=100):kL [.list (au ts)]=.ok (.ol ((fk ts).map λk:Nat=>OD.sh (.int (k:Int)))):=by
 unfold kL mf;have s2:aK (ts.length:Int)=true:=iH (by lia) (by lia)
 push_cast only [aF,s2];generalize hC:ba _ _ _ _ _ _=rc
 have e:=gR hC (λk:Nat=>PyData.int (0+(k:Int))) (λk=>decide ((1:Int)<((chN ts k).length:Int))) (λk:Nat=>.sh (.int (k:Int))) (List.range ts.length) (by rw [Int.toNat_natCast];rfl) (by rw [Zh];exact of_eq_true (aW (by lia))) (by
  intro k hk;have ck:=ki ts k (ZH.mp hk) hl;refine ⟨?_,λ_=>?_⟩
  ·rw [Int.zero_add]
   push_cast only [ck,j8,c7]
  ·rw [Int.zero_add]
   push_cast only [and_self])
 subst e;push_cast only [and_self];rfl
noncomputable def fo2 (ts:List Nd) (a:Nat):Option F:=if a<ts.length then some (fo ts a) else none
noncomputable def rv2 (x:Option F):Option F:=x.map F.mir
theorem EK (x:Option F):rv2 (rv2 x)=x:=by
 cases x with
 |none=>rfl
 |some f =>
  show some (F.mir (F.mir f))=some f
  rw [F.mi]
theorem kF {ts:List Nd} {a:Nat} (h:a<ts.length):fo2 ts a=some (fo ts a):=if_pos h
theorem zC {ts:List Nd} {a b:Nat} (ha:a<ts.length) (hb:b<ts.length):decide (fo ts a=fo ts b)=decide (fo2 ts a=fo2 ts b):=by
 rw [kF ha,kF hb];by_cases h:fo ts a=fo ts b
 ·rw [decide_eq_true h,decide_eq_true (by rw [h])]
 ·rw [decide_eq_false h,decide_eq_false λz=>h (Zz z)]
theorem yl {ts:List Nd} {a b:Nat} (ha:a<ts.length) (hb:b<ts.length):decide (fo ts a=F.mir (fo ts b))=decide (fo2 ts a=rv2 (fo2 ts b)):=by
 rw [kF ha,kF hb];show _=decide (some (fo ts a)=some (F.mir (fo ts b)))
 by_cases h:fo ts a=F.mir (fo ts b)
 ·rw [decide_eq_true h,decide_eq_true (by rw [h])]
 ·rw [decide_eq_false h,decide_eq_false λz=>h (Zz z)]
theorem FO {ts:List Nd} {a b:Nat} (ha:a<ts.length) (hb:b<ts.length):decide (F.mir (fo ts a)=fo ts b)=decide (fo2 ts a=rv2 (fo2 ts b)):=by
 rw [<-yl ha hb];by_cases h:fo ts a=F.mir (fo ts b)
 ·rw [decide_eq_true h,decide_eq_true (by rw [h,F.mi])]
 ·rw [decide_eq_false h,decide_eq_false λz=>h (by rw [<-z,F.mi])]
noncomputable def lkB (ts:List Nd) (w k:Nat):Bool:=decide (fo2 ts k=fo2 ts w)
noncomputable def mrB (ts:List Nd) (w k:Nat):Bool:=decide (fo2 ts k=rv2 (fo2 ts w))
theorem y6 (ts:List Nd) (k w:Nat):rel (fo2 ts) rv2 k w=(lkB ts w k || mrB ts w k):=rfl
noncomputable def memD (ts:List Nd) (w k:Nat):PyData:=.tuple [.int (k:Int),.bool (lkB ts w k),.bool (mrB ts w k)]
noncomputable def gsF (ts:List Nd):Nat->List Nat->List (Nat×List Nat)
 |0,_=>[]
 |_+1,[]=>[]
 |m+1,w :: W=>(w,(w :: W).filter λk=>rel (fo2 ts) rv2 k w) :: gsF ts m ((w :: W).filter λk=>!rel (fo2 ts) rv2 k w)
theorem n8 (ts:List Nd) (w:Nat) (W:List Nat):((w :: W).filter λk=>!rel (fo2 ts) rv2 k w).length<=W.length:=by
 rw [List.filter_cons_of_neg (by rw [lW];exact Zm)]
 exact List.length_filter_le _ _
theorem AV (ts:List Nd):∀(m n:Nat) (V:List Nat),V.length<=m->V.length<=n->gsF ts m V=gsF ts n V:=by
 intro m
 induction m with
 |zero =>
  intro n V h1 h2;have:V=[]:=List.eq_nil_of_length_eq_zero (by lia)
  subst this;cases n <;> rfl
 |succ m ih =>
  intro n V h1 h2;cases V with
  |nil=>cases n <;> rfl
  |cons w W =>
   rw [Zr]at h1 h2;obtain ⟨n',rfl⟩:∃n',n=n'+1:=⟨n-1,by lia⟩
   have dl:=n8 ts w W;rw [gsF,gsF,ih n' _ (by lia) (by lia)]
noncomputable def gsD (ts:List Nd) (G:List (Nat×List Nat)):List PyData:=G.map λx=>.list (x.2.map (memD ts x.1))
theorem wJ (ts:List Nd) {c:F} (p:PT ts c) (h:Lb ts) (hl:ts.length<=100):fi [.list (au ts)]=.ok (.ol ((gsD ts (gsF ts (fk ts).length (fk ts))).map OD.sh)):=by
 unfold fi gJ;have fl:=rh ts;push_cast only [zM ts hl,ia];generalize hL:fj _ _ _=r
 refine mn hL (λm ρ=>∃(V:List Nat) (G:List (Nat×List Nat)) (v3:Option OD),V.length=m/\(∀k∈V,k<ts.length)/\G.length+V.length<=ts.length/\G++gsF ts V.length V=gsF ts (fk ts).length (fk ts)/\ρ=[some (.sh (.list (au ts))),some (.ol ((gsD ts G).map OD.sh)),some (.sh (.list (nD V))),v3])
  (fk ts).length ⟨fk ts,[],_,rfl,λk hk=>t6 hk,by rw [List.length_nil];lia,rfl,rfl⟩
  (fun ρ=>∃v2 v3:Option OD,ρ=[some (.sh (.list (au ts))),some (.ol ((gsD ts (gsF ts (fk ts).length (fk ts))).map OD.sh)),v2,v3]) ?_ ?_
 ·rintro m ρ ⟨V,G,v3,hm,hV,hG,ho,rfl⟩
  cases V with
  |nil =>
   left
   rw [show gsF ts ([]:List Nat).length []=[] from rfl,Zx]at ho
   subst ho;exact ⟨by push_cast only [c7],_,_,rfl⟩
  |cons w V =>
   right
   have hw:=hV w Zf;have dl:=n8 ts w V;have gf:gsF ts (w :: V).length (w :: V)=(w,(w :: V).filter λk=>rel (fo2 ts) rv2 k w) :: gsF ts ((w :: V).filter λk=>!rel (fo2 ts) rv2 k w).length ((w :: V).filter λk=>!rel (fo2 ts) rv2 k w):=by
    rw [Zr,gsF,AV ts V.length _ _ dl (Zn _)]
   have w0:atI (nD (w :: V)) (0:Int)=some (.int (w:Int)):=by unfold nD iL;exact at0 _ _
   have ul:(w :: V).length=V.length+1:=rfl;rw [ul]at hG hm;generalize w :: V=U at hV dl gf w0 ul ho
   have d1:decide ((0:Int)<(U.length:Int))=true:=decide_eq_true (by lia)
   refine ⟨by push_cast only [c7,d1],?_⟩
   have lb:((gsD ts G).length<BIG)=True:=by unfold gsD;rw [Zc];exact eg (by lia)
   push_cast only [and_self];generalize hC:ba _ _ _ _ _ _=rc
   have e:=dc hC (λk:Nat=>PyData.int (k:Int)) (λk=>.sh (memD ts w k)) U (by unfold nD iL;rw [Zi];rfl) (of_eq_true (aW (by lia))) (by
    intro k hk;have lk:=GA p h hl (hV k hk) hw;rw [zC (hV k hk) hw,yl (hV k hk) hw]at lk;have n1:([PyData.int (k:Int)]≠[])=True:=eq_true (by simp)
    have n2:∀x y:PyData,([x,y]≠[])=True:=λx y=>eq_true (by simp)
    push_cast only [w0,lk,Df,n1,n2];rfl)
   subst e;clear hC;have e2:(U.map λk=>OD.sh (memD ts w k)).map OD.er=U.map (memD ts w):=by
    rw [Zi];exact Zt λk _=>ee _
   push_cast only [e2];generalize hC:ba _ _ _ _ _ _=rc
   have e:=gR hC (memD ts w) (λk=>rel (fo2 ts) rv2 k w) (λk=>.sh (memD ts w k)) U rfl (of_eq_true (aW (by lia))) (by
    intro k hk;rw [y6];refine ⟨?_,λ_=>?_⟩
    ·cases h1:lkB ts w k <;> push_cast only [memD,h1] <;> rfl
    ·push_cast only [and_self])
   subst e;clear hC;have e3:((U.filter λk=>rel (fo2 ts) rv2 k w).map λk=>OD.sh (memD ts w k)).map OD.er=(U.filter λk=>rel (fo2 ts) rv2 k w).map (memD ts w):=by
    rw [Zi];exact Zt λk _=>ee _
   have e4:(gsD ts G).map OD.sh++[OD.sh (.list ((U.filter λk=>rel (fo2 ts) rv2 k w).map (memD ts w)))]=(gsD ts (G++[(w,U.filter λk=>rel (fo2 ts) rv2 k w)])).map OD.sh:=by
    unfold gsD;rw [Zl,Zl];rfl
   push_cast only [e3,lb,e4];generalize hC:ba _ _ _ _ _ _=rc
   have e:=gR hC (memD ts w) (λk=>!rel (fo2 ts) rv2 k w) (λk:Nat=>.sh (.int (k:Int))) U rfl (of_eq_true (aW (by lia))) (by
    intro k hk;rw [y6];refine ⟨?_,λ_=>?_⟩
    ·cases h1:lkB ts w k <;> cases h2:mrB ts w k <;> push_cast only [memD,h1,h2] <;> rfl
    ·push_cast only [memD])
   subst e;clear hC;push_cast only [ia];refine ⟨_,by lia,U.filter λk=>!rel (fo2 ts) rv2 k w,G++[(w,U.filter λk=>rel (fo2 ts) rv2 k w)],_,rfl,λk hk=>hV k (List.mem_filter.mp hk).1,?_,?_,rfl⟩
   ·rw [Zd,List.length_singleton]
    lia
   ·rw [<-ho,ZD,gf]
    rfl
 ·rintro ρ' rfl ⟨v2,v3,rfl⟩
  push_cast only [and_self]
theorem BW {fa fb:Fe} {ρ:L3.Env} {ds:List PyData} (h1:fa ρ=.ok (.sh (.list ds))) (h2:fb ρ=.ok (.sh (.int (-1)))):pI fa fb ρ=.ok (.ol (ds.reverse.map OD.sh)):=by
 unfold pI;rw [h1,h2];rfl
noncomputable def cx (D:List (List Int)) (k:Nat):List Int:=(D[k]?).getD []
theorem nE {D:List (List Int)} {k:Nat} (h:k<D.length):atI (D.map iD) (k:Int)=some (iD (cx D k)):=fJ (by
 rw [Za,Zg h];unfold cx;rw [Zg h];rfl)
theorem Gv {l:List Int} {p:Nat} (h:p<l.length):atI (l.map PyData.int) (p:Int)=some (.int (gI l p)):=fJ (by
 rw [Za,Zg h];unfold gI;rw [Zg h];rfl)
theorem yj (a b:List Int):gNe (.list (a.map PyData.int)) (.list (b.map PyData.int))=.ok (.sh (.bool (!decide (a=b)))):=by
 unfold gNe;rw [jN];unfold iV;rw [cS (lay_ints a) (by decide),cS (lay_ints b) (by decide),Bool.and_self,if_pos rfl]
 have:PyData.eqv (.list (a.map PyData.int)) (.list (b.map PyData.int))=decide (a=b):=by rw [PyData.eqv,mz]
 rw [this];rfl
noncomputable def jL (R:Nat->List Int) (lk mr:Nat->Bool) (A:List Nat):List (List Int):=(A.filter lk).map R++(A.filter mr).map λk=>(R k).reverse
theorem AU {α:Type} (L:List α) (f g:α->Int):(L.map λx=>f x+g x).sum=(L.map f).sum+(L.map g).sum:=by
 induction L with
 |nil=>rfl
 |cons a r ih =>
  rw [Zk,Zk,Zk,List.sum_cons,List.sum_cons,List.sum_cons,ih]
  lia
theorem xX {α:Type} (L:List α) (q:α->Bool) (f:α->Int):((L.filter q).map f).sum=(L.map λx=>if q x=true then f x else 0).sum:=by
 induction L with
 |nil=>rfl
 |cons a r ih =>
  cases e:q a with
  |true=>rw [List.filter_cons_of_pos e,Zk,Zk,List.sum_cons,List.sum_cons,ih,if_pos e]
  |false=>rw [List.filter_cons_of_neg (by rw [e];exact Zm),Zk,List.sum_cons,ih,if_neg (by rw [e];exact Zm),Int.zero_add]
theorem yF (ts:List Nd) (R:Nat->List Int) (A:List Nat) (w p:Nat):((jL R (lkB ts w) (mrB ts w) A).map λx=>gI x p).sum=tot (fo2 ts) rv2 R A w p:=by
 unfold jL tot;rw [Zl,List.sum_append,Zi,Zi,xX,xX,<-AU];refine congrArg List.sum (Zt λk _=>?_)
 show (if lkB ts w k=true then gI (R k) p else 0)+(if mrB ts w k=true then gI (R k).reverse p else 0)=_
 unfold lkB mrB;simp only [decide_eq_true_eq]
theorem zN (ts:List Nd) (D:List (List Int)) (A:List Nat) (w m:Nat) (hA:∀k∈A,k<D.length/\(cx D k).length=m) (hw:w∈A) (hl:A.length<=100) (hm:m<=100) :
  d9 [.list (D.map iD),.list (A.map (memD ts w))]=.ok (.ol (bH ((List.range m).map λp=>tot (fo2 ts) rv2 (cx D) A w p))):=by
 unfold d9 gX;push_cast only [and_self];generalize hC:ba _ _ _ _ _ _=rc
 have e:=gR hC (memD ts w) (lkB ts w) (λk=>.sh (iD (cx D k))) A rfl (of_eq_true (aW (by lia))) (by
  intro k hk;have a1:=nE (hA k hk).1;refine ⟨?_,λ_=>?_⟩
  ·cases h1:lkB ts w k <;> push_cast only [memD,h1] <;> rfl
  ·push_cast only [memD,a1])
 subst e;clear hC;push_cast only [and_self];generalize hC:ba _ _ _ _ _ _=rc
 have e:=gR hC (memD ts w) (mrB ts w) (λk=>.sh (iD (cx D k).reverse)) A rfl (of_eq_true (aW (by lia))) (by
  intro k hk;have a1:=nE (hA k hk).1;refine ⟨?_,λ_=>?_⟩
  ·cases h1:mrB ts w k <;> push_cast only [memD,h1] <;> rfl
  ·have rv:∀a1 a2:Option OD,pI (eOp gIx (ae 3) (ae 0)) (eUn fN (eC (.int 1))) [some (.sh (.int (k:Int))),a1,a2,some (.sh (.list (D.map iD)))]=.ok (.ol (((cx D k).reverse.map PyData.int).map OD.sh)):=λa1' a2=>by
    rw [List.map_reverse];exact BW (by push_cast only [a1];rfl) (by push_cast only [and_self])
   have ei:iD (cx D k).reverse=.list ((cx D k).reverse.map PyData.int):=rfl;rw [ei];push_cast only [memD,rv,aR])
 subst e;clear hC;have fl1:=List.length_filter_le (lkB ts w) A;have fl2:=List.length_filter_le (mrB ts w) A;have lb:((A.filter (lkB ts w)).length+(A.filter (mrB ts w)).length<=BIG)=True:=aW (by lia)
 have e2:(((A.filter (lkB ts w)).map λk=>OD.sh (iD (cx D k)))++(A.filter (mrB ts w)).map λk=>OD.sh (iD (cx D k).reverse)).map OD.er=(jL (cx D) (lkB ts w) (mrB ts w) A).map iD:=by
  unfold jL;rw [Zl,Zl,Zi,Zi,Zi,Zi];congr 1 <;> exact Zt λk _=>ee _
 have rl:∀x∈jL (cx D) (lkB ts w) (mrB ts w) A,x.length=m:=λx hx=>by
  unfold jL at hx;rcases Zs.mp hx with hx | hx
  ·obtain ⟨k,hk,rfl⟩:=ZC.mp hx
   exact (hA k (List.mem_filter.mp hk).1).2
  ·obtain ⟨k,hk,rfl⟩:=ZC.mp hx
   rw [List.length_reverse];exact (hA k (List.mem_filter.mp hk).1).2
 have rll:(jL (cx D) (lkB ts w) (mrB ts w) A).length<=200:=by
  unfold jL;rw [Zd,Zc,Zc]
  lia
 obtain ⟨x0,xs,hx⟩:∃x0 xs,jL (cx D) (lkB ts w) (mrB ts w) A=x0 :: xs:=by
  have hm':w∈A.filter (lkB ts w):=List.mem_filter.mpr ⟨hw,by unfold lkB;exact decide_eq_true rfl⟩
  have:cx D w∈jL (cx D) (lkB ts w) (mrB ts w) A:=by
   unfold jL;exact Zw _ (ZC.mpr ⟨w,hm',rfl⟩)
  cases h:jL (cx D) (lkB ts w) (mrB ts w) A with
  |nil =>
   rw [h]at this;cases this
  |cons x xs=>exact ⟨x,xs,rfl⟩
 have tt:=yF ts (cx D) A w;generalize jL (cx D) (lkB ts w) (mrB ts w) A=G at e2 rl rll hx tt
 have g0:atI (G.map iD) (0:Int)=some (iD x0):=by rw [hx];exact at0 _ _
 have l0:x0.length=m:=rl x0 (by rw [hx];exact Zf)
 have s2:aK (m:Int)=true:=iH (by lia) (by lia)
 have gl:bP [iD x0]=.ok (.sh (.int (m:Int))):=by
  unfold iD;rw [uL,Zc,l0]
 push_cast only [zq,Zc,lb,e2,g0,gl,s2];generalize hC:ba _ _ _ _ _ _=rc
 have e:=dc hC (λk:Nat=>PyData.int (0+(k:Int))) (λp=>.sh (.int (tot (fo2 ts) rv2 (cx D) A w p))) (List.range m) (by rw [Int.toNat_natCast];rfl) (by rw [Zh];exact of_eq_true (aW (by lia))) (by
  intro p hp;have hp:=ZH.mp hp;rw [Int.zero_add];push_cast only [and_self];generalize hC2:ba _ _ _ _ _ _=rc2
  have e:=dc hC2 iD (λx=>.sh (.int (gI x p))) G rfl (of_eq_true (aW (by lia))) (by
   intro x hx;have:=Gv (l:=x) (p:=p) (by rw [rl x hx];exact hp)
   unfold iD;push_cast only [this])
  subst e;have e3:(G.map λx=>OD.sh (.int (gI x p))).map OD.er=(G.map λx=>gI x p).map PyData.int:=by
   rw [Zi,Zi];exact Zt λx _=>ee _
  push_cast only [e3,jt,tt])
 subst e;push_cast only [and_self];unfold bH;rw [Zi,Zi];rfl
noncomputable def zB (x:List Int):Bool:=(x.map (· != 0)).any id
theorem oO {x:List Int}:zB x=false ↔ ∀p,p<x.length->gI x p=0:=by
 unfold zB;rw [List.any_map,List.any_eq_false];constructor
 ·intro h p hp
  have:=h (x[p]) (List.getElem_mem hp);unfold gI;rw [Zg hp]
  simpa using this
 ·intro h z hz
  obtain ⟨p,hp⟩:=List.getElem?_of_mem hz;have:=h p (Zb.mp hp).1;unfold gI at this;rw [hp]at this;have this:z=0:=this;subst this;exact Zm
noncomputable def clB (ts:List Nd) (D:List (List Int)):Bool:=(fk ts).all λj=>(List.range (cx D j).length).all λp=>decide (tot (fo2 ts) rv2 (cx D) (fk ts) j p=0)
theorem qB (ts:List Nd) (D:List (List Int)):clB ts D=true ↔ ∀j∈fk ts,calm (fo2 ts) rv2 (cx D) (fk ts) j:=by
 unfold clB calm;rw [List.all_eq_true];constructor
 ·intro h j hj p hp
  have:=h j hj;rw [List.all_eq_true]at this;exact of_decide_eq_true (this p (ZH.mpr hp))
 ·intro h j hj
  rw [List.all_eq_true];intro p hp;exact decide_eq_true (h j hj p (ZH.mp hp))
theorem jO {m:Nat} {f:Nat->Int} {p:Nat} (h:p<m):gI ((List.range m).map f) p=f p:=by
 unfold gI;rw [Za,Zy h];rfl
theorem EE (ts:List Nd):∀(m:Nat) (V:List Nat),∀x∈gsF ts m V,x.1∈x.2/\∀k∈x.2,k∈V/\rel (fo2 ts) rv2 k x.1=true:=by
 intro m
 induction m with
 |zero =>
  intro V x hx;cases hx
 |succ m ih =>
  intro V x hx;cases V with
  |nil=>cases hx
  |cons w W =>
   rw [gsF]at hx;rcases Zo.mp hx with rfl | hx
   ·exact ⟨List.mem_filter.mpr ⟨Zf,lW w⟩,λk hk=>List.mem_filter.mp hk⟩
   ·obtain ⟨h1,h2⟩:=ih _ x hx
    exact ⟨h1,λk hk=>⟨(List.mem_filter.mp (h2 k hk).1).1,(h2 k hk).2⟩⟩
theorem Bp (ts:List Nd) (R:Nat->List Int):∀(m:Nat) (V:List Nat),V.length<=m->((∀x∈gsF ts m V,calm (fo2 ts) rv2 R x.2 x.1) ↔ Calm (fo2 ts) rv2 R V):=by
 intro m
 induction m with
 |zero =>
  intro V h;have:V=[]:=List.eq_nil_of_length_eq_zero (by lia)
  subst this;exact ⟨(λ_=>.nil),λ_ x hx=>by cases hx⟩
 |succ m ih =>
  intro V h;cases V with
  |nil=>exact ⟨(λ_=>.nil),λ_ x hx=>by cases hx⟩
  |cons w W =>
   have dl:=n8 ts w W;rw [Zr]at h;have ih:=ih ((w :: W).filter λk=>!rel (fo2 ts) rv2 k w) (by lia)
   rw [gsF];constructor
   ·intro hx
    exact .cons (hx _ Zf) (ih.mp λx hx'=>hx x (Ze _ hx'))
   ·intro hc x hx
    cases hc with
    |cons h1 h2 =>
     rcases Zo.mp hx with rfl | hx
     ·exact h1
     ·exact ih.mpr h2 x hx
theorem any_rows (L:List (List Int)):(L.map zB).any id=!(L.all λx=>!zB x):=by
 induction L with
 |nil=>rfl
 |cons a r ih =>
  rw [Zk,List.any_cons,List.all_cons,ih];cases zB a <;> rfl
noncomputable def ltB (ts:List Nd) (l r g:List Int):Bool:=decide ([(l.length:Int),(r.length:Int),(g.length:Int)]=[((nums ts).length:Int),((nums ts).length:Int),(ts.length:Int)])
noncomputable def kQ (l r g:List Int):Int:=h_ [h_ l,h_ r,h_ g]
noncomputable def uN (ts:List Nd) (g:List Int):Bool:=((nums ts).map λq=>plA g (hdN q) != 0).any id
theorem sS {ts:List Nd} {l r g:List Int} (h:ltB ts l r g=true):l.length=(nums ts).length/\r.length=(nums ts).length/\g.length=ts.length:=by
 have h:=of_decide_eq_true h;injection h with h1 h
 injection h with h2 h
 injection h with h3 h
 lia
theorem rg (ts:List Nd) (l r g:List Int) (he:EL ts) (h0:0<ts.length) (hl:ts.length<=100) :
  bN [.list (au ts),bo l r g]=.ok (.sh (.bool (ltB ts l r g && (decide (0<=kQ l r g) && !uN ts g)))):=by
 unfold bN iP;have nl:0<(nums ts).length/\(nums ts).length<=ts.length:=kg he h0;have lv:cE [.list (au ts)]=.ok (.ol (j5 (nums ts))):=mC ts he hl;have ne3:gNe (.list [.int (l.length:Int),.int (r.length:Int),.int (g.length:Int)]) (.list [.int ((nums ts).length:Int),.int ((nums ts).length:Int),.int (ts.length:Int)])=.ok (.sh (.bool (!ltB ts l r g))):=yj [(l.length:Int),(r.length:Int),(g.length:Int)] [((nums ts).length:Int),((nums ts).length:Int),(ts.length:Int)];have c1:∀a0 a2 a3:Option OD,bD (iTp (ae 1)) (gNm 0) bQ (eB bP (af (ae 0) av)) 1 [] [a0,some (.sh (bo l r g)),a2,a3]=.ok (.ol [.sh (.int (l.length:Int)),.sh (.int (r.length:Int)),.sh (.int (g.length:Int))]):=λa0 a2 a3=>by
  unfold bo iD;push_cast only [um,Ab];generalize hC:ba _ _ _ _ _ _=rc
  have e:=dc hC (λx:List Int=>PyData.list (x.map PyData.int)) (λx=>.sh (.int (x.length:Int))) [l,r,g] rfl (show 3<=BIG by decide) (by
   intro x _;push_cast only [and_self])
  subst e;rfl
 have e1:(j5 (nums ts)).map OD.er=iG (nums ts):=lQ _;cases hb:ltB ts l r g with
 |false =>
  rw [hb]at ne3;push_cast only [lv,e1,↓c1,gH,aF,ne3];rfl
 |true =>
  rw [hb]at ne3;obtain ⟨ll,lr,lg⟩:=sS hb;have nel:l≠[]:=λz=>by rw [z]at ll;simp at ll;lia
  have ner:r≠[]:=λz=>by rw [z]at lr;simp at lr;lia
  have neg:g≠[]:=λz=>by rw [z]at lg;simp at lg;lia
  have c2:∀a0 a2 a3:Option OD,bD (iTp (ae 1)) (gNm 0) bQ (eB l4 (af (ae 0) av)) 1 [] [a0,some (.sh (bo l r g)),a2,a3]=.ok (.ol [.sh (.int (h_ l)),.sh (.int (h_ r)),.sh (.int (h_ g))]):=λa0 a2 a3=>by
   unfold bo iD;push_cast only [um,Ab];generalize hC:ba _ _ _ _ _ _=rc
   have e:=dc hC (λx:List Int=>PyData.list (x.map PyData.int)) (λx=>.sh (.int (h_ x))) [l,r,g] rfl (show 3<=BIG by decide) (by
    intro x hx;have:x≠[]:=by
     simp only [Zo,List.not_mem_nil,or_false]at hx;rcases hx with rfl | rfl | rfl
     ·exact nel
     ·exact ner
     ·exact neg
    have:=tp this;push_cast only [this])
   subst e;rfl
  have m3:l4 [.list [.int (h_ l),.int (h_ r),.int (h_ g)]]=.ok (.sh (.int (kQ l r g))):=tp (xs:=[h_ l,h_ r,h_ g]) (by simp)
  have g2:gIx (bo l r g) (.int 2)=.ok (.sh (iD g)):=by unfold bo;push_cast only [and_self]
  have cl:ba (gNm 0) bQ (eOp gIx (eOp gIx (ae 1) (eC (.int 2))) (eOp gIx (ae 0) (eC (.int 0)))) [none,some (.sh (bo l r g))] (iG (nums ts)) []=.ok ((nums ts).map λq=>OD.sh (.int (plA g (hdN q)))):=by
   generalize hC:ba _ _ _ _ _ _=rc
   refine dc hC (λq:List Nat=>PyData.list (du q)) (λq=>.sh (.int (plA g (hdN q)))) (nums ts) rfl (of_eq_true (aW (by lia))) (by
   intro q hq;obtain ⟨j,hj⟩:=List.getElem?_of_mem hq;obtain ⟨ne,lt⟩:=sy he hj;obtain ⟨r1,_,r3,_⟩:=kj ne;have a1:=fE (pl:=g) (k:=hdN q) (by rw [lg];exact lt _ r3)
   unfold iD at g2;push_cast only [g2,r1,a1])
  have e2:((nums ts).map λq=>OD.sh (.int (plA g (hdN q)))).map OD.er=((nums ts).map λq=>plA g (hdN q)).map PyData.int:=by
   rw [Zi,Zi];exact Zt λq _=>ee _
  have e3:(((nums ts).map λq=>plA g (hdN q)).map (· != 0)).any id=uN ts g:=by
   unfold uN;rw [Zi];rfl
  have e4:=xH (wo ((nums ts).map λq=>plA g (hdN q)))
  rw [e3]at e4;cases hd:decide (0<=kQ l r g) with
  |false =>
   push_cast only [lv,e1,↓c1,gH,aF,ne3,↓c2,m3,hd];rfl
  |true =>
   push_cast only [lv,e1,↓c1,gH,aF,ne3,↓c2,m3,hd,cl,e2,e4];rfl
noncomputable def uI (D:List (List Int)):Bool:=D.all λx=>!zB x
theorem Gs (E:List (List Int)) (hl:E.length<=1000):ba (gNm 0) bQ (eB qU (af (ae 0) av)) [none] (E.map iD) []=.ok (E.map λx=>OD.sh (.bool (zB x))):=by
 generalize hC:ba _ _ _ _ _ _=rc
 refine dc hC iD (λx=>.sh (.bool (zB x))) E rfl (of_eq_true (aW hl)) (by
  intro x _;have e:=xH (wo x);unfold iD;push_cast only [e];rfl)
theorem yO (E:List (List Int)):(E.map λx=>OD.sh (.bool (zB x))).map OD.er=(E.map zB).map PyData.bool:=by
 rw [Zi,Zi];exact Zt λx _=>ee _
theorem Ig (E:List (List Int)):qU [.list ((E.map zB).map PyData.bool)]=.ok (.sh (.bool (!uI E))):=by
 rw [xH (zQ _),any_rows];rfl
theorem ny (ts:List Nd) (s:List Int) (k:Nat):(cx (cb ts s) k).length=if k<ts.length then (chN ts k).length-1 else 0:=by
 unfold cx cb;rw [Za];by_cases h:k<ts.length
 ·rw [Zy h,if_pos h]
  show (jn ((chN ts k).map (plA s))).length=_
  unfold jn;rw [Zc,Zh,Zc]
 ·rw [Zu (by rw [Zh];lia),if_neg h]
  rfl
theorem rS {ts:List Nd} {c:F} (p:PT ts c) (s:List Int) (a b:Nat) (h:rel (fo2 ts) rv2 a b=true):(cx (cb ts s) a).length=(cx (cb ts s) b).length:=by
 rw [ny,ny];by_cases ha:a<ts.length
 ·by_cases hb:b<ts.length
  ·rw [if_pos ha,if_pos hb]
   have:rel (fo ts) F.mir a b=true:=by
    rw [fG]at h ⊢;rw [kF ha,kF hb]at h;rcases h with h | h
    ·exact .inl (Zz h)
    ·exact .inr (Zz h)
   rw [EC p ha hb this]
  ·rw [fG,kF ha]at h
   have e:fo2 ts b=none:=if_neg hb;rw [e]at h;rcases h with h | h <;> cases h
 ·by_cases hb:b<ts.length
  ·rw [fG,kF hb]at h
   have e:fo2 ts a=none:=if_neg ha;rw [e]at h;rcases h with h | h <;> cases h
  ·rw [if_neg ha,if_neg hb]
noncomputable def rowsOf (ts:List Nd) (D:List (List Int)) (x:Nat×List Nat):List Int:=(List.range (cx D x.1).length).map λp=>tot (fo2 ts) rv2 (cx D) x.2 x.1 p
theorem mY (ts:List Nd) (D:List (List Int)) (x:Nat×List Nat):zB (rowsOf ts D x)=false ↔ calm (fo2 ts) rv2 (cx D) x.2 x.1:=by
 rw [oO];unfold rowsOf calm;rw [Zc,Zh];constructor
 ·intro h p hp
  have:=h p hp;rw [jO hp]at this;exact this
 ·intro h p hp
  rw [jO hp];exact h p hp
theorem ud {ts:List Nd} {c:F} (p:PT ts c) (s:List Int):uI ((gsF ts (fk ts).length (fk ts)).map (rowsOf ts (cb ts s)))=clB ts (cb ts s):=by
 rw [Bool.eq_iff_iff,qB,<-zf EK (rS p s) (fk ts).length (fk ts) (Zn _),<-Bp ts _ (fk ts).length (fk ts) (Zn _)];unfold uI;rw [List.all_map,List.all_eq_true];constructor
 ·intro h x hx
  have:=h x hx;have:zB (rowsOf ts (cb ts s) x)=false:=by simpa using this
  exact (mY ts _ x).mp this
 ·intro h x hx
  have:=(mY ts _ x).mpr (h x hx);show (!zB (rowsOf ts (cb ts s) x))=true
  rw [this];rfl
noncomputable def sdB (l r:List Int):Bool:=decide (1<=l.sum) && decide (l.sum=r.sum)
noncomputable def EN (ts:List Nd) (l r g:List Int) (strict:Bool):Bool:=sdB l r && (if strict then clB ts (cb ts (fT ts l r g)) else uI (cb ts (fT ts l r g)))
theorem tm (ts:List Nd) (l r g:List Int) (strict:Bool) (h:bN [.list (au ts),bo l r g]=.ok (.sh (.bool false))):bV [.list (au ts),bo l r g,.bool strict]=.ok (.sh (.bool false)):=by
 unfold bV iE;push_cast only [h]
theorem s_ (ts:List Nd) {c:F} (p:PT ts c) (hb:Lb ts) (hl:ts.length<=40) (l r g:List Int) (strict:Bool) (h:bN [.list (au ts),bo l r g]=.ok (.sh (.bool true))) (ll:l.length=(nums ts).length) (lr:r.length=(nums ts).length) (lg:g.length=ts.length) :
  bV [.list (au ts),bo l r g,.bool strict]=.ok (.sh (.bool (EN ts l r g strict))):=by
 unfold bV iE;have he:=mh p;have h0:=F.Pf.pos p;have pe0:gIx (bo l r g) (.int 0)=.ok (.sh (.list (l.map PyData.int))):=by unfold bo iD;push_cast only [and_self]
 have pe1:gIx (bo l r g) (.int 1)=.ok (.sh (.list (r.map PyData.int))):=by unfold bo iD;push_cast only [and_self]
 have k1:=yt ts l r g he h0 (by lia) ll lr lg
 have d1:=pR ts (fT ts l r g);have ag:=ud p (fT ts l r g);have rl:=λk=>ny ts (fT ts l r g) k
 have rel_l:=rS p (fT ts l r g);unfold EN;generalize cb ts (fT ts l r g)=D at k1 d1 ag rl rel_l
 unfold sdB;by_cases h1:l.sum<1
 ·have x1:decide (1<=l.sum)=false:=decide_eq_false (by lia)
  push_cast only [h,pe0,jt,decide_eq_true h1,x1];rfl
 ·have x1:decide (1<=l.sum)=true:=decide_eq_true (by lia)
  by_cases h2:l.sum=r.sum
  ·cases strict with
   |false =>
    push_cast only [h,pe0,pe1,jt,decide_eq_false h1,decide_eq_true h2,x1,k1,su,Gs D (by lia),yO,Ig]
    simp
   |true =>
    have gk:=wJ ts p hb (by lia)
    have gm:=EE ts (fk ts).length (fk ts);have gl:(gsF ts (fk ts).length (fk ts)).length<=ts.length:=by
     have:∀(m:Nat) (V:List Nat),(gsF ts m V).length<=m:=by
      intro m
      induction m with
      |zero=>exact λV=>Zn _
      |succ m ih =>
       intro V;cases V with
       |nil=>exact Nat.zero_le _
       |cons w W =>
        rw [gsF,Zr];have:=ih ((w :: W).filter λk=>!rel (fo2 ts) rv2 k w)
        lia
     exact ZG (this _ _) (rh ts)
    have gx:∀(m:Nat) (V:List Nat),∀x∈gsF ts m V,x.2.length<=V.length:=by
     intro m
     induction m with
     |zero =>
      intro V x hx;cases hx
     |succ m ih =>
      intro V x hx;cases V with
      |nil=>cases hx
      |cons w W =>
       rw [gsF]at hx;rcases Zo.mp hx with rfl | hx
       ·exact List.length_filter_le _ _
       ·exact ZG (ih _ x hx) (List.length_filter_le _ _)
    have fkl:=rh ts;generalize hGG:gsF ts (fk ts).length (fk ts)=GG at gk gm gl ag
    have cg:ba (gNm 0) bQ (eSh (aL d9 (af (ae 1) (af (ae 0) av)))) [none,some (.sh (.list (D.map iD)))] (gsD ts GG) []=.ok (GG.map λx=>OD.sh (iD (rowsOf ts D x))):=by
     generalize hC:ba _ _ _ _ _ _=rc
     refine dc hC (λx:Nat×List Nat=>PyData.list (x.2.map (memD ts x.1))) (λx=>.sh (iD (rowsOf ts D x))) GG rfl (of_eq_true (aW (by lia))) (by
      intro x hx;obtain ⟨m1,m2⟩:=gm x hx;have xl:x.2.length<=100:=by
       rw [<-hGG]at hx;have:=gx _ _ x hx
       lia
      have cl:(cx D x.1).length<=100:=by
       rw [rl];have:=nv ts x.1;split <;> lia
      have go:=zN ts D x.2 x.1 (cx D x.1).length (λk hk=>⟨by rw [d1];exact t6 (m2 k hk).1,rel_l k x.1 (m2 k hk).2⟩) m1 xl cl
      push_cast only [go,bI];rfl)
    have e5:(GG.map λx=>OD.sh (iD (rowsOf ts D x))).map OD.er=(GG.map (rowsOf ts D)).map iD:=by
     rw [Zi,Zi];exact Zt λx _=>ee _
    have ca:=Gs (GG.map (rowsOf ts D)) (by rw [Zc];lia)
    push_cast only [h,pe0,pe1,jt,decide_eq_false h1,decide_eq_true h2,x1,k1,su,gk,aR,cg,e5,ca,yO,Ig,ag];simp
  ·have x2:=decide_eq_false h2
   push_cast only [h,pe0,pe1,jt,decide_eq_false h1,x2,x1];rfl
theorem xR {Fm:Type} [DecidableEq Fm] (f:Nat->Fm) (rv:Fm->Fm) (R:Nat->List Int) (V:List Nat) (k j p:Nat):tot f rv R (V++[k]) j p=tot f rv R V j p+((if f k=f j then gI (R k) p else 0)+(if f k=rv (f j) then gI (R k).reverse p else 0)):=by
 unfold tot;rw [Zl,List.sum_append];simp
noncomputable def lx (ts:List Nd):List PyData:=(List.range ts.length).map λq=>.list (nD (chN ts q))
theorem sU {ts:List Nd} {k:Nat} (h:k<ts.length):atI (lx ts) (k:Int)=some (.list (nD (chN ts k))):=fJ (by unfold lx;rw [Za,Zy h];rfl)
theorem Ax (ts:List Nd):((List.range ts.length).map λq=>OD.ol (nO (chN ts q))).map OD.er=lx ts:=by
 unfold lx;rw [Zi];refine Zt λq _=>?_
 show (OD.ol (nO (chN ts q))).er=_
 rw [oE,j8]
theorem qO {rs:List Nat} {i k:Nat} (h:rs[i]?=some k):atI (nD rs) (i:Int)=some (.int (k:Int)):=fJ (yS h)
theorem qD {α:Type} {L:List α} {f:α->PyData} {i:Nat} {x:α} (h:L[i]?=some x):atI (L.map f) (i:Int)=some (f x):=fJ (by rw [Za,h];rfl)
noncomputable def nY (ts:List Nd) (t:Bool):List PyData:=(fk ts).map λq=>.list (j7 (jd (nfT t (fo ts q))))
theorem BK (ts:List Nd) (t:Bool):((fk ts).map λq=>OD.sh (.list (j7 (jd (nfT t (fo ts q)))))).map OD.er=nY ts t:=by
 unfold nY;rw [Zi];exact Zt λq _=>ee _
theorem zeros (m:Nat) (z:Int) (hz:z=(m:Int)) (hm:m<=1000):g7 (.list [.int 0]) (.int z)=.ok (.ol ((List.replicate m (PyData.int 0)).map OD.sh)):=by
 subst hz;exact BJ (.int 0) m hm
noncomputable def zL (m:Nat):List Int:=List.replicate m 0
theorem x_ (m:Nat):(zL m).length=m:=List.length_replicate ..
theorem vL (m q:Nat):(zL m)[q]?=if q<m then some 0 else none:=by unfold zL;exact List.getElem?_replicate
theorem md (m:Nat):List.replicate m (PyData.int 0)=(zL m).map PyData.int:=by unfold zL;rw [List.map_replicate]
theorem rj (m p:Nat):gI (zL m) p=0:=by
 unfold gI zL;rw [List.getElem?_replicate];split <;> rfl
theorem qm (tl x:List Int) (m:Nat) (h1:tl.length=m) (h2:x.length=m) (hm:m<=1000):ba (gTp 2 (aO (gNm 0) (aO (gNm 1) eR))) bQ (eOp cH (ae 0) (ae 1)) [none,none] (oU (tl.map PyData.int) (x.map PyData.int)) []=.ok ((List.range m).map λp=>OD.sh (.int (gv tl p+gv x p))):=by
 rw [CH h1 h2];generalize hC:ba _ _ _ _ _ _=rc
 refine dc hC (λk:Nat=>PyData.tuple [.int (gv tl k),.int (gv x k)]) (λp=>.sh (.int (gv tl p+gv x p))) (List.range m) rfl (by rw [Zh];exact of_eq_true (aW hm)) (by
  intro k _;push_cast only [and_self])
theorem vd (tl x:List Int) (m:Nat):((List.range m).map λp=>OD.sh (.int (gv tl p+gv x p))).map OD.er=((List.range m).map λp=>gv tl p+gv x p).map PyData.int:=by
 rw [Zi,Zi];exact Zt λp _=>ee _
theorem zE {ts:List Nd} {c:F} (p:PT ts c) (hlab:∀n∈ts,n.l.length<=1000) (hl:ts.length<=40) (D:List (List Int)) (dl:D.length=ts.length) (dr:∀k,(cx D k).length<=100) (rel_l:∀a b,rel (fo2 ts) rv2 a b=true->(cx D a).length=(cx D b).length) :
  cX [.list (au ts),.list (D.map iD)]=.ok (.sh (.bool (clB ts D))):=by
 unfold cX dZ;have he:=mh p;have h0:=F.Pf.pos p;have s2:aK (ts.length:Int)=true:=iH (by lia) (by lia)
 have ck:=j9 ts he h0 (by lia)
 have fl:=rh ts;have s3:aK ((fk ts).length:Int)=true:=iH (by lia) (by lia)
 have kt:∀t,∀q∈fk ts,dE [.list (au ts),.list (lx ts),.int (q:Int),.bool t]=.ok (.ol ((j7 (jd (nfT t (fo ts q)))).map OD.sh)):=λt q hq=>Kw p hl hlab t (lx ts) (λk hk=>sU hk) (t6 hq)
 push_cast only [ck,Ax,aF,s2];generalize hC:ba _ _ _ _ _ _=rc
 have e:=gR hC (λk:Nat=>PyData.int (0+(k:Int))) (λq=>decide ((1:Int)<((chN ts q).length:Int))) (λk:Nat=>.sh (.int (k:Int))) (List.range ts.length) (by rw [Int.toNat_natCast];rfl) (by rw [Zh];exact of_eq_true (aW (by lia))) (by
  intro k hk;rw [ZH]at hk;have g1:=sU hk;rw [Int.zero_add];refine ⟨?_,λ_=>?_⟩
  ·push_cast only [g1,c7]
  ·push_cast only [and_self])
 subst e;clear hC;have ew:List.filter (λq=>decide ((1:Int)<((chN ts q).length:Int))) (List.range ts.length)=fk ts:=rfl
 rw [ew];push_cast only [ia];have cK:∀t:Bool,ba (gNm 0) bQ (eSh (aL dE (af (ae 1) (af (ae 2) (af (ae 0) (af (eC (.bool t)) av)))))) [none,some (.sh (.list (au ts))),some (.sh (.list (lx ts)))] (nD (fk ts)) []=.ok ((fk ts).map λq=>OD.sh (.list (j7 (jd (nfT t (fo ts q)))))):=λt=>by
  generalize hC:ba _ _ _ _ _ _=rc
  refine dc hC (λk:Nat=>PyData.int (k:Int)) (λq=>.sh (.list (j7 (jd (nfT t (fo ts q)))))) (fk ts) (by unfold nD iL;rw [Zi];rfl) (of_eq_true (aW (by lia))) (by
   intro q hq;have:=kt t q hq;push_cast only [this,aR])
 have cf:=cK false;have ct:=cK true;push_cast only [cf,BK,ct,c7,s3];generalize hL:bJ _ _ _ _=r'
 refine DK hL (λi ρ=>(∀j w,j<i->(fk ts)[j]?=some w->calm (fo2 ts) rv2 (cx D) (fk ts) w)/\∃v6 v7 v8 v9:Option OD,ρ=[some (.sh (.list (au ts))),some (.sh (.list (D.map iD))),some (.sh (.list (lx ts))),some (.sh (.list (nD (fk ts)))),some (.sh (.list (nY ts false))),some (.sh (.list (nY ts true))),v6,v7,v8,v9]) (λx=>x=.sh (.bool false)/\clB ts D=false) ⟨λj w h=>by lia,_,_,_,_,rfl⟩ ?_ ?_ ?_
 ·rintro j d ρ hd ⟨hc,v6,v7,v8,v9,rfl⟩
  obtain ⟨hj,rfl⟩:=fZ hd;rw [Int.toNat_natCast]at hj;rw [Int.zero_add];obtain ⟨w,hw⟩:∃w,(fk ts)[j]?=some w:=⟨(fk ts)[j],by simp [hj]⟩
  have wl:=t6 (ZB hw);have w1:=qO hw;have r1:=nE (D:=D) (k:=w) (by lia)
  have rl:=dr w;obtain ⟨m,hm⟩:∃m,(cx D w).length=m:=⟨_,rfl⟩;have gl:bP [iD (cx D w)]=.ok (.sh (.int (m:Int))):=by
   unfold iD;rw [uL,Zc,hm]
  have zr:=zeros m (m:Int) rfl (by lia)
  push_cast only [w1,r1,gl,zr,aR,md,c7,s3];generalize hL2:bJ _ _ _ _=r2
  refine cT hL2 (λk ρ=>∃(tl:List Int) (v8 v9:Option OD),tl.length=m/\(∀q,q<m->gI tl q=tot (fo2 ts) rv2 (cx D) ((fk ts).take k) w q)/\ρ=[some (.sh (.list (au ts))),some (.sh (.list (D.map iD))),some (.sh (.list (lx ts))),some (.sh (.list (nD (fk ts)))),some (.sh (.list (nY ts false))),some (.sh (.list (nY ts true))),some (.sh (.int (j:Int))),some (.sh (.list (tl.map PyData.int))),v8,v9])
   ⟨zL m,_,_,x_ m,λq _=>by rw [rj];rfl,rfl⟩ ?_ ?_
  ·rintro k d ρ hd ⟨tl,v8,v9,tlen,htl,rfl⟩
   obtain ⟨hk,rfl⟩:=fZ hd;rw [Int.toNat_natCast]at hk;rw [Int.zero_add];obtain ⟨u,hu⟩:∃u,(fk ts)[k]?=some u:=⟨(fk ts)[k],by simp [hk]⟩
   have ul:=t6 (ZB hu);have u1:=qO hu;have r2:=nE (D:=D) (k:=u) (by lia)
   have ka:atI (nY ts false) (k:Int)=some (.list (j7 (jd (fo ts u)))):=qD hu;have kb:atI (nY ts true) (k:Int)=some (.list (j7 (jd (F.mir (fo ts u))))):=qD hu;have kc:atI (nY ts false) (j:Int)=some (.list (j7 (jd (fo ts w)))):=qD hw;have q1:=ye (jd (fo ts u)) (jd (fo ts w));have q2:=ye (jd (F.mir (fo ts u))) (jd (fo ts w));rw [l_,zC ul wl]at q1;rw [l_,FO ul wl]at q2;have tk:(fk ts).take (k+1)=(fk ts).take k++[u]:=by
    rw [List.take_add_one,hu];rfl
   have step:∀q,tot (fo2 ts) rv2 (cx D) ((fk ts).take (k+1)) w q=tot (fo2 ts) rv2 (cx D) ((fk ts).take k) w q+((if fo2 ts u=fo2 ts w then gI (cx D u) q else 0)+(if fo2 ts u=rv2 (fo2 ts w) then gI (cx D u).reverse q else 0)):=λq=>by rw [tk,xR]
   have gvI:∀(x:List Int) (q:Nat),gv x q=gI x q:=λ_ _=>rfl
   have ex:iD (cx D u)=.list ((cx D u).map PyData.int):=rfl;rw [ex]at r2;have rev:∀a7 a8:Option OD,pI (ae 9) (eUn fN (eC (.int 1))) [some (.sh (.list (au ts))),some (.sh (.list (D.map iD))),some (.sh (.list (lx ts))),some (.sh (.list (nD (fk ts)))),some (.sh (.list (nY ts false))),some (.sh (.list (nY ts true))),some (.sh (.int (j:Int))),a7,a8,some (.sh (.list ((cx D u).map PyData.int)))]=.ok (.ol (((cx D u).reverse.map PyData.int).map OD.sh)):=λa7 a8=>by
    rw [List.map_reverse];exact BW (by push_cast only [and_self]) (by push_cast only [and_self])
   by_cases h1:fo2 ts u=fo2 ts w
   ·have lu:(cx D u).length=m:=by rw [rel_l u w (fG.mpr (.inl h1)),hm]
    have ad:=qm tl (cx D u) m tlen lu (by lia)
    have t1:((List.range m).map λp=>gv tl p+gv (cx D u) p).length=m:=by rw [Zc,Zh]
    by_cases h2:fo2 ts u=rv2 (fo2 ts w)
    ·have ad2:=qm ((List.range m).map λp=>gv tl p+gv (cx D u) p) (cx D u).reverse m t1 (by rw [List.length_reverse,lu]) (by lia)
     push_cast only [u1,r2,ka,kc,q1,decide_eq_true h1,ad,vd,kb,q2,decide_eq_true h2,rev,aR,ad2];refine ⟨_,_,_,by rw [Zc,Zh],λq hq=>?_,rfl⟩
     rw [jO hq,gvI,gvI,jO hq,gvI,gvI,htl q hq,step,if_pos h1,if_pos h2]
     lia
    ·push_cast only [u1,r2,ka,kc,q1,decide_eq_true h1,ad,vd,kb,q2,decide_eq_false h2]
     refine ⟨_,_,_,by rw [Zc,Zh],λq hq=>?_,rfl⟩
     rw [jO hq,gvI,gvI,htl q hq,step,if_pos h1,if_neg h2]
     lia
   ·by_cases h2:fo2 ts u=rv2 (fo2 ts w)
    ·have lu:(cx D u).length=m:=by rw [rel_l u w (fG.mpr (.inr h2)),hm]
     have ad2:=qm tl (cx D u).reverse m tlen (by rw [List.length_reverse,lu]) (by lia)
     push_cast only [u1,r2,ka,kc,q1,decide_eq_false h1,kb,q2,decide_eq_true h2,rev,aR,ad2,vd];refine ⟨_,_,_,by rw [Zc,Zh],λq hq=>?_,rfl⟩
     rw [jO hq,gvI,gvI,htl q hq,step,if_neg h1,if_pos h2]
     lia
    ·push_cast only [u1,r2,ka,kc,q1,decide_eq_false h1,kb,q2,decide_eq_false h2]
     refine ⟨_,_,_,tlen,λq hq=>?_,rfl⟩
     rw [htl q hq,step,if_neg h1,if_neg h2]
     lia
  ·rintro ρ' rfl ⟨tl,v8,v9,tlen,htl,rfl⟩
   rw [fR,Int.toNat_natCast,List.take_length]at htl;have zr2:=zeros m (tl.length:Int) (by lia) (by lia)
   have ne:=yj tl (zL m);have hem:=Classical.em (tl=zL m);cases hem with
   |inl hz =>
    rw [decide_eq_true hz]at ne;push_cast only [zr2,md,aR,ne];refine ⟨λj' w' hj' hw'=>?_,_,_,_,_,rfl⟩
    by_cases hjj:j'=j
    ·subst hjj
     rw [hw]at hw';cases hw';intro q hq;rw [hm]at hq;rw [<-htl q hq,hz,rj]
    ·exact hc j' w' (by lia) hw'
   |inr hz =>
    rw [decide_eq_false hz]at ne;push_cast only [zr2,md,aR,ne];rw [<-Bool.not_eq_true,qB];intro h;have h:=h w (ZB hw);refine hz (List.ext_getElem? λq=>?_)
    by_cases hq:q<m
    ·have:=htl q hq
     rw [h q (by rw [hm];exact hq)]at this
     unfold gI at this;rw [Zg (by lia)]at this
     rw [Zg (by lia),vL,if_pos hq]
     exact congrArg some this
    ·rw [Zu (by lia),vL,if_neg hq]
 ·rintro ρ' rfl ⟨hc,v6,v7,v8,v9,rfl⟩
  rw [fR,Int.toNat_natCast]at hc;have:clB ts D=true:=(qB ts D).mpr λj hj=>by
   obtain ⟨i,hi⟩:=List.getElem?_of_mem hj;exact hc i j (Zb.mp hi).1 hi
  rw [this];push_cast only [and_self]
 ·rintro x rfl ⟨rfl,h⟩
  rw [h];push_cast only [and_self]
theorem EJ (a b:Bool):cV [.bool a,.bool b]=.ok (.sh (.bool (decide (a=b)))):=by
 unfold cV jP;push_cast only [and_self];rfl
theorem oQ (l r g:List Int) (ll:l.length<=1000) (lr:r.length<=1000) (lg:g.length<=1000):bz [bo l r g]=.ok (.ot [.ol (bH l),.ol (bH r),.ol (bH g)]):=by
 unfold bz eM bo iD;have b1:(l.length<=BIG)=True:=aW ll;have b2:(r.length<=BIG)=True:=aW lr;have b3:(g.length<=BIG)=True:=aW lg;push_cast only [b1,b2,b3];rfl
theorem HB (x:List Int):decide (x=zL x.length)=!zB x:=by
 have hem:=Classical.em (x=zL x.length);cases hem with
 |inl h =>
  rw [decide_eq_true h];have:zB x=false:=oO.mpr λp hp=>by rw [h,rj]
  rw [this];rfl
 |inr h =>
  rw [decide_eq_false h];cases hz:zB x with
  |true=>rfl
  |false =>
   refine absurd (List.ext_getElem? λq=>?_) h
   have z:=oO.mp hz;by_cases hq:q<x.length
   ·have:=z q hq
    unfold gI at this;rw [Zg hq]at this;rw [Zg hq,vL,if_pos hq];exact congrArg some this
   ·rw [Zu (by lia),vL,if_neg hq]
theorem uY (D:List (List Int)):decide (((D.filter λx=>!decide (x=zL x.length)).length:Int)=0)=uI D:=by
 have e:(D.filter λx=>!decide (x=zL x.length))=D.filter zB:=List.filter_congr λx _=>by rw [HB,Bool.not_not]
 rw [e];unfold uI;cases h:D.all λx=>!zB x with
 |true =>
  rw [List.all_eq_true]at h;have:D.filter zB=[]:=List.filter_eq_nil_iff.mpr λx hx=>by
   have:=h x hx;simp at this
   rw [this];exact Zm
  rw [this];rfl
 |false =>
  rw [<-Bool.not_eq_true,List.all_eq_true]at h;refine decide_eq_false λz=>h λx hx=>?_
  have z:(D.filter zB).length=0:=by lia
  have:=List.filter_eq_nil_iff.mp (List.eq_nil_of_length_eq_zero z) x hx;simp at this
  rw [this];rfl
theorem zm (l r g:List Int):lay 2 (bo l r g):=by
 unfold bo;refine jG λy hy=>?_
 simp only [Zo,List.not_mem_nil,or_false]at hy;rcases hy with rfl | rfl | rfl <;> exact lay_ints _
theorem p6 (ts:List Nd) {c:F} (p:PT ts c) (hb:Lb ts) (hl:ts.length<=40) (l r g:List Int) (h:bN [.list (au ts),bo l r g]=.ok (.sh (.bool true))) (ll:l.length=(nums ts).length) (lr:r.length=(nums ts).length) (lg:g.length=ts.length) :
  d6 [.list (au ts),bo l r g]=.ok (.sh (.bool true)):=by
 unfold d6 gy;have he:=mh p;have h0:=F.Pf.pos p;have hlab:∀n∈ts,n.l.length<=1000:=λn hn=>by have:=(hb n hn).2.1;lia
 have nl:0<(nums ts).length/\(nums ts).length<=ts.length:=kg he h0;have k2:=qz ts l r g he h0 (by lia) ll lr lg
 have pf:=s_ ts p hb hl l r g false h ll lr lg;have pt:=s_ ts p hb hl l r g true h ll lr lg;have d1:=pR ts (fT ts l r g);have rl:∀k,(cx (cb ts (fT ts l r g)) k).length<=100:=λk=>by
  rw [ny];have:=nv ts k;split <;> lia
 have gc:=zE p hlab hl (cb ts (fT ts l r g)) d1 rl (rS p (fT ts l r g));unfold EN at pf pt;have pf:bV [.list (au ts),bo l r g,.bool false]=.ok (.sh (.bool (sdB l r && uI (cb ts (fT ts l r g))))):=pf;have pt:bV [.list (au ts),bo l r g,.bool true]=.ok (.sh (.bool (sdB l r && clB ts (cb ts (fT ts l r g))))):=pt;generalize cb ts (fT ts l r g)=D at k2 pf pt d1 rl gc
 have pe0:gIx (bo l r g) (.int 0)=.ok (.sh (.list (l.map PyData.int))):=by unfold bo iD;push_cast only [and_self]
 have pe1:gIx (bo l r g) (.int 1)=.ok (.sh (.list (r.map PyData.int))):=by unfold bo iD;push_cast only [and_self]
 have bg:(ts.length<=BIG)=True:=aW (by lia)
 have cp:=oQ l r g (by lia) (by lia) (by lia)
 have ce:(OD.ot [.ol (bH l),.ol (bH r),.ol (bH g)]).er=bo l r g:=by
  push_cast only [Cf,oE,bI];rfl
 have hand:gEq (.list [.list (au ts),bo l r g]) (.list [.list (au ts),bo l r g])=.ok (.sh (.bool true)):=yQ (n:=3) (kx λx hx=>by
  simp only [Zo,List.not_mem_nil,or_false]at hx;rcases hx with rfl | rfl
  ·exact Bs hb
  ·exact zm l r g)
 have cc:ba (gNm 0) (aY (eOp gNe (ae 0) (eOp g7 (ez (af (eC (.int 0)) av)) (eB bP (af (ae 0) av))))) (ae 0) [none] (D.map iD) []=.ok ((D.filter λx=>!decide (x=zL x.length)).map λx=>OD.sh (iD x)):=by
  generalize hC:ba _ _ _ _ _ _=rc
  refine gR hC iD (λx=>!decide (x=zL x.length)) (λx=>.sh (iD x)) D rfl (of_eq_true (aW (by lia))) (by
   intro x hx;have xl:x.length<=100:=by
    obtain ⟨i,hi⟩:=List.getElem?_of_mem hx;have:=rl i;unfold cx at this;rw [hi]at this;exact this
   have zr:=zeros x.length (x.length:Int) rfl (by lia)
   have ne:=yj x (zL x.length);unfold iD;refine ⟨?_,λ_=>?_⟩
   ·push_cast only [zr,md,aR,ne]
   ·push_cast only [and_self])
 have ccl:=uY D;have isf:=λb=>EJ b b
 have sd:∀x:Bool,sdB l r=x->True:=λ_ _=>trivial
 have i1:∀b:Bool,cV [.bool b,.bool b]=.ok (.sh (.bool true)):=λb=>by rw [EJ];cases b <;> rfl
 by_cases h1:1<=l.sum
 ·have x1:decide (1<=l.sum)=true:=decide_eq_true h1
  have sdv:sdB l r=decide (l.sum=r.sum):=by unfold sdB;rw [x1];rfl
  rw [sdv]at pf pt;cases x2:decide (l.sum=r.sum) with
  |true =>
   rw [x2]at pf pt;push_cast only [k2,aR,pe0,pe1,jt,x1,x2,cc,ccl,aF,bg,cp,ce,vn,pf,pt,Bool.true_and,i1,gc,hand]
  |false =>
   rw [x2]at pf pt;push_cast only [k2,aR,pe0,pe1,jt,x1,x2,cc,ccl,aF,bg,cp,ce,vn,pf,pt,Bool.false_and,i1,gc,hand]
 ·have x1:decide (1<=l.sum)=false:=decide_eq_false h1
  have sdv:sdB l r=false:=by unfold sdB;rw [x1];rfl
  rw [sdv]at pf pt;push_cast only [k2,aR,pe0,pe1,jt,x1,cc,ccl,aF,bg,cp,ce,vn,pf,pt,Bool.false_and,i1,gc,hand]
structure VP (ts:List Nd) (l r g:List Int):Prop where
 ll:l.length=(nums ts).length
 lr:r.length=(nums ts).length
 lg:g.length=ts.length
 pl:∀x∈l,0<=x
 pr:∀x∈r,0<=x
 pg:∀x∈g,0<=x
 fst:∀q∈nums ts,plA g (hdN q)=0
theorem nn {ts:List Nd} (he:EL ts) (h0:0<ts.length):0<(nums ts).length/\(nums ts).length<=ts.length:=kg he h0
theorem om {x:List Int} {n:Nat} (h:x.length=n) (h0:0<n):x≠[]:=λz=>by
 rw [z]at h;simp at h
 lia
theorem VP.are {ts:List Nd} {l r g:List Int} (v:VP ts l r g) (he:EL ts) (h0:0<ts.length) (hl:ts.length<=100):bN [.list (au ts),bo l r g]=.ok (.sh (.bool true)):=by
 rw [rg ts l r g he h0 hl];have n1:=nn he h0;have a:ltB ts l r g=true:=by
  unfold ltB;rw [v.ll,v.lr,v.lg];exact decide_eq_true rfl
 have b:decide (0<=kQ l r g)=true:=by
  unfold kQ;have m1:=(gj (xs:=[h_ l,h_ r,h_ g]) (by simp)).1
  have ml:=v.pl _ (gj (om v.ll n1.1)).1;have mr:=v.pr _ (gj (om v.lr n1.1)).1;have mg:=v.pg _ (gj (om v.lg h0)).1;refine decide_eq_true ?_;simp only [Zo,List.not_mem_nil,or_false]at m1;rcases m1 with h | h | h <;> rw [h] <;> assumption
 have c:uN ts g=false:=by
  unfold uN;rw [List.any_map,List.any_eq_false];intro q hq;have:=v.fst q hq;simp [this]
 rw [a,b,c];rfl
theorem qW {ts:List Nd} {l r g:List Int} (he:EL ts) (h0:0<ts.length) (hl:ts.length<=100) (h:¬(l.length=(nums ts).length/\r.length=(nums ts).length/\g.length=ts.length)):bN [.list (au ts),bo l r g]=.ok (.sh (.bool false)):=by
 rw [rg ts l r g he h0 hl];have a:ltB ts l r g=false:=by
  cases e:ltB ts l r g with
  |false=>rfl
  |true=>exact absurd (sS e) h
 rw [a];rfl
theorem vf {ts:List Nd} {l r g:List Int} (he:EL ts) (h0:0<ts.length) (hl:ts.length<=100) (hh:∃x,x<0/\(x∈l\/x∈r\/x∈g)):bN [.list (au ts),bo l r g]=.ok (.sh (.bool false)):=by
 rw [rg ts l r g he h0 hl];have b:decide (0<=kQ l r g)=false:=by
  unfold kQ;have m1:=(gj (xs:=[h_ l,h_ r,h_ g]) (by simp)).2
  obtain ⟨x,hx,h⟩:=hh;refine decide_eq_false ?_;rcases h with h | h | h
  ·have:=(gj (List.ne_nil_of_mem h)).2 x h
   have:=m1 (h_ l) (by simp)
   lia
  ·have:=(gj (List.ne_nil_of_mem h)).2 x h
   have:=m1 (h_ r) (by simp)
   lia
  ·have:=(gj (List.ne_nil_of_mem h)).2 x h
   have:=m1 (h_ g) (by simp)
   lia
 rw [b];cases ltB ts l r g <;> rfl
theorem C_ {ts:List Nd} {l r g:List Int} (he:EL ts) (h0:0<ts.length) (hl:ts.length<=100) (hh:∃q∈nums ts,plA g (hdN q)≠0):bN [.list (au ts),bo l r g]=.ok (.sh (.bool false)):=by
 rw [rg ts l r g he h0 hl];have c:uN ts g=true:=by
  obtain ⟨q,hq,h⟩:=hh;unfold uN;rw [List.any_map,List.any_eq_true];exact ⟨q,hq,by simp [h]⟩
 rw [c];cases ltB ts l r g <;> cases decide (0<=kQ l r g) <;> rfl
theorem vS {g:List Int} {k j:Nat} {z:Int} (h:k≠j):plA (g.set j z) k=plA g k:=by
 unfold plA;rw [List.getElem?_set_ne (Ne.symm h)]
theorem mem_set {g:List Int} {j:Nat} {z:Int} (hz:0<=z) (h:∀x∈g,0<=x):∀x∈g.set j z,0<=x:=λx hx=>by
 rcases List.mem_or_eq_of_mem_set hx with h1 | h1
 ·exact h x h1
 ·rw [h1];exact hz
theorem mU {g:List Int} (h:∀x∈g,0<=x) (k:Nat):0<=plA g k:=by
 unfold plA;cases e:g[k]? with
 |none=>exact Int.le_refl _
 |some x=>exact h x (ZB e)
theorem Bk {ts:List Nd} (he:EL ts) {j:Nat} {q:List Nat} (hq:(nums ts)[j]?=some q) {k:Nat} (hk:k∈q.drop 1):k<ts.length/\∀q'∈nums ts,hdN q'≠k:=by
 have N:=gw he ts.length (Zn _);obtain ⟨ne,pw,mem⟩:=N.row j q hq;have hk':=List.mem_of_mem_drop hk;refine ⟨((mem k).mp hk').1,λq' hq' hz=>?_⟩
 obtain ⟨j',hj'⟩:=List.getElem?_of_mem hq';obtain ⟨ne',pw',mem'⟩:=N.row j' q' hj';obtain ⟨_,_,h3,_⟩:=kj ne';rw [hz]at h3;have e1:=((mem k).mp hk').2;have e2:=((mem' k).mp h3).2;rw [e1]at e2;cases e2;rw [hq]at hj';cases hj';cases q with
 |nil=>exact ne rfl
 |cons a t =>
  have:a=k:=hz;subst this;have:=(List.pairwise_cons.mp pw).1 a hk
  lia
theorem Bq {ts:List Nd} {k:Nat} (h:(!decide ((k:Int)∈(nums ts).map λq=>((hdN q:Nat):Int)))=true):∀q∈nums ts,hdN q≠k:=λq hq hz=>by
 have:¬(k:Int)∈(nums ts).map λq=>((hdN q:Nat):Int):=by simpa using h
 exact this (ZC.mpr ⟨q,hq,by rw [hz]⟩)
theorem KY (f:Nat->Int) (m:Nat):((List.range m).map λk=>OD.sh (.int (f k)))=bH ((List.range m).map f):=by
 unfold bH;rw [Zi,Zi];rfl
theorem w9 (ns:List Int) (ts:List Nd) (most:Int) (he:EL ts) (h0:0<ts.length) (hl:ts.length<=100) (m0:0<most) :
  ∃l g:List Int,VP ts l l g/\cZ [.list (au ts),.list (ns.map PyData.int),.int 40,.int most]=.ok (.sh (bo l l g)):=by
 unfold cZ dY bo iD;have nl:=nn he h0;obtain ⟨c1,h1⟩:=zI ns 40 (nums ts).length (by decide) (by lia)
 have sn:aK ((nums ts).length:Int)=true:=iH (by lia) (by lia)
 have lv:bL [.list (au ts)]=.ok (.ol ((iG (nums ts)).map OD.sh)):=jz ts he h0 hl;have zr:=zeros ts.length (ts.length:Int) rfl (by lia)
 push_cast only [lv,aR,gH,sn];generalize hC:ba _ _ _ _ _ _=rc
 have e:=dc hC (λk:Nat=>PyData.int (0+(k:Int))) (λk=>.sh (.int (c1 k * 69621 % most))) (List.range (nums ts).length) (by rw [Int.toNat_natCast];rfl) (by rw [Zh];exact of_eq_true (aW (by lia))) (by
  intro k hk;have:=h1 k (ZH.mp hk);rw [Int.zero_add];push_cast only [this,m0])
 subst e;clear hC;rw [KY];have sl:((List.range (nums ts).length).map λk=>c1 k * 69621 % most).length=(nums ts).length:=by rw [Zc,Zh]
 have sp:∀x∈(List.range (nums ts).length).map λk=>c1 k * 69621 % most,0<=x:=λx hx=>by
  obtain ⟨k,_,rfl⟩:=ZC.mp hx;exact (cW _ m0).1
 generalize (List.range (nums ts).length).map (λk=>c1 k * 69621 % most)=sides at sl sp
 push_cast only [bI,aF,zr,md];generalize hL:bJ _ _ _ _=r'
 have zi:((zL ts.length).map PyData.int).map OD.sh=bH (zL ts.length):=rfl;rw [zi]at hL;refine cT hL (λi ρ=>∃(g:List Int) (v7 v8 v9:Option OD),g.length=ts.length/\(∀x∈g,0<=x)/\(∀q∈nums ts,plA g (hdN q)=0)/\ρ=[some (.sh (.list (au ts))),some (.sh (.list (ns.map PyData.int))),some (.sh (.int 40)),some (.sh (.int most)),some (.sh (.list (iG (nums ts)))),some (.sh (.list (sides.map PyData.int))),some (.ol (bH g)),v7,v8,v9])
  ⟨zL ts.length,_,_,_,x_ _,λx hx=>by rw [(List.mem_replicate.mp hx).2];exact Int.le_refl _,λq _=>rj _ _,rfl⟩ ?_ ?_
 ·rintro i d ρ hd ⟨g,v7,v8,v9,g1,g2,g3,rfl⟩
  obtain ⟨x,hx,rfl⟩:=jH hd;unfold iG at hx;rw [Za]at hx;obtain ⟨q,hq,rfl⟩:=Zp.mp hx;have hi:=(Zb.mp hq).1;have sa:=fE (pl:=sides) (k:=i) (by lia)
  have s0:=mU sp i;have ct:cutD (du q) (some 1) none=du (q.drop 1):=by
   have N:=sy he hq;have:cutD (du q) (some 1) none=(du q).drop 1:=jM (du q) 1 (by rw [iU];exact List.length_pos_iff.mpr N.1)
   rw [this];unfold du;rw [List.map_drop]
  push_cast only [ct,aR];generalize hL2:bJ _ _ _ _=r2
  refine cT hL2 (λm ρ=>∃(g:List Int) (v9:Option OD),g.length=ts.length/\(∀x∈g,0<=x)/\(∀q∈nums ts,plA g (hdN q)=0)/\ρ=[some (.sh (.list (au ts))),some (.sh (.list (ns.map PyData.int))),some (.sh (.int 40)),some (.sh (.int most)),some (.sh (.list (iG (nums ts)))),some (.sh (.list (sides.map PyData.int))),some (.ol (bH g)),some (.sh (.int (i:Int))),some (.sh (.list (du q))),v9]) ⟨g,_,g1,g2,g3,rfl⟩ ?_ ?_
  ·rintro m d ρ hd ⟨g,v9,g1,g2,g3,rfl⟩
   unfold du at hd;rw [Za]at hd;obtain ⟨k,hk,rfl⟩:=Zp.mp hd;obtain ⟨t1,t2⟩:=Bk he hq (ZB hk);have ix:ixN (bH g).length ((k:Nat):Int)=some k:=cz (by rw [bc,g1];exact t1)
   push_cast only [sa,i8 ix,d7];refine ⟨_,_,by rw [ZJ,g1],mem_set s0 g2,λq' hq'=>?_,rfl⟩
   rw [vS (t2 q' hq')];exact g3 q' hq'
  ·rintro ρ' rfl ⟨g,v9,g1,g2,g3,rfl⟩
   push_cast only [and_self];exact ⟨g,_,_,_,g1,g2,g3,rfl⟩
 ·rintro ρ' rfl ⟨g,v7,v8,v9,g1,g2,g3,rfl⟩
  have bg:(sides.length<=BIG)=True:=aW (by lia)
  refine ⟨sides,g,⟨sl,sl,g1,sp,sp,g2,g3⟩,?_⟩;push_cast only [bI,bg,aR]
theorem qZ {g:List Int} (j:Nat) (z:Int) (h:j<g.length):z∈g.set j z:=ZB (i:=j) (by rw [List.getElem?_set_self h])
theorem vc (ts:List Nd) (l r g:List Int) (v:VP ts l r g) (he:EL ts) (h0:0<ts.length) (hl:ts.length<=100) (w:Int) (w0:0<=w):∃l' r' g',d_ [.list (au ts),bo l r g,.int w]=.ok (.sh (bo l' r' g'))/\bN [.list (au ts),bo l' r' g']=.ok (.sh (.bool false)):=by
 unfold d_ fI;have nl:=nn he h0;have ll:=v.ll;have lr:=v.lr;have lg:=v.lg;have cp:=oQ l r g (by lia) (by lia) (by lia)
 have p0:(0:Int)<(l.length:Int):=by lia
 have p1:((l.length:Int)<1073741824)=True:=eq_true (by lia)
 have p2:(0:Int)<(g.length:Int):=by lia
 have p3:((g.length:Int)<1073741824)=True:=eq_true (by lia)
 have ma:=cW (w / 8) p0;obtain ⟨a,ha⟩:∃a:Nat,w / 8 % (l.length:Int)=(a:Int):=⟨(w / 8 % (l.length:Int)).toNat,by lia⟩
 have mb:=cW (w / 64) p2;obtain ⟨b,hb⟩:∃b:Nat,w / 64 % (g.length:Int)=(b:Int):=⟨(w / 64 % (g.length:Int)).toNat,by lia⟩
 have wn:-1-w / 64<0:=by lia
 have il:(bH l).map OD.er=l.map PyData.int:=bI l;have ixl:ixN (bH l).length ((a:Nat):Int)=some a:=cz (by rw [bc];lia)
 have ixr:ixN (bH r).length ((a:Nat):Int)=some a:=cz (by rw [bc];lia)
 have ixg:ixN (bH g).length ((b:Nat):Int)=some b:=cz (by rw [bc];lia)
 have ix0:ixN (bH g).length (0:Int)=some 0:=cz (j:=0) (by rw [bc];lia)
 have lbl:(l.length<BIG)=True:=eg (by lia)
 have lbg:(g.length<BIG)=True:=eg (by lia)
 have pd:∀l' r' g':List Int,OD.sh (.tuple [.list (l'.map PyData.int),.list (r'.map PyData.int),.list (g'.map PyData.int)])=OD.sh (bo l' r' g'):=λ_ _ _=>rfl
 have lst:∀x:List Int,x≠[]->∃y z,x=y++[z]:=λx hx=>⟨x.dropLast,x.getLast hx,(List.dropLast_concat_getLast hx).symm⟩
 have snoc:∀(x:List Int) (z:Int),bH x++[OD.sh (.int z)]=bH (x++[z]):=λx z=>by unfold bH;rw [Zl,Zl];rfl
 have h8:w % 8=0\/w % 8=1\/w % 8=2\/w % 8=3\/w % 8=4\/w % 8=5\/w % 8=6\/w % 8=7:=by lia
 rcases h8 with h | h | h | h | h | h | h | h
 ·refine ⟨l++[0],r,g,?_,qW he h0 hl (by rw [Zd];simp;lia)⟩
  push_cast only [cp,iI,bc,p0,p1,ha,h,lbl,snoc,bI];rfl
 ·obtain ⟨y,z,hy⟩:=lst r (om lr nl.1)
  subst hy;refine ⟨l,y,g,?_,qW he h0 hl (by rw [Zd]at lr;simp at lr;lia)⟩
  rw [<-snoc]at cp;push_cast only [cp,iI,bc,p0,p1,ha,h,zO,xV,bI];rfl
 ·refine ⟨l,r,g++[0],?_,qW he h0 hl (by rw [Zd];simp;lia)⟩
  push_cast only [cp,iI,bc,p0,p1,ha,h,lbg,snoc,bI];rfl
 ·obtain ⟨y,z,hy⟩:=lst g (om lg h0)
  subst hy;refine ⟨l,r,y,?_,qW he h0 hl (by rw [Zd]at lg;simp at lg;lia)⟩
  rw [<-snoc]at cp;push_cast only [cp,iI,bc,p0,p1,ha,h,zO,xV,bI];rfl
 ·refine ⟨l.set a (-1-w / 64),r,g,?_,vf he h0 hl ⟨_,wn,.inl (qZ _ _ (by lia))⟩⟩
  push_cast only [cp,iI,bc,p0,p1,ha,h,i8 ixl,d7,bI];rfl
 ·refine ⟨l,r.set a (-1-w / 64),g,?_,vf he h0 hl ⟨_,wn,.inr (.inl (qZ _ _ (by lia)))⟩⟩
  push_cast only [cp,iI,bc,p0,p1,ha,h,i8 ixr,d7,bI];rfl
 ·refine ⟨l,r,g.set b (-1-w / 64),?_,vf he h0 hl ⟨_,wn,.inr (.inr (qZ _ _ (by lia)))⟩⟩
  push_cast only [cp,iI,bc,p0,p1,ha,h,p2,p3,hb,i8 ixg,d7,bI];rfl
 ·have q0:∃q∈nums ts,hdN q=0:=by
   have N:=gw he ts.length (Zn _);have l0:(lvs ts)[0]?=some 0:=by
    obtain ⟨n,hn⟩:∃n,ts[0]?=some n:=⟨ts[0],by simp [h0]⟩
    rw [nC hn];unfold fw;rw [if_pos ((he 0 n hn).1 rfl)]
   obtain ⟨q,hq⟩:∃q,(nums ts)[0]?=some q:=⟨(nums ts)[0]'nl.1,by rw [Zg nl.1]⟩
   obtain ⟨ne,pw,mem⟩:=N.row 0 q hq;have:0∈q:=(mem 0).mpr ⟨h0,l0⟩;refine ⟨q,ZB hq,?_⟩;cases q with
   |nil=>cases this
   |cons x t =>
    show x=0
    rcases Zo.mp this with z | z
    ·exact z.symm
    ·have:=(List.pairwise_cons.mp pw).1 0 z
     lia
  obtain ⟨q,hq,hz⟩:=q0;refine ⟨l,r,g.set 0 1,?_,C_ he h0 hl ⟨q,hq,?_⟩⟩
  ·push_cast only [cp,iI,bc,p0,p1,ha,h,i8 ix0,d7,bI]
   rfl
  ·rw [hz]
   unfold plA;rw [List.getElem?_set_self (by lia)]
   exact λz=>by cases z
theorem VP.setL {ts:List Nd} {l r g:List Int} (v:VP ts l r g) (a:Nat) {z:Int} (hz:0<=z):VP ts (l.set a z) r g:=⟨by rw [ZJ];exact v.ll,v.lr,v.lg,mem_set hz v.pl,v.pr,v.pg,v.fst⟩
theorem VP.setR {ts:List Nd} {l r g:List Int} (v:VP ts l r g) (a:Nat) {z:Int} (hz:0<=z):VP ts l (r.set a z) g:=⟨v.ll,by rw [ZJ];exact v.lr,v.lg,v.pl,mem_set hz v.pr,v.pg,v.fst⟩
theorem VP.setG {ts:List Nd} {l r g:List Int} (v:VP ts l r g) {k:Nat} (hk:∀q∈nums ts,hdN q≠k) {z:Int} (hz:0<=z):VP ts l r (g.set k z):=⟨v.ll,v.lr,by rw [ZJ];exact v.lg,v.pl,v.pr,mem_set hz v.pg,λq hq=>by rw [vS (hk q hq)];exact v.fst q hq⟩
noncomputable def frL (ts:List Nd):List Nat:=(List.range ts.length).filter λk=>!decide ((k:Int)∈(nums ts).map λq=>((hdN q:Nat):Int))
theorem Gw {ts:List Nd} {k:Nat} (h:k∈frL ts):k<ts.length/\∀q∈nums ts,hdN q≠k:=by
 obtain ⟨h1,h2⟩:=List.mem_filter.mp h;exact ⟨ZH.mp h1,Bq h2⟩
theorem Gg (ts:List Nd):(frL ts).length<=ts.length:=by
 have:=List.length_filter_le (λk:Nat=>!decide ((k:Int)∈(nums ts).map λq=>((hdN q:Nat):Int))) (List.range ts.length)
 rw [Zh]at this;exact this
theorem xB (ts:List Nd) (l r g:List Int) (v:VP ts l r g) (he:EL ts) (h0:0<ts.length) (hl:ts.length<=100) (w:Int):∃l' r' g',VP ts l' r' g'/\cP [.list (au ts),bo l r g,.int w]=.ok (.sh (bo l' r' g')):=by
 unfold cP dM;have nl:=nn he h0;have ll:=v.ll;have lr:=v.lr;have lg:=v.lg;have cp:=oQ l r g (by lia) (by lia) (by lia)
 have lv:bL [.list (au ts)]=.ok (.ol ((iG (nums ts)).map OD.sh)):=jz ts he h0 hl;have s2:aK (ts.length:Int)=true:=iH (by lia) (by lia)
 have p0:(0:Int)<(l.length:Int):=by lia
 have p1:((l.length:Int)<1073741824)=True:=eq_true (by lia)
 have p2:(0:Int)<(r.length:Int):=by lia
 have p3:((r.length:Int)<1073741824)=True:=eq_true (by lia)
 have ma:=cW (w / 5) p0;obtain ⟨a,ha⟩:∃a:Nat,w / 5 % (l.length:Int)=(a:Int):=⟨(w / 5 % (l.length:Int)).toNat,by lia⟩
 have mb:=cW (w / 64) p2;obtain ⟨b,hb⟩:∃b:Nat,w / 64 % (r.length:Int)=(b:Int):=⟨(w / 64 % (r.length:Int)).toNat,by lia⟩
 have ixl:ixN (bH l).length ((a:Nat):Int)=some a:=cz (by rw [bc];lia)
 have ixr:ixN (bH r).length ((b:Nat):Int)=some b:=cz (by rw [bc];lia)
 have ixra:ixN (bH r).length ((a:Nat):Int)=some a:=cz (by rw [bc];lia)
 have al:=fE (pl:=l) (k:=a) (by lia)
 have ar:=fE (pl:=r) (k:=b) (by lia)
 have ara:=fE (pl:=r) (k:=a) (by lia)
 have gl:=mU v.pl a;have gr:=mU v.pr b;have gra:=mU v.pr a;have c1:ba (gNm 0) bQ (eOp gIx (ae 0) (eC (.int 0))) [none] (iG (nums ts)) []=.ok ((nums ts).map λq=>OD.sh (.int ((hdN q:Nat):Int))):=by
  generalize hC:ba _ _ _ _ _ _=rc
  refine dc hC (λq:List Nat=>PyData.list (du q)) (λq=>.sh (.int ((hdN q:Nat):Int))) (nums ts) rfl (of_eq_true (aW (by lia))) (by
   intro q hq;obtain ⟨j,hj⟩:=List.getElem?_of_mem hq;obtain ⟨r1,_⟩:=kj (sy he hj).1;push_cast only [r1])
 have e1:((nums ts).map λq=>OD.sh (.int ((hdN q:Nat):Int))).map OD.er=((nums ts).map λq=>((hdN q:Nat):Int)).map PyData.int:=by
  rw [Zi,Zi];exact Zt λq _=>ee _
 have c2:ba (gNm 0) (aY (eOp (wW true) (ae 0) (ae 1))) (ae 0) [none,some (.sh (.list (((nums ts).map λq=>((hdN q:Nat):Int)).map PyData.int)))] (kf 0 (ts.length:Int).toNat) []=.ok ((frL ts).map λk:Nat=>OD.sh (.int (k:Int))):=by
  generalize hC:ba _ _ _ _ _ _=rc
  refine gR hC (λk:Nat=>PyData.int (0+(k:Int))) (λk:Nat=>!decide ((k:Int)∈(nums ts).map λq=>((hdN q:Nat):Int))) (λk:Nat=>.sh (.int (k:Int))) (List.range ts.length) (by rw [Int.toNat_natCast];rfl) (by rw [Zh];exact of_eq_true (aW (by lia))) (by
   intro k _;rw [Int.zero_add];refine ⟨?_,λ_=>?_⟩
   ·push_cast only [Js]
   ·push_cast only [and_self])
 have fl:=Gg ts;have fin:=λk hk=>Gw (ts:=ts) (k:=k) hk
 generalize frL ts=fr at c2 fl fin
 obtain ⟨bf,hf⟩:∃bf:Bool,decide ((1:Int)<(fr.length:Int))=bf:=⟨_,rfl⟩;obtain ⟨bn,ne,hbn⟩:∃bn:Bool,gNe (.list (nD fr)) (.list [])=.ok (.sh (.bool bn))/\(bn=true->fr≠[]):=by
  by_cases hn:fr=[]
  ·exact ⟨false,by rw [hn];exact ow (lay_ints []),λz=>by cases z⟩
  ·exact ⟨true,vQ (ns:=iL fr) (λz=>hn (by unfold iL at z;exact List.map_eq_nil_iff.mp z)),λ_=>hn⟩
 have at_:∀z:Int,fr≠[]->∃(o k:Nat),z % (fr.length:Int)=(o:Int)/\atI (nD fr) (o:Int)=some (.int (k:Int))/\k<ts.length/\(∀q∈nums ts,hdN q≠k):=λz hn=>by
  have pf:0<fr.length:=List.length_pos_iff.mpr hn;have m:=cW z (show (0:Int)<(fr.length:Int) by lia)
  obtain ⟨o,ho⟩:∃o:Nat,z % (fr.length:Int)=(o:Int):=⟨(z % (fr.length:Int)).toNat,by lia⟩
  obtain ⟨k,hk⟩:∃k,fr[o]?=some k:=⟨fr[o]'(by lia),by rw [Zg (by lia)]⟩
  exact ⟨o,k,ho,qO hk,fin k (ZB hk)⟩
 have q1:fr≠[]->(0:Int)<(fr.length:Int):=λhn=>by
  have pf:0<fr.length:=List.length_pos_iff.mpr hn
  lia
 have q2:((fr.length:Int)<1073741824)=True:=eq_true (by lia)
 have h5:w % 5=0\/w % 5=1\/w % 5=2\/w % 5=3\/w % 5=4:=by lia
 rcases h5 with h | h | h | h | h
 ·refine ⟨l,r,g,v,?_⟩
  cases bn <;> cases bf <;> push_cast only [cp,iI,h,lv,aR,c1,e1,aF,s2,c2,ia,bI,p0,p1,ha,ne,c7,hf] <;> rfl
 ·refine ⟨l.set a (plA l a+1),r.set b (plA r b+1),g,(v.setL a (by lia)).setR b (by lia),?_⟩
  cases bn <;> cases bf <;> push_cast only [cp,iI,h,lv,aR,c1,e1,aF,s2,c2,ia,bI,p0,p1,ha,ne,c7,hf,al,i8 ixl,d7,p2,p3,hb,ar,i8 ixr] <;> rfl
 ·cases bn with
  |false =>
   refine ⟨l,r,g,v,?_⟩;cases bf <;> push_cast only [cp,iI,h,lv,aR,c1,e1,aF,s2,c2,ia,bI,p0,p1,ha,ne,c7,hf] <;> rfl
  |true =>
   obtain ⟨o,k,o1,o2,o3,o4⟩:=at_ (w / 5) (hbn rfl);have q0:=q1 (hbn rfl);have ixg:ixN (bH g).length ((k:Nat):Int)=some k:=cz (by rw [bc];lia)
   have ag:=fE (pl:=g) (k:=k) (by lia)
   have gg:=mU v.pg k;refine ⟨l,r,g.set k (plA g k+1),v.setG o4 (by lia),?_⟩
   cases bf <;> push_cast only [cp,iI,h,lv,aR,c1,e1,aF,s2,c2,ia,bI,p0,p1,ha,ne,c7,hf,q0,q2,o1,o2,ag,i8 ixg,d7] <;> rfl
 ·cases bf with
  |false =>
   refine ⟨l,r,g,v,?_⟩;cases bn <;> push_cast only [cp,iI,h,lv,aR,c1,e1,aF,s2,c2,ia,bI,p0,p1,ha,ne,c7,hf] <;> rfl
  |true =>
   have hn:fr≠[]:=λz=>by
    rw [z]at hf;have:=of_decide_eq_true hf;simp at this
   obtain ⟨o,k,o1,o2,o3,o4⟩:=at_ (w / 5) hn;obtain ⟨u,k2,u1,u2,u3,u4⟩:=at_ (w / 91) hn;have q0:=q1 hn;have ixg:ixN (bH g).length ((k:Nat):Int)=some k:=cz (by rw [bc];lia)
   have ag:=fE (pl:=g) (k:=k) (by lia)
   have gg:=mU v.pg k;have v2:=v.setG o4 (z:=plA g k+1) (by lia)
   have lg2:=v2.lg;generalize hg2:g.set k (plA g k+1)=g2 at v2 lg2
   have ixg2:ixN (bH g2).length ((k2:Nat):Int)=some k2:=cz (by rw [bc];lia)
   have ag2:=fE (pl:=g2) (k:=k2) (by lia)
   obtain ⟨z,hz,z0⟩:∃z,(if (0:Int)<plA g2 k2-1 then plA g2 k2-1 else 0)=z/\0<=z:=⟨_,rfl,by split <;> lia⟩
   refine ⟨l,r,g2.set k2 z,v2.setG u4 z0,?_⟩;cases bn <;> push_cast only [cp,iI,h,lv,aR,c1,e1,aF,s2,c2,ia,bI,p0,p1,ha,ne,c7,hf,q0,q2,o1,o2,ag,i8 ixg,d7,hg2,u1,u2,ag2,hz,i8 ixg2] <;> rfl
 ·refine ⟨l,r.set a (plA r a+1),g,v.setR a (by lia),?_⟩
  cases bn <;> cases bf <;> push_cast only [cp,iI,h,lv,aR,c1,e1,aF,s2,c2,ia,bI,p0,p1,ha,ne,c7,hf,ara,i8 ixra,d7] <;> rfl
theorem xK (ns:List Int) (hn:ns.length<=63):nK [.list (ns.map PyData.int)]=.ok (.sh (.bool true)):=by
 unfold nK qK;obtain ⟨z,hz⟩:=kY ns 0 (by decide) (by decide)
 obtain ⟨z1,hz1⟩:=kY ns 1 (by decide) (by decide)
 obtain ⟨z2,hz2⟩:=kY ns 2 (by decide) (by decide)
 have hm:=cW z (show (0:Int)<6 by decide)
 obtain ⟨ts,c,p,hb,hl,ht⟩:=wz ns 3 (1+z % 6) (z1 % 2147483647) (by decide) (by decide) (by lia) (by lia)
 have he:=mh p;have h0:=F.Pf.pos p;have n10:Int.natAbs 10<18446744073709551616:=by decide
 have h9:=cW (z / 6) (show (0:Int)<9 by decide)
 obtain ⟨most,hm1,hm2⟩:∃m:Int,atI [PyData.int 10,PyData.int 1000000000,PyData.int 1] (if 2<z / 6 % 9 / 4 then 2 else z / 6 % 9 / 4)=some (.int m)/\0<m:=by
  have:z / 6 % 9 / 4=0\/z / 6 % 9 / 4=1\/z / 6 % 9 / 4=2:=by lia
  rcases this with h | h | h
  ·exact ⟨10,by rw [h];exact at0 _ _,by decide⟩
  ·exact ⟨1000000000,by rw [h];exact at1 _ _ _,by decide⟩
  ·exact ⟨1,by rw [h];exact at2 _ _ _ _,by decide⟩
 obtain ⟨l,g,v,hp⟩:=w9 ns ts most he h0 (by lia) hm2
 have hw:=cW (z2 * 48271) (show (0:Int)<2147483647 by decide)
 generalize hw':z2 * 48271 % 2147483647=w at hw
 obtain ⟨l2,r2,g2,v2,ha⟩:=xB ts l l g v he h0 (by lia) w
 obtain ⟨l3,r3,g3,hno,har⟩:=vc ts l l g v he h0 (by lia) (w / 16) (by lia)
 have j1:=p6 ts p hb (by lia) l l g (v.are he h0 (by lia)) v.ll v.lr v.lg
 have j2:=p6 ts p hb (by lia) l2 r2 g2 (v2.are he h0 (by lia)) v2.ll v2.lr v2.lg
 have n1:=tm ts l3 r3 g3 false har;have n2:=tm ts l3 r3 g3 true har;have i1:cV [.bool false,.bool false]=.ok (.sh (.bool true)):=by rw [EJ];rfl
 push_cast only [hz,hz1,ht,n10,hm1,hp,hz2,hw',ha,j1,j2,hno,vn,n1,n2,i1]
theorem all_mk {l:PySem.W.OpenLaw} {w:World} {K:PySem.W.Frag} {h:Heap} {mg:Str->Option Value} {fa:Addr} (X:K.In h) (G:h.Ns mainGlobals mg) (hfa:mg "law" = some (.ref fa))
  {c_41:Addr} {d_41:Value} {e_41:Option Addr} {f_41:Nat} {g_41:Array (Option Value)}
  {A1 A2 A3 A4 A5 A6 A7 A8 A9 A10 A11 A12 A13 A14 A15 A16 A17 A18 A19 A20 A21 A22 A23 A24 A25 A26 A27 A28 A29 A30 A31 A32 A33 A34 A35 A36 A37 A38 A39 A40 A41 A42 A43:Addr}
  {C1 D1 C2 D2 C3 D3 C4 D4 C5 D5 C6 D6 C7 D7 C8 D8 C9 D9 C10 D10 C11 D11 C12 D12 C13 D13 C14 D14 C15 D15 C16 D16 C17 D17 C18 D18 C19 D19 C20 D20 C21 D21 C22 D22 C23 D23 C24 D24 C25 D25 C26 D26 C27 D27 C28 D28 C29 D29 C30 D30 C31 D31 C32 D32 C33 D33 C34 D34 C35 D35 C36 D36 C37 D37 C38 D38 C39 D39 C40 D40 C41 D41 C42 D42 C43 D43:Option Addr}
  {E1 E2 E3 E4 E5 E6 E7 E8 E9 E10 E11 E12 E13 E14 E15 E16 E17 E18 E19 E20 E21 E22 E23 E24 E25 E26 E27 E28 E29 E30 E31 E32 E33 E34 E35 E36 E37 E38 E39 E40 E41 E42 E43:Array (Option Value)}
  {J1 M1 N1 O1 P1 Q1 J2 M2 N2 O2 P2 Q2 J3 M3 N3 O3 P3 Q3 J4 M4 N4 O4 P4 Q4 J5 M5 N5 O5 P5 Q5 J6 M6 N6 O6 P6 Q6 J7 M7 N7 O7 P7 Q7 J8 M8 N8 O8 P8 Q8 J9 M9 N9 O9 P9 Q9 J10 M10 N10 O10 P10 Q10 J11 M11 N11 O11 P11 Q11 J12 M12 N12 O12 P12 Q12 J13 M13 N13 O13 P13 Q13 J14 M14 N14 O14 P14 Q14 J15 M15 N15 O15 P15 Q15 J16 M16 N16 O16 P16 Q16 J17 M17 N17 O17 P17 Q17 J18 M18 N18 O18 P18 Q18 J19 M19 N19 O19 P19 Q19 J20 M20 N20 O20 P20 Q20 J21 M21 N21 O21 P21 Q21 J22 M22 N22 O22 P22 Q22 J23 M23 N23 O23 P23 Q23 J24 M24 N24 O24 P24 Q24 J25 M25 N25 O25 P25 Q25 J26 M26 N26 O26 P26 Q26 J27 M27 N27 O27 P27 Q27 J28 M28 N28 O28 P28 Q28 J29 M29 N29 O29 P29 Q29 J30 M30 N30 O30 P30 Q30 J31 M31 N31 O31 P31 Q31 J32 M32 N32 O32 P32 Q32 J33 M33 N33 O33 P33 Q33 J34 M34 N34 O34 P34 Q34 J35 M35 N35 O35 P35 Q35 J36 M36 N36 O36 P36 Q36 J37 M37 N37 O37 P37 Q37 J38 M38 N38 O38 P38 Q38 J39 M39 N39 O39 P39 Q39 J40 M40 N40 O40 P40 Q40 J41 M41 N41 O41 P41 Q41 J42 M42 N42 O42 P42 Q42 J43 M43 N43 O43 P43 Q43:Value}
  (T1:PySem.W.nsIn K mainGlobals "check_node" = some (some (.ref A1)))(U1:K.lookup A1=some ⟨J1,C1,.func (PySem.W.fnOf "check_node" "check_node" (aJ c6) (aI c6) (aj c6) .none M1 N1 O1 D1 P1 Q1),E1⟩)(V1:PySem.W.codeIn K P1 "check_node" = true)(W1:PySem.W.keepIn K (.ref A1)=true)
  (T2:PySem.W.nsIn K mainGlobals "node_levels" = some (some (.ref A2)))(U2:K.lookup A2=some ⟨J2,C2,.func (PySem.W.fnOf "node_levels" "node_levels" (aJ df) (aI df) (aj df) .none M2 N2 O2 D2 P2 Q2),E2⟩)(V2:PySem.W.codeIn K P2 "node_levels" = true)(W2:PySem.W.keepIn K (.ref A2)=true)
  (T3:PySem.W.nsIn K mainGlobals "reaches" = some (some (.ref A3)))(U3:K.lookup A3=some ⟨J3,C3,.func (PySem.W.fnOf "reaches" "reaches" (aJ fL) (aI fL) (aj fL) .none M3 N3 O3 D3 P3 Q3),E3⟩)(V3:PySem.W.codeIn K P3 "reaches" = true)(W3:PySem.W.keepIn K (.ref A3)=true)
  (T4:PySem.W.nsIn K mainGlobals "bough_end" = some (some (.ref A4)))(U4:K.lookup A4=some ⟨J4,C4,.func (PySem.W.fnOf "bough_end" "bough_end" (aJ eF) (aI eF) (aj eF) .none M4 N4 O4 D4 P4 Q4),E4⟩)(V4:PySem.W.codeIn K P4 "bough_end" = true)(W4:PySem.W.keepIn K (.ref A4)=true)
  (T5:PySem.W.nsIn K mainGlobals "renumbered" = some (some (.ref A5)))(U5:K.lookup A5=some ⟨J5,C5,.func (PySem.W.fnOf "renumbered" "renumbered" (aJ cG) (aI cG) (aj cG) .none M5 N5 O5 D5 P5 Q5),E5⟩)(V5:PySem.W.codeIn K P5 "renumbered" = true)(W5:PySem.W.keepIn K (.ref A5)=true)
  (T6:PySem.W.nsIn K mainGlobals "child_leans" = some (some (.ref A6)))(U6:K.lookup A6=some ⟨J6,C6,.func (PySem.W.fnOf "child_leans" "child_leans" (aJ cF) (aI cF) (aj cF) .none M6 N6 O6 D6 P6 Q6),E6⟩)(V6:PySem.W.codeIn K P6 "child_leans" = true)(W6:PySem.W.keepIn K (.ref A6)=true)
  (T7:PySem.W.nsIn K mainGlobals "group_leans" = some (some (.ref A7)))(U7:K.lookup A7=some ⟨J7,C7,.func (PySem.W.fnOf "group_leans" "group_leans" (aJ bW) (aI bW) (aj bW) .none M7 N7 O7 D7 P7 Q7),E7⟩)(V7:PySem.W.codeIn K P7 "group_leans" = true)(W7:PySem.W.keepIn K (.ref A7)=true)
  (T8:PySem.W.nsIn K mainGlobals "_law_cell" = some (some (.ref A8)))(U8:K.lookup A8=some ⟨J8,C8,.func (PySem.W.fnOf "_law_cell" "_law_cell" (aJ cM) (aI cM) (aj cM) .none M8 N8 O8 D8 P8 Q8),E8⟩)(V8:PySem.W.codeIn K P8 "_law_cell" = true)(W8:PySem.W.keepIn K (.ref A8)=true)
  (T9:PySem.W.nsIn K mainGlobals "_law_label" = some (some (.ref A9)))(U9:K.lookup A9=some ⟨J9,C9,.func (PySem.W.fnOf "_law_label" "_law_label" (aJ dP) (aI dP) (aj dP) .none M9 N9 O9 D9 P9 Q9),E9⟩)(V9:PySem.W.codeIn K P9 "_law_label" = true)(W9:PySem.W.keepIn K (.ref A9)=true)
  (T10:PySem.W.nsIn K mainGlobals "_law_mirror_order" = some (some (.ref A10)))(U10:K.lookup A10=some ⟨J10,C10,.func (PySem.W.fnOf "_law_mirror_order" "_law_mirror_order" (aJ bq) (aI bq) (aj bq) .none M10 N10 O10 D10 P10 Q10),E10⟩)(V10:PySem.W.codeIn K P10 "_law_mirror_order" = true)(W10:PySem.W.keepIn K (.ref A10)=true)
  (T11:PySem.W.nsIn K mainGlobals "_law_hung" = some (some (.ref A11)))(U11:K.lookup A11=some ⟨J11,C11,.func (PySem.W.fnOf "_law_hung" "_law_hung" (aJ eD) (aI eD) (aj eD) .none M11 N11 O11 D11 P11 Q11),E11⟩)(V11:PySem.W.codeIn K P11 "_law_hung" = true)(W11:PySem.W.keepIn K (.ref A11)=true)
  (T12:PySem.W.nsIn K mainGlobals "_law_levels" = some (some (.ref A12)))(U12:K.lookup A12=some ⟨J12,C12,.func (PySem.W.fnOf "_law_levels" "_law_levels" (aJ bX) (aI bX) (aj bX) .none M12 N12 O12 D12 P12 Q12),E12⟩)(V12:PySem.W.codeIn K P12 "_law_levels" = true)(W12:PySem.W.keepIn K (.ref A12)=true)
  (T13:PySem.W.nsIn K mainGlobals "_law_children" = some (some (.ref A13)))(U13:K.lookup A13=some ⟨J13,C13,.func (PySem.W.fnOf "_law_children" "_law_children" (aJ bM) (aI bM) (aj bM) .none M13 N13 O13 D13 P13 Q13),E13⟩)(V13:PySem.W.codeIn K P13 "_law_children" = true)(W13:PySem.W.keepIn K (.ref A13)=true)
  (T14:PySem.W.nsIn K mainGlobals "_law_copied" = some (some (.ref A14)))(U14:K.lookup A14=some ⟨J14,C14,.func (PySem.W.fnOf "_law_copied" "_law_copied" (aJ b_) (aI b_) (aj b_) .none M14 N14 O14 D14 P14 Q14),E14⟩)(V14:PySem.W.codeIn K P14 "_law_copied" = true)(W14:PySem.W.keepIn K (.ref A14)=true)
  (T15:PySem.W.nsIn K mainGlobals "_law_key" = some (some (.ref A15)))(U15:K.lookup A15=some ⟨J15,C15,.func (PySem.W.fnOf "_law_key" "_law_key" (aJ eJ) (aI eJ) (aj eJ) .none M15 N15 O15 D15 P15 Q15),E15⟩)(V15:PySem.W.codeIn K P15 "_law_key" = true)(W15:PySem.W.keepIn K (.ref A15)=true)
  (T16:PySem.W.nsIn K mainGlobals "_law_is" = some (some (.ref A16)))(U16:K.lookup A16=some ⟨J16,C16,.func (PySem.W.fnOf "_law_is" "_law_is" (aJ fK) (aI fK) (aj fK) .none M16 N16 O16 D16 P16 Q16),E16⟩)(V16:PySem.W.codeIn K P16 "_law_is" = true)(W16:PySem.W.keepIn K (.ref A16)=true)
  (T17:PySem.W.nsIn K mainGlobals "children_of" = some (some (.ref A17)))(U17:K.lookup A17=some ⟨J17,C17,.func (PySem.W.fnOf "children_of" "children_of" (aJ bZ) (aI bZ) (aj bZ) .none M17 N17 O17 D17 P17 Q17),E17⟩)(V17:PySem.W.codeIn K P17 "children_of" = true)(W17:PySem.W.keepIn K (.ref A17)=true)
  (T18:PySem.W.nsIn K mainGlobals "levels_of" = some (some (.ref A18)))(U18:K.lookup A18=some ⟨J18,C18,.func (PySem.W.fnOf "levels_of" "levels_of" (aJ dh) (aI dh) (aj dh) .none M18 N18 O18 D18 P18 Q18),E18⟩)(V18:PySem.W.codeIn K P18 "levels_of" = true)(W18:PySem.W.keepIn K (.ref A18)=true)
  (T19:PySem.W.nsIn K mainGlobals "bough_of" = some (some (.ref A19)))(U19:K.lookup A19=some ⟨J19,C19,.func (PySem.W.fnOf "bough_of" "bough_of" (aJ fu) (aI fu) (aj fu) .none M19 N19 O19 D19 P19 Q19),E19⟩)(V19:PySem.W.codeIn K P19 "bough_of" = true)(W19:PySem.W.keepIn K (.ref A19)=true)
  (T20:PySem.W.nsIn K mainGlobals "form_of" = some (some (.ref A20)))(U20:K.lookup A20=some ⟨J20,C20,.func (PySem.W.fnOf "form_of" "form_of" (aJ fH) (aI fH) (aj fH) .none M20 N20 O20 D20 P20 Q20),E20⟩)(V20:PySem.W.codeIn K P20 "form_of" = true)(W20:PySem.W.keepIn K (.ref A20)=true)
  (T21:PySem.W.nsIn K mainGlobals "_law_tree" = some (some (.ref A21)))(U21:K.lookup A21=some ⟨J21,C21,.func (PySem.W.fnOf "_law_tree" "_law_tree" (aJ eI) (aI eI) (aj eI) .none M21 N21 O21 D21 P21 Q21),E21⟩)(V21:PySem.W.codeIn K P21 "_law_tree" = true)(W21:PySem.W.keepIn K (.ref A21)=true)
  (T22:PySem.W.nsIn K mainGlobals "_law_mirror_tree" = some (some (.ref A22)))(U22:K.lookup A22=some ⟨J22,C22,.func (PySem.W.fnOf "_law_mirror_tree" "_law_mirror_tree" (aJ bK) (aI bK) (aj bK) .none M22 N22 O22 D22 P22 Q22),E22⟩)(V22:PySem.W.codeIn K P22 "_law_mirror_tree" = true)(W22:PySem.W.keepIn K (.ref A22)=true)
  (T23:PySem.W.nsIn K mainGlobals "_law_relabelled" = some (some (.ref A23)))(U23:K.lookup A23=some ⟨J23,C23,.func (PySem.W.fnOf "_law_relabelled" "_law_relabelled" (aJ bT) (aI bT) (aj bT) .none M23 N23 O23 D23 P23 Q23),E23⟩)(V23:PySem.W.codeIn K P23 "_law_relabelled" = true)(W23:PySem.W.keepIn K (.ref A23)=true)
  (T24:PySem.W.nsIn K mainGlobals "_law_node_pulls" = some (some (.ref A24)))(U24:K.lookup A24=some ⟨J24,C24,.func (PySem.W.fnOf "_law_node_pulls" "_law_node_pulls" (aJ bU) (aI bU) (aj bU) .none M24 N24 O24 D24 P24 Q24),E24⟩)(V24:PySem.W.codeIn K P24 "_law_node_pulls" = true)(W24:PySem.W.keepIn K (.ref A24)=true)
  (T25:PySem.W.nsIn K mainGlobals "_law_groups_calm" = some (some (.ref A25)))(U25:K.lookup A25=some ⟨J25,C25,.func (PySem.W.fnOf "_law_groups_calm" "_law_groups_calm" (aJ aQ) (aI aQ) (aj aQ) .none M25 N25 O25 D25 P25 Q25),E25⟩)(V25:PySem.W.codeIn K P25 "_law_groups_calm" = true)(W25:PySem.W.keepIn K (.ref A25)=true)
  (T26:PySem.W.nsIn K mainGlobals "_law_level_pulls" = some (some (.ref A26)))(U26:K.lookup A26=some ⟨J26,C26,.func (PySem.W.fnOf "_law_level_pulls" "_law_level_pulls" (aJ bw) (aI bw) (aj bw) .none M26 N26 O26 D26 P26 Q26),E26⟩)(V26:PySem.W.codeIn K P26 "_law_level_pulls" = true)(W26:PySem.W.keepIn K (.ref A26)=true)
  (T27:PySem.W.nsIn K mainGlobals "_law_pulled_about" = some (some (.ref A27)))(U27:K.lookup A27=some ⟨J27,C27,.func (PySem.W.fnOf "_law_pulled_about" "_law_pulled_about" (aJ a_) (aI a_) (aj a_) .none M27 N27 O27 D27 P27 Q27),E27⟩)(V27:PySem.W.codeIn K P27 "_law_pulled_about" = true)(W27:PySem.W.keepIn K (.ref A27)=true)
  (T28:PySem.W.nsIn K mainGlobals "_law_no_pulls" = some (some (.ref A28)))(U28:K.lookup A28=some ⟨J28,C28,.func (PySem.W.fnOf "_law_no_pulls" "_law_no_pulls" (aJ cw) (aI cw) (aj cw) .none M28 N28 O28 D28 P28 Q28),E28⟩)(V28:PySem.W.codeIn K P28 "_law_no_pulls" = true)(W28:PySem.W.keepIn K (.ref A28)=true)
  (T29:PySem.W.nsIn K mainGlobals "neighbours" = some (some (.ref A29)))(U29:K.lookup A29=some ⟨J29,C29,.func (PySem.W.fnOf "neighbours" "neighbours" (aJ c9) (aI c9) (aj c9) .none M29 N29 O29 D29 P29 Q29),E29⟩)(V29:PySem.W.codeIn K P29 "neighbours" = true)(W29:PySem.W.keepIn K (.ref A29)=true)
  (T30:PySem.W.nsIn K mainGlobals "mirrored_order" = some (some (.ref A30)))(U30:K.lookup A30=some ⟨J30,C30,.func (PySem.W.fnOf "mirrored_order" "mirrored_order" (aJ b6) (aI b6) (aj b6) .none M30 N30 O30 D30 P30 Q30),E30⟩)(V30:PySem.W.codeIn K P30 "mirrored_order" = true)(W30:PySem.W.keepIn K (.ref A30)=true)
  (T31:PySem.W.nsIn K mainGlobals "forks" = some (some (.ref A31)))(U31:K.lookup A31=some ⟨J31,C31,.func (PySem.W.fnOf "forks" "forks" (aJ iS) (aI iS) (aj iS) .none M31 N31 O31 D31 P31 Q31),E31⟩)(V31:PySem.W.codeIn K P31 "forks" = true)(W31:PySem.W.keepIn K (.ref A31)=true)
  (T32:PySem.W.nsIn K mainGlobals "are_pulls" = some (some (.ref A32)))(U32:K.lookup A32=some ⟨J32,C32,.func (PySem.W.fnOf "are_pulls" "are_pulls" (aJ cR) (aI cR) (aj cR) .none M32 N32 O32 D32 P32 Q32),E32⟩)(V32:PySem.W.codeIn K P32 "are_pulls" = true)(W32:PySem.W.keepIn K (.ref A32)=true)
  (T33:PySem.W.nsIn K mainGlobals "_law_family" = some (some (.ref A33)))(U33:K.lookup A33=some ⟨J33,C33,.func (PySem.W.fnOf "_law_family" "_law_family" (aJ dg) (aI dg) (aj dg) .none M33 N33 O33 D33 P33 Q33),E33⟩)(V33:PySem.W.codeIn K P33 "_law_family" = true)(W33:PySem.W.keepIn K (.ref A33)=true)
  (T34:PySem.W.nsIn K mainGlobals "_law_leans" = some (some (.ref A34)))(U34:K.lookup A34=some ⟨J34,C34,.func (PySem.W.fnOf "_law_leans" "_law_leans" (aJ cI) (aI cI) (aj cI) .none M34 N34 O34 D34 P34 Q34),E34⟩)(V34:PySem.W.codeIn K P34 "_law_leans" = true)(W34:PySem.W.keepIn K (.ref A34)=true)
  (T35:PySem.W.nsIn K mainGlobals "mirrored" = some (some (.ref A35)))(U35:K.lookup A35=some ⟨J35,C35,.func (PySem.W.fnOf "mirrored" "mirrored" (aJ fC) (aI fC) (aj fC) .none M35 N35 O35 D35 P35 Q35),E35⟩)(V35:PySem.W.codeIn K P35 "mirrored" = true)(W35:PySem.W.keepIn K (.ref A35)=true)
  (T36:PySem.W.nsIn K mainGlobals "node_pulls" = some (some (.ref A36)))(U36:K.lookup A36=some ⟨J36,C36,.func (PySem.W.fnOf "node_pulls" "node_pulls" (aJ dI) (aI dI) (aj dI) .none M36 N36 O36 D36 P36 Q36),E36⟩)(V36:PySem.W.codeIn K P36 "node_pulls" = true)(W36:PySem.W.keepIn K (.ref A36)=true)
  (T37:PySem.W.nsIn K mainGlobals "likeness" = some (some (.ref A37)))(U37:K.lookup A37=some ⟨J37,C37,.func (PySem.W.fnOf "likeness" "likeness" (aJ fB) (aI fB) (aj fB) .none M37 N37 O37 D37 P37 Q37),E37⟩)(V37:PySem.W.codeIn K P37 "likeness" = true)(W37:PySem.W.keepIn K (.ref A37)=true)
  (T38:PySem.W.nsIn K mainGlobals "bough_pulls" = some (some (.ref A38)))(U38:K.lookup A38=some ⟨J38,C38,.func (PySem.W.fnOf "bough_pulls" "bough_pulls" (aJ dm) (aI dm) (aj dm) .none M38 N38 O38 D38 P38 Q38),E38⟩)(V38:PySem.W.codeIn K P38 "bough_pulls" = true)(W38:PySem.W.keepIn K (.ref A38)=true)
  (T39:PySem.W.nsIn K mainGlobals "like_groups" = some (some (.ref A39)))(U39:K.lookup A39=some ⟨J39,C39,.func (PySem.W.fnOf "like_groups" "like_groups" (aJ b5) (aI b5) (aj b5) .none M39 N39 O39 D39 P39 Q39),E39⟩)(V39:PySem.W.codeIn K P39 "like_groups" = true)(W39:PySem.W.keepIn K (.ref A39)=true)
  (T40:PySem.W.nsIn K mainGlobals "leans" = some (some (.ref A40)))(U40:K.lookup A40=some ⟨J40,C40,.func (PySem.W.fnOf "leans" "leans" (aJ iM) (aI iM) (aj iM) .none M40 N40 O40 D40 P40 Q40),E40⟩)(V40:PySem.W.codeIn K P40 "leans" = true)(W40:PySem.W.keepIn K (.ref A40)=true)
  (T41:PySem.W.nsIn K mainGlobals "is_paper" = some (some (.ref A41)))(U41:K.lookup A41=some ⟨J41,C41,.func (PySem.W.fnOf "is_paper" "is_paper" (aJ dn) (aI dn) (aj dn) (.ref c_41) M41 N41 O41 D41 P41 Q41),E41⟩)(b_41:K.lookup c_41=some ⟨d_41,e_41,.seq #[.bool false] f_41,g_41⟩)(V41:PySem.W.codeIn K P41 "is_paper" = true)(W41:PySem.W.keepIn K (.ref A41)=true)
  (T42:PySem.W.nsIn K mainGlobals "_law_judged" = some (some (.ref A42)))(U42:K.lookup A42=some ⟨J42,C42,.func (PySem.W.fnOf "_law_judged" "_law_judged" (aJ cJ) (aI cJ) (aj cJ) .none M42 N42 O42 D42 P42 Q42),E42⟩)(V42:PySem.W.codeIn K P42 "_law_judged" = true)(W42:PySem.W.keepIn K (.ref A42)=true)
  (T43:PySem.W.nsIn K mainGlobals "law" = some (some (.ref A43)))(U43:K.lookup A43=some ⟨J43,C43,.func (PySem.W.fnOf "law" "law" (aJ lM) (aI lM) (aj lM) .none M43 N43 O43 D43 P43 Q43),E43⟩)(V43:PySem.W.codeIn K P43 "law" = true)(W43:PySem.W.keepIn K (.ref A43)=true)
  (z_any:PySem.W.nsIn K mainGlobals "any" = some none)
  (z_bool:PySem.W.nsIn K mainGlobals "bool" = some none)
  (z_enumerate:PySem.W.nsIn K mainGlobals "enumerate" = some none)
  (z_isinstance:PySem.W.nsIn K mainGlobals "isinstance" = some none)
  (z_len:PySem.W.nsIn K mainGlobals "len" = some none)
  (z_list:PySem.W.nsIn K mainGlobals "list" = some none)
  (z_max:PySem.W.nsIn K mainGlobals "max" = some none)
  (z_min:PySem.W.nsIn K mainGlobals "min" = some none)
  (z_range:PySem.W.nsIn K mainGlobals "range" = some none)
  (z_sum:PySem.W.nsIn K mainGlobals "sum" = some none)
  (z_zip:PySem.W.nsIn K mainGlobals "zip" = some none) :
  ∃fd:FuncData,(∀(s:Shared) (v:Value),BindsTo s fd ⟨[v],[]⟩ [("_law_script",v)])/\∀base:Heap,K.In base->base.Ns mainGlobals mg->FnOk l.prog w K mg base CX0 9 fa fd ["_law_script"] (sp3 K mg nK):=by
 have e:=hfa.symm.trans (PySem.W.mg_of X G T43);cases e;have T:Txt K mg:=⟨PySem.W.mg_none_of X G z_any,PySem.W.mg_none_of X G z_bool,PySem.W.mg_none_of X G z_enumerate,PySem.W.mg_none_of X G z_isinstance,PySem.W.mg_none_of X G z_len,PySem.W.mg_none_of X G z_list,PySem.W.mg_none_of X G z_max,PySem.W.mg_none_of X G z_min,PySem.W.mg_none_of X G z_range,PySem.W.mg_none_of X G z_sum,PySem.W.mg_none_of X G z_zip⟩;have a_1:=bj (st:=c6) U1 V1 W1;have X1:Def K mg "check_node" c6 ["tree", "node"] _ _:=⟨a_1,PySem.W.mg_of X G T1,a_1.binds (ps:=["tree", "node"]) λ_ _ _ _ _ _ us hl=>by obtain ⟨_,_,rfl⟩:=ex2 hl;rfl⟩
 have a_2:=bj (st:=df) U2 V2 W2;have X2:Def K mg "node_levels" df ["tree"] _ _:=⟨a_2,PySem.W.mg_of X G T2,a_2.binds (ps:=["tree"]) λ_ _ _ _ _ _ us hl=>by obtain ⟨_,rfl⟩:=ex1 hl;rfl⟩
 have a_3:=bj (st:=fL) U3 V3 W3;have X3:Def K mg "reaches" fL ["tree"] _ _:=⟨a_3,PySem.W.mg_of X G T3,a_3.binds (ps:=["tree"]) λ_ _ _ _ _ _ us hl=>by obtain ⟨_,rfl⟩:=ex1 hl;rfl⟩
 have a_4:=bj (st:=eF) U4 V4 W4;have X4:Def K mg "bough_end" eF ["tree", "node"] _ _:=⟨a_4,PySem.W.mg_of X G T4,a_4.binds (ps:=["tree", "node"]) λ_ _ _ _ _ _ us hl=>by obtain ⟨_,_,rfl⟩:=ex2 hl;rfl⟩
 have a_5:=bj (st:=cG) U5 V5 W5;have X5:Def K mg "renumbered" cG ["rows", "numbers"] _ _:=⟨a_5,PySem.W.mg_of X G T5,a_5.binds (ps:=["rows", "numbers"]) λ_ _ _ _ _ _ us hl=>by obtain ⟨_,_,rfl⟩:=ex2 hl;rfl⟩
 have a_6:=bj (st:=cF) U6 V6 W6;have X6:Def K mg "child_leans" cF ["sums"] _ _:=⟨a_6,PySem.W.mg_of X G T6,a_6.binds (ps:=["sums"]) λ_ _ _ _ _ _ us hl=>by obtain ⟨_,rfl⟩:=ex1 hl;rfl⟩
 have a_7:=bj (st:=bW) U7 V7 W7;have X7:Def K mg "group_leans" bW ["felt", "group"] _ _:=⟨a_7,PySem.W.mg_of X G T7,a_7.binds (ps:=["felt", "group"]) λ_ _ _ _ _ _ us hl=>by obtain ⟨_,_,rfl⟩:=ex2 hl;rfl⟩
 have a_8:=bj (st:=cM) U8 V8 W8;have X8:Def K mg "_law_cell" cM ["_law_script", "_law_k"] _ _:=⟨a_8,PySem.W.mg_of X G T8,a_8.binds (ps:=["_law_script", "_law_k"]) λ_ _ _ _ _ _ us hl=>by obtain ⟨_,_,rfl⟩:=ex2 hl;rfl⟩
 have a_9:=bj (st:=dP) U9 V9 W9;have X9:Def K mg "_law_label" dP ["_law_number", "_law_most"] _ _:=⟨a_9,PySem.W.mg_of X G T9,a_9.binds (ps:=["_law_number", "_law_most"]) λ_ _ _ _ _ _ us hl=>by obtain ⟨_,_,rfl⟩:=ex2 hl;rfl⟩
 have a_10:=bj (st:=bq) U10 V10 W10;have X10:Def K mg "_law_mirror_order" bq ["_law_tree_here"] _ _:=⟨a_10,PySem.W.mg_of X G T10,a_10.binds (ps:=["_law_tree_here"]) λ_ _ _ _ _ _ us hl=>by obtain ⟨_,rfl⟩:=ex1 hl;rfl⟩
 have a_11:=bj (st:=eD) U11 V11 W11;have X11:Def K mg "_law_hung" eD ["_law_tree_here", "_law_shift"] _ _:=⟨a_11,PySem.W.mg_of X G T11,a_11.binds (ps:=["_law_tree_here", "_law_shift"]) λ_ _ _ _ _ _ us hl=>by obtain ⟨_,_,rfl⟩:=ex2 hl;rfl⟩
 have a_12:=bj (st:=bX) U12 V12 W12;have X12:Def K mg "_law_levels" bX ["_law_tree_here"] _ _:=⟨a_12,PySem.W.mg_of X G T12,a_12.binds (ps:=["_law_tree_here"]) λ_ _ _ _ _ _ us hl=>by obtain ⟨_,rfl⟩:=ex1 hl;rfl⟩
 have a_13:=bj (st:=bM) U13 V13 W13;have X13:Def K mg "_law_children" bM ["_law_tree_here"] _ _:=⟨a_13,PySem.W.mg_of X G T13,a_13.binds (ps:=["_law_tree_here"]) λ_ _ _ _ _ _ us hl=>by obtain ⟨_,rfl⟩:=ex1 hl;rfl⟩
 have a_14:=bj (st:=b_) U14 V14 W14;have X14:Def K mg "_law_copied" b_ ["_law_pulls"] _ _:=⟨a_14,PySem.W.mg_of X G T14,a_14.binds (ps:=["_law_pulls"]) λ_ _ _ _ _ _ us hl=>by obtain ⟨_,rfl⟩:=ex1 hl;rfl⟩
 have a_15:=bj (st:=eJ) U15 V15 W15;have X15:Def K mg "_law_key" eJ ["_law_tree_here", "_law_some", "_law_node", "_law_turned"] _ _:=⟨a_15,PySem.W.mg_of X G T15,a_15.binds (ps:=["_law_tree_here", "_law_some", "_law_node", "_law_turned"]) λ_ _ _ _ _ _ us hl=>by obtain ⟨_,_,_,_,rfl⟩:=ex4 hl;rfl⟩
 have a_16:=bj (st:=fK) U16 V16 W16;have X16:Def K mg "_law_is" fK ["_law_found", "_law_due"] _ _:=⟨a_16,PySem.W.mg_of X G T16,a_16.binds (ps:=["_law_found", "_law_due"]) λ_ _ _ _ _ _ us hl=>by obtain ⟨_,_,rfl⟩:=ex2 hl;rfl⟩
 have a_17:=bj (st:=bZ) U17 V17 W17;have X17:Def K mg "children_of" bZ ["tree", "node"] _ _:=⟨a_17,PySem.W.mg_of X G T17,a_17.binds (ps:=["tree", "node"]) λ_ _ _ _ _ _ us hl=>by obtain ⟨_,_,rfl⟩:=ex2 hl;rfl⟩
 have a_18:=bj (st:=dh) U18 V18 W18;have X18:Def K mg "levels_of" dh ["tree"] _ _:=⟨a_18,PySem.W.mg_of X G T18,a_18.binds (ps:=["tree"]) λ_ _ _ _ _ _ us hl=>by obtain ⟨_,rfl⟩:=ex1 hl;rfl⟩
 have a_19:=bj (st:=fu) U19 V19 W19;have X19:Def K mg "bough_of" fu ["tree", "node"] _ _:=⟨a_19,PySem.W.mg_of X G T19,a_19.binds (ps:=["tree", "node"]) λ_ _ _ _ _ _ us hl=>by obtain ⟨_,_,rfl⟩:=ex2 hl;rfl⟩
 have a_20:=bj (st:=fH) U20 V20 W20;have X20:Def K mg "form_of" fH ["bough"] _ _:=⟨a_20,PySem.W.mg_of X G T20,a_20.binds (ps:=["bough"]) λ_ _ _ _ _ _ us hl=>by obtain ⟨_,rfl⟩:=ex1 hl;rfl⟩
 have a_21:=bj (st:=eI) U21 V21 W21;have X21:Def K mg "_law_tree" eI ["_law_script", "_law_start", "_law_many", "_law_most", "_law_deep"] _ _:=⟨a_21,PySem.W.mg_of X G T21,a_21.binds (ps:=["_law_script", "_law_start", "_law_many", "_law_most", "_law_deep"]) λ_ _ _ _ _ _ us hl=>by obtain ⟨_,_,_,_,_,rfl⟩:=ex5 hl;rfl⟩
 have a_22:=bj (st:=bK) U22 V22 W22;have X22:Def K mg "_law_mirror_tree" bK ["_law_tree_here"] _ _:=⟨a_22,PySem.W.mg_of X G T22,a_22.binds (ps:=["_law_tree_here"]) λ_ _ _ _ _ _ us hl=>by obtain ⟨_,rfl⟩:=ex1 hl;rfl⟩
 have a_23:=bj (st:=bT) U23 V23 W23;have X23:Def K mg "_law_relabelled" bT ["_law_tree_here", "_law_script", "_law_start"] _ _:=⟨a_23,PySem.W.mg_of X G T23,a_23.binds (ps:=["_law_tree_here", "_law_script", "_law_start"]) λ_ _ _ _ _ _ us hl=>by obtain ⟨_,_,_,rfl⟩:=ex3 hl;rfl⟩
 have a_24:=bj (st:=bU) U24 V24 W24;have X24:Def K mg "_law_node_pulls" bU ["_law_tree_here", "_law_pulls"] _ _:=⟨a_24,PySem.W.mg_of X G T24,a_24.binds (ps:=["_law_tree_here", "_law_pulls"]) λ_ _ _ _ _ _ us hl=>by obtain ⟨_,_,rfl⟩:=ex2 hl;rfl⟩
 have a_25:=bj (st:=aQ) U25 V25 W25;have X25:Def K mg "_law_groups_calm" aQ ["_law_tree_here", "_law_rows"] _ _:=⟨a_25,PySem.W.mg_of X G T25,a_25.binds (ps:=["_law_tree_here", "_law_rows"]) λ_ _ _ _ _ _ us hl=>by obtain ⟨_,_,rfl⟩:=ex2 hl;rfl⟩
 have a_26:=bj (st:=bw) U26 V26 W26;have X26:Def K mg "_law_level_pulls" bw ["_law_tree_here", "_law_script", "_law_start", "_law_most"] _ _:=⟨a_26,PySem.W.mg_of X G T26,a_26.binds (ps:=["_law_tree_here", "_law_script", "_law_start", "_law_most"]) λ_ _ _ _ _ _ us hl=>by obtain ⟨_,_,_,_,rfl⟩:=ex4 hl;rfl⟩
 have a_27:=bj (st:=a_) U27 V27 W27;have X27:Def K mg "_law_pulled_about" a_ ["_law_tree_here", "_law_pulls", "_law_number"] _ _:=⟨a_27,PySem.W.mg_of X G T27,a_27.binds (ps:=["_law_tree_here", "_law_pulls", "_law_number"]) λ_ _ _ _ _ _ us hl=>by obtain ⟨_,_,_,rfl⟩:=ex3 hl;rfl⟩
 have a_28:=bj (st:=cw) U28 V28 W28;have X28:Def K mg "_law_no_pulls" cw ["_law_tree_here", "_law_pulls", "_law_number"] _ _:=⟨a_28,PySem.W.mg_of X G T28,a_28.binds (ps:=["_law_tree_here", "_law_pulls", "_law_number"]) λ_ _ _ _ _ _ us hl=>by obtain ⟨_,_,_,rfl⟩:=ex3 hl;rfl⟩
 have a_29:=bj (st:=c9) U29 V29 W29;have X29:Def K mg "neighbours" c9 ["tree"] _ _:=⟨a_29,PySem.W.mg_of X G T29,a_29.binds (ps:=["tree"]) λ_ _ _ _ _ _ us hl=>by obtain ⟨_,rfl⟩:=ex1 hl;rfl⟩
 have a_30:=bj (st:=b6) U30 V30 W30;have X30:Def K mg "mirrored_order" b6 ["tree"] _ _:=⟨a_30,PySem.W.mg_of X G T30,a_30.binds (ps:=["tree"]) λ_ _ _ _ _ _ us hl=>by obtain ⟨_,rfl⟩:=ex1 hl;rfl⟩
 have a_31:=bj (st:=iS) U31 V31 W31;have X31:Def K mg "forks" iS ["tree"] _ _:=⟨a_31,PySem.W.mg_of X G T31,a_31.binds (ps:=["tree"]) λ_ _ _ _ _ _ us hl=>by obtain ⟨_,rfl⟩:=ex1 hl;rfl⟩
 have a_32:=bj (st:=cR) U32 V32 W32;have X32:Def K mg "are_pulls" cR ["tree", "pulls"] _ _:=⟨a_32,PySem.W.mg_of X G T32,a_32.binds (ps:=["tree", "pulls"]) λ_ _ _ _ _ _ us hl=>by obtain ⟨_,_,rfl⟩:=ex2 hl;rfl⟩
 have a_33:=bj (st:=dg) U33 V33 W33;have X33:Def K mg "_law_family" dg ["_law_script", "_law_start", "_law_many", "_law_kinds"] _ _:=⟨a_33,PySem.W.mg_of X G T33,a_33.binds (ps:=["_law_script", "_law_start", "_law_many", "_law_kinds"]) λ_ _ _ _ _ _ us hl=>by obtain ⟨_,_,_,_,rfl⟩:=ex4 hl;rfl⟩
 have a_34:=bj (st:=cI) U34 V34 W34;have X34:Def K mg "_law_leans" cI ["_law_tree_here", "_law_pulls"] _ _:=⟨a_34,PySem.W.mg_of X G T34,a_34.binds (ps:=["_law_tree_here", "_law_pulls"]) λ_ _ _ _ _ _ us hl=>by obtain ⟨_,_,rfl⟩:=ex2 hl;rfl⟩
 have a_35:=bj (st:=fC) U35 V35 W35;have X35:Def K mg "mirrored" fC ["tree"] _ _:=⟨a_35,PySem.W.mg_of X G T35,a_35.binds (ps:=["tree"]) λ_ _ _ _ _ _ us hl=>by obtain ⟨_,rfl⟩:=ex1 hl;rfl⟩
 have a_36:=bj (st:=dI) U36 V36 W36;have X36:Def K mg "node_pulls" dI ["tree", "pulls"] _ _:=⟨a_36,PySem.W.mg_of X G T36,a_36.binds (ps:=["tree", "pulls"]) λ_ _ _ _ _ _ us hl=>by obtain ⟨_,_,rfl⟩:=ex2 hl;rfl⟩
 have a_37:=bj (st:=fB) U37 V37 W37;have X37:Def K mg "likeness" fB ["tree", "one", "other"] _ _:=⟨a_37,PySem.W.mg_of X G T37,a_37.binds (ps:=["tree", "one", "other"]) λ_ _ _ _ _ _ us hl=>by obtain ⟨_,_,_,rfl⟩:=ex3 hl;rfl⟩
 have a_38:=bj (st:=dm) U38 V38 W38;have X38:Def K mg "bough_pulls" dm ["tree", "pulls"] _ _:=⟨a_38,PySem.W.mg_of X G T38,a_38.binds (ps:=["tree", "pulls"]) λ_ _ _ _ _ _ us hl=>by obtain ⟨_,_,rfl⟩:=ex2 hl;rfl⟩
 have a_39:=bj (st:=b5) U39 V39 W39;have X39:Def K mg "like_groups" b5 ["tree"] _ _:=⟨a_39,PySem.W.mg_of X G T39,a_39.binds (ps:=["tree"]) λ_ _ _ _ _ _ us hl=>by obtain ⟨_,rfl⟩:=ex1 hl;rfl⟩
 have a_40:=bj (st:=iM) U40 V40 W40;have X40:Def K mg "leans" iM ["tree", "pulls"] _ _:=⟨a_40,PySem.W.mg_of X G T40,a_40.binds (ps:=["tree", "pulls"]) λ_ _ _ _ _ _ us hl=>by obtain ⟨_,_,rfl⟩:=ex2 hl;rfl⟩
 have a_41:=Bj (st:=dn) U41 V41 W41;have X41:DefD K mg "is_paper" dn ["tree", "pulls", "strict"] ["strict"] 2 [.bl false] _ _:=⟨a_41,PySem.W.mg_of X G T41,sI (m:=3) (ds:=[]) rfl λs us hK hl=>match us,hl with | [_,_,_],_=>.of_defaults rfl (hK _ _ b_41) rfl rfl rfl,⟨_,sI (m:=2) (ds:=[.bool false]) rfl λs us hK hl=>match us,hl with | [_,_],_=>.of_defaults rfl (hK _ _ b_41) rfl rfl rfl,.cons rfl .nil⟩,IU (by decide) λs us ws hK hl hw=>match us,hl,ws,hw with | [_,_],_,[_],_=>.of_defaults rfl (hK _ _ b_41) rfl rfl rfl⟩
 have a_42:=bj (st:=cJ) U42 V42 W42;have X42:Def K mg "_law_judged" cJ ["_law_tree_here", "_law_pulls"] _ _:=⟨a_42,PySem.W.mg_of X G T42,a_42.binds (ps:=["_law_tree_here", "_law_pulls"]) λ_ _ _ _ _ _ us hl=>by obtain ⟨_,_,rfl⟩:=ex2 hl;rfl⟩
 have a_43:=bj (st:=lM) U43 V43 W43;refine ⟨PySem.W.fnOf "law" "law" (aJ lM) (aI lM) (aj lM) .none M43 N43 O43 D43 P43 Q43,λs v=>.of_eq rfl,λbase _ _=>?_⟩
 have Y1:FnOk l.prog w K mg base CX0 1 _ _ _ _:=pL X1.F T;have Y2:FnOk l.prog w K mg base CX0 1 _ _ _ _:=nP X2.F T;have Y3:FnOk l.prog w K mg base CX0 1 _ _ _ _:=uX X3.F T;have Y4:FnOk l.prog w K mg base CX0 1 _ _ _ _:=rm X4.F T;have Y5:FnOk l.prog w K mg base CX0 1 _ _ _ _:=pJ X5.F T;have Y6:FnOk l.prog w K mg base CX0 1 _ _ _ _:=oS X6.F T;have Y7:FnOk l.prog w K mg base CX0 1 _ _ _ _:=oo X7.F T;have Y8:FnOk l.prog w K mg base CX0 1 _ _ _ _:=qX X8.F T;have Y9:FnOk l.prog w K mg base CX0 1 _ _ _ _:=pv X9.F T;have Y10:FnOk l.prog w K mg base CX0 1 _ _ _ _:=kG X10.F T;have Y11:FnOk l.prog w K mg base CX0 1 _ _ _ _:=qJ X11.F T;have Y12:FnOk l.prog w K mg base CX0 1 _ _ _ _:=o_ X12.F T;have Y13:FnOk l.prog w K mg base CX0 1 _ _ _ _:=mO X13.F T;have Y14:FnOk l.prog w K mg base CX0 1 _ _ _ _:=oy X14.F T;have Y15:FnOk l.prog w K mg base CX0 1 _ _ _ _:=ub X15.F T;have Y16:FnOk l.prog w K mg base CX0 1 _ _ _ _:=uU X16.F T;have Y17:FnOk l.prog w K mg base CX0 2 _ _ _ _:=oY X17.F T X1 Y1;have Y18:FnOk l.prog w K mg base CX0 2 _ _ _ _:=rC X18.F T X2 Y2;have Y19:FnOk l.prog w K mg base CX0 2 _ _ _ _:=tP X19.F T X1 Y1 X4 Y4;have Y20:FnOk l.prog w K mg base CX0 2 _ _ _ _:=uE X20.F T X3 Y3;have Y21:FnOk l.prog w K mg base CX0 2 _ _ _ _:=qp X21.F T X8 Y8 X9 Y9;have Y22:FnOk l.prog w K mg base CX0 2 _ _ _ _:=k8 X22.F T X10 Y10;have Y23:FnOk l.prog w K mg base CX0 2 _ _ _ _:=lH X23.F T X8 Y8;have Y24:FnOk l.prog w K mg base CX0 2 _ _ _ _:=lA X24.F T X12 Y12;have Y25:FnOk l.prog w K mg base CX0 2 _ _ _ _:=k_ X25.F T X13 Y13 X15 Y15;have Y26:FnOk l.prog w K mg base CX0 2 _ _ _ _:=lh X26.F T X8 Y8 X12 Y12;have Y27:FnOk l.prog w K mg base CX0 2 _ _ _ _:=ko X27.F T X12 Y12 X14 Y14;have Y28:FnOk l.prog w K mg base CX0 2 _ _ _ _:=mQ X28.F T X14 Y14;have Y29:FnOk l.prog w K mg base CX0 3 _ _ _ _:=pE X29.F T X18 Y18;have Y30:FnOk l.prog w K mg base CX0 3 _ _ _ _:=lU X30.F T X17 Y17;have Y31:FnOk l.prog w K mg base CX0 3 _ _ _ _:=yn X31.F T X17 Y17;have Y32:FnOk l.prog w K mg base CX0 3 _ _ _ _:=rG X32.F T X18 Y18;have Y33:FnOk l.prog w K mg base CX0 3 _ _ _ _:=nZ X33.F T X21 Y21 X22 Y22 X23 Y23 X11 Y11;have Y34:FnOk l.prog w K mg base CX0 3 _ _ _ _:=pA X34.F T X13 Y13 X24 Y24;have Y35:FnOk l.prog w K mg base CX0 4 _ _ _ _:=sX X35.F T X30 Y30 X5 Y5;have Y36:FnOk l.prog w K mg base CX0 4 _ _ _ _:=pB X36.F T X18 Y18 X29 Y29;have Y37:FnOk l.prog w K mg base CX0 5 _ _ _ _:=t8 X37.F T X19 Y19 X35 Y35 X20 Y20;have Y38:FnOk l.prog w K mg base CX0 5 _ _ _ _:=nS X38.F T X36 Y36;have Y39:FnOk l.prog w K mg base CX0 6 _ _ _ _:=nX X39.F T X37 Y37 X31 Y31;have Y40:FnOk l.prog w K mg base CX0 6 _ _ _ _:=yJ X40.F T X17 Y17 X6 Y6 X38 Y38;have Y41:FnOk l.prog w K mg base CX0 7 _ _ _ _:=sx X41.F T X39 Y39 X40 Y40 X32 Y32 X7 Y7;have Y42:FnOk l.prog w K mg base CX0 8 _ _ _ _:=oP X42.F T X41 Y41 X34 Y34 X14 Y14 X25 Y25 X16 Y16;exact FX a_43 T X41 Y41 X8 Y8 X33 Y33 X26 Y26 X27 Y27 X28 Y28 X16 Y16 X42 Y42
end B
def PySem.W.Fast.tw18446739791373982412:Nat:=0
def PySem.W.Fast.tw12446758236856619754:Nat:=0
def PySem.W.Fast.tw3796382241028417713:Nat:=0
def PySem.W.Fast.tw4626259547153131728:Nat:=0
def PySem.W.Fast.tw16874796028378251344:Nat:=0
def PySem.W.Fast.tw7756344080044599671:Nat:=0
def PySem.W.Fast.tw535707413777013191:Nat:=0
def PySem.W.Fast.tw3452669557659324880:Nat:=0
def PySem.W.Fast.tw9471459563216231846:Nat:=0
def PySem.W.Fast.tw9287395323327293709:Nat:=0
def PySem.W.Fast.tw10987684318290146342:Nat:=0
def PySem.W.Fast.tw9672945264455876301:Nat:=0
def PySem.W.Fast.tw14728043121538301271:Nat:=0
def PySem.W.Fast.tw1284579285539886073:Nat:=0
def PySem.W.Fast.tw3465835100517652444:Nat:=0
open PySem PySem.W PyProof.Rows
set_option maxRecDepth 100000 in
set_option maxHeartbeats 0 in
theorem PySem.Challenge.cw_boughdraw_k43_is_paper_holds : PySem.Challenge.rw_boughdraw_k43_is_paper.Holds := by
 w_on;o_law;k_head;(case hw=>w_witness2)
 k_fill
 refine L3.IK (l:=PySem.Challenge.rw_boughdraw_k43_is_paper) (x := "_law_script") (k:=9) (fn:=B.nK) rfl rfl ⟨rfl,by decide,by decide⟩ (λw h Y=>PySem.W.kIn_of Y) B.xK ?F
 case F =>
  intro w mg fa h KX G hmg;refine' B.all_mk KX G hmg ?T1 ?U1 ?V1 ?W1 ?T2 ?U2 ?V2 ?W2 ?T3 ?U3 ?V3 ?W3 ?T4 ?U4 ?V4 ?W4 ?T5 ?U5 ?V5 ?W5 ?T6 ?U6 ?V6 ?W6 ?T7 ?U7 ?V7 ?W7 ?T8 ?U8 ?V8 ?W8 ?T9 ?U9 ?V9 ?W9 ?T10 ?U10 ?V10 ?W10 ?T11 ?U11 ?V11 ?W11 ?T12 ?U12 ?V12 ?W12 ?T13 ?U13 ?V13 ?W13 ?T14 ?U14 ?V14 ?W14 ?T15 ?U15 ?V15 ?W15 ?T16 ?U16 ?V16 ?W16 ?T17 ?U17 ?V17 ?W17 ?T18 ?U18 ?V18 ?W18 ?T19 ?U19 ?V19 ?W19 ?T20 ?U20 ?V20 ?W20 ?T21 ?U21 ?V21 ?W21 ?T22 ?U22 ?V22 ?W22 ?T23 ?U23 ?V23 ?W23 ?T24 ?U24 ?V24 ?W24 ?T25 ?U25 ?V25 ?W25 ?T26 ?U26 ?V26 ?W26 ?T27 ?U27 ?V27 ?W27 ?T28 ?U28 ?V28 ?W28 ?T29 ?U29 ?V29 ?W29 ?T30 ?U30 ?V30 ?W30 ?T31 ?U31 ?V31 ?W31 ?T32 ?U32 ?V32 ?W32 ?T33 ?U33 ?V33 ?W33 ?T34 ?U34 ?V34 ?W34 ?T35 ?U35 ?V35 ?W35 ?T36 ?U36 ?V36 ?W36 ?T37 ?U37 ?V37 ?W37 ?T38 ?U38 ?V38 ?W38 ?T39 ?U39 ?V39 ?W39 ?T40 ?U40 ?V40 ?W40 ?T41 ?U41 ?b_41 ?V41 ?W41 ?T42 ?U42 ?V42 ?W42 ?T43 ?U43 ?V43 ?W43 ?z0 ?z1 ?z2 ?z3 ?z4 ?z5 ?z6 ?z7 ?z8 ?z9 ?z10
  case T1|U1|V1|W1|T2|U2|V2|W2|T3|U3|V3|W3|T4|U4|V4|W4|T5|U5|V5|W5|T6|U6|V6|W6|T7|U7|V7|W7|T8|U8|V8|W8|T9|U9|V9|W9|T10|U10|V10|W10|T11|U11|V11|W11|T12|U12|V12|W12|T13|U13|V13|W13|T14|U14|V14|W14|T15|U15|V15|W15|T16|U16|V16|W16|T17|U17|V17|W17|T18|U18|V18|W18|T19|U19|V19|W19|T20|U20|V20|W20|T21|U21|V21|W21|T22|U22|V22|W22|T23|U23|V23|W23|T24|U24|V24|W24|T25|U25|V25|W25|T26|U26|V26|W26|T27|U27|V27|W27|T28|U28|V28|W28|T29|U29|V29|W29|T30|U30|V30|W30|T31|U31|V31|W31|T32|U32|V32|W32|T33|U33|V33|W33|T34|U34|V34|W34|T35|U35|V35|W35|T36|U36|V36|W36|T37|U37|V37|W37|T38|U38|V38|W38|T39|U39|V39|W39|T40|U40|V40|W40|T41|U41|b_41|V41|W41|T42|U42|V42|W42|T43|U43|V43|W43|z0|z1|z2|z3|z4|z5|z6|z7|z8|z9|z10=>k_is
