import PyProof.Rows.All
import Wide.All
import OpenK.AllK
import Wide.FinOn
import Lean
import PyProof.EqAt
import PyProof.EqKinds
import PyProof.TupleCall
import PySem.Challenge.RW_boughdraw_k12_texts_refused
set_option Elab.async false
set_option linter.all false
set_option compiler.extract_closed false
set_option maxRecDepth 100000
def Za:=@List.getElem?_map
def Zb:=@List.getElem?_eq_some_iff
def Zc:=@List.length_map
def Zd:=@List.length_append
def Ze:=@List.mem_cons_of_mem
def Zf:=@List.mem_cons_self
def Zg:=@List.getElem?_eq_getElem
def Zh:=@List.length_range
def Zi:=@List.map_map
def Zj:=@List.map_cons
def Zk:=@List.map_append
def Zl:=@Bool.false_ne_true
def Zm:=@Nat.le_refl
def Zn:=@List.mem_cons
def Zo:=@Option.map_eq_some_iff
def Zp:=@List.mem_append_right
def Zq:=@List.length_cons
def Zr:=@List.mem_append
def Zs:=@List.map_congr_left
def Zt:=@List.getElem?_eq_none
def Zu:=@Bool.and_eq_true
def Zv:=@List.mem_append_left
def Zw:=@List.append_nil
def Zx:=@Option.some.inj
def Zy:=@List.size_toArray
def Zz:=@List.mem_of_getElem?
def ZA:=@List.mem_map
def ZB:=@List.append_assoc
def ZC:=@List.length_take
def ZD:=@List.length_drop
def ZE:=@Nat.le_trans
def ZF:=@List.mem_range
def ZG:=@Nat.lt_of_lt_of_le
def ZH:=@List.length_set
def ZI:=@List.nodup_append
namespace L2
open PySem PySem.Spec PyProof.Rows
noncomputable abbrev Key:=Sum Int Str
noncomputable def yh:Key->Value->Bool
 |.inl k,v=>Value.isInt k v
 |.inr x,v=>Value.isStrOf x v
noncomputable def Gx (w:World):Key->Int
 |.inl k=>hashInt k
 |.inr x=>hashStr w x
theorem cD:∀{k:Key} {v:Value},yh k v=true->(∃i t,k=Sum.inl i/\v=Value.int i t)\/(∃x t,k=Sum.inr x/\v=Value.str x t)
 |.inl i,v,h=>by
  obtain ⟨t,e⟩:=Value.isInt_shape (k:=i) (v:=v) h;exact .inl ⟨i,t,rfl,e⟩
 |.inr x,v,h=>by
  obtain ⟨t,e⟩:=Value.isStrOf_shape (x:=x) (v:=v) h;exact .inr ⟨x,t,rfl,e⟩
theorem AY (a b:Int):decide ((Sum.inl a:Key)=Sum.inl b)=(a == b):=by
 by_cases e:a=b
 ·subst e;simp
 ·have h:¬(Sum.inl a:Key)=Sum.inl b:=λq=>e (Sum.inl.inj q)
  rw [decide_eq_false h];exact (beq_eq_false_iff_ne.mpr e).symm
theorem zG (a b:Str):decide ((Sum.inr a:Key)=Sum.inr b)=decide (a=b):=by
 by_cases e:a=b
 ·subst e;simp
 ·have h:¬(Sum.inr a:Key)=Sum.inr b:=λq=>e (Sum.inr.inj q)
  rw [decide_eq_false h,decide_eq_false e]
theorem yS (a:Int) (b:Str):decide ((Sum.inl a:Key)=Sum.inr b)=false:=decide_eq_false (λq=>nomatch q)
theorem BS (a:Str) (b:Int):decide ((Sum.inr a:Key)=Sum.inl b)=false:=decide_eq_false (λq=>nomatch q)
noncomputable def rg (prog:Program) (w:World):PySem.KeyKind prog w Key where
 is:=yh
 hash:=Gx w
 inj:=λv a b ha hb=>by
  rcases cD ha with ⟨i,t,rfl,rfl⟩ | ⟨x,t,rfl,rfl⟩
  ·rcases cD hb with ⟨j,u,rfl,e⟩ | ⟨y,u,rfl,e⟩
   ·injection e with e1 _;rw [e1]
   ·exact nomatch e
  ·rcases cD hb with ⟨j,u,rfl,e⟩ | ⟨y,u,rfl,e⟩
   ·exact nomatch e
   ·injection e with e1 _;rw [e1]
 byValue:=λk v h=>by
  rcases cD h with ⟨i,t,rfl,rfl⟩ | ⟨x,t,rfl,rfl⟩ <;> rfl
 pyHash:=λhv h=>by
  rcases cD hv with ⟨i,t,rfl,rfl⟩ | ⟨x,t,rfl,rfl⟩
  ·exact wpAny_pyHash_int h
  ·exact wpAny_pyHash_str h
 eqBool:=λhu hv h=>by
  rcases cD hu with ⟨i,t,rfl,rfl⟩ | ⟨x,t,rfl,rfl⟩
  ·rcases cD hv with ⟨j,u,rfl,rfl⟩ | ⟨y,u,rfl,rfl⟩
   ·rw [AY]at h;exact wpAny_eqBool_int h
   ·rw [yS]at h;exact SeqAt.EqAt.int_str i t y u _ _ _ _ h
  ·rcases cD hv with ⟨j,u,rfl,rfl⟩ | ⟨y,u,rfl,rfl⟩
   ·rw [BS]at h;exact SeqAt.EqAt.str_int x t j u _ _ _ _ h
   ·rw [zG]at h;exact wpAny_eqBool_str h
 «strs»:=λk x t v h=>by
  rcases cD h with ⟨i,u,rfl,e⟩ | ⟨y,u,rfl,e⟩
  ·exact nomatch e
  ·injection e with e1 _
   subst e1;cases v <;> rfl
inductive V where
 |non | bl (b:Bool) | int (i:Int) | str (x:Str) | byt (b:Array UInt8) | flt (b:UInt64) | ref (a:Addr) | ty (n:String)
 deriving DecidableEq
noncomputable def RelV:V->Value->Prop
 |.non,u=>u=Value.none
 |.bl b,u=>u=Value.bool b
 |.int i,u=>∃t,u=Value.int i t
 |.str x,u=>∃t,u=Value.str x t
 |.byt b,u=>∃t,u=Value.bytes b t
 |.flt b,u=>∃t,u=Value.float b t
 |.ref a,u=>u=Value.ref a
 |.ty n,u=>u=Value.type n
noncomputable abbrev Vals:List V->List Value->Prop:=Paired RelV
theorem Vals.length {xs:List V} {us:List Value} (r:Vals xs us):xs.length=us.length:=Paired.length r
theorem Vals.get:∀{xs:List V} {us:List Value} {i:Nat} {x:V},Vals xs us->xs[i]?=some x->∃u,us[i]?=some u/\RelV x u
 |_,_,_,_,.nil,e=>by simp at e
 |_,_,0,_,.cons r _,e=>by simp at e;subst e;exact ⟨_,rfl,r⟩
 |_,_,i+1,x,.cons _ t,e=>by
  obtain ⟨u,h1,h2⟩:=Vals.get (i:=i) (x:=x) t (by simpa using e)
  exact ⟨u,by simpa using h1,h2⟩
theorem Vals.append:∀{xs ys:List V} {us ws:List Value},Vals xs us->Vals ys ws->Vals (xs++ys) (us++ws)
 |_,_,_,_,.nil,s=>s
 |_,_,_,_,.cons r t,s=>.cons r (Vals.append t s)
theorem Vals.take:∀{xs:List V} {us:List Value} (n:Nat),Vals xs us->Vals (xs.take n) (us.take n)
 |_,_,0,_=>.nil
 |_,_,_+1,.nil=>.nil
 |_,_,n+1,.cons r t=>.cons r (Vals.take n t)
theorem Vals.drop:∀{xs:List V} {us:List Value} (n:Nat),Vals xs us->Vals (xs.drop n) (us.drop n)
 |_,_,0,r=>r
 |_,_,_+1,.nil=>.nil
 |_,_,n+1,.cons _ t=>Vals.drop n t
noncomputable def FH:Option V->Option Value->Prop
 |some v,some u=>RelV v u
 |none,none=>True
 |_,_=>False
noncomputable def KV {κ:Type}:List (κ×V)->List (κ×Value)->Prop:=Paired λ(p:κ×V) (q:κ×Value)=>p.1=q.1/\RelV p.2 q.2
noncomputable def kV:Key->V
 |.inl i=>.int i
 |.inr x=>.str x
inductive HO where
 |lst (xs:List V)
 |tup (xs:List V)
 |dK (kvs:List (Key×V)) | dT (kvs:List (List Key×V))
 |set (S:Int->Bool) (n:Nat)
 |ins (C dx:Addr) (fs:List (Str×V))
 |own (x:Addr)
 |xd (fs:List (Str×V))
 |met (f x:Addr)
 |rng (lo hi:Int)
 |frz (o:Obj) (u:HO)
 |tbl (ps:Array Value)
 |ext (φ:Heap->Prop)
noncomputable abbrev Hp:=Addr->Option HO
noncomputable def upd (H:Hp) (a:Addr) (o:HO):Hp:=λb=>if b=a then some o else H b
theorem bU {H:Hp} {a:Addr} {o:HO}:upd H a o a=some o:=by unfold upd;rw [if_pos rfl]
theorem aU {H:Hp} {a b:Addr} {o:HO} (h:b≠a):upd H a o b=H b:=by unfold upd;rw [if_neg h]
theorem w6 {H:Hp} {a:Addr} {o u:HO}:upd (upd H a o) a u=upd H a u:=by
 funext b;unfold upd;split <;> rfl
theorem bj {H:Hp} {a b:Addr} {o:HO} (h:H a=some o) (h':H b=none):a≠b:=by
 intro e;subst e;rw [h]at h';cases h'
section
variable (P:Program) (w:World)
noncomputable def fW (H:Hp) (h:Heap) (a:Addr):HO->Prop
 |.lst xs=>xs.length<=sizeLine/\∃(its:List Value) (n:Nat),Vals xs its/\h.get? a=some { cls:=.type "list",data:=.seq its.toArray n }
 |.tup xs=>xs.length<=sizeLine/\∃its:List Value,Vals xs its/\IsTup h a its.toArray
 |.dK kvs=>kvs.length<=sizeLine/\(a == sysModules)=false/\∃vs,KV kvs vs/\h.DictOf (rg P w) a vs
 |.dT kvs=>kvs.length<=sizeLine/\(a == sysModules)=false/\∃xs:List (List Key×Addr×Value),
   Paired (λ(p:List Key×V) (q:List Key×Addr×Value)=>p.1=q.1/\H q.2.1=some (.tup (p.1.map kV))/\RelV p.2 q.2.2) kvs xs /\
   ∃o es ep,h.get? a=some o/\o.ExactDict/\o.data=.dict es ep/\es.toList=xs.map (entryOfKey (tupleKind (rg P w)))/\(xs.map (·.1)).Nodup
 |.set S n=>h.SetOf (intKind P w) a S n
 |.ins C dx fs=>H dx=some (.own a)/\fs.length<=1000/\dx≠a/\h.get? a=some (PySem.W.instObj C dx) /\
   ∃mA,h.Ns1 dx mA/\(∀f,FH (fs.lookup f) (mA f))/\PySem.Within mA (fs.map (·.1))
 |.own _=>∃o,h.get? a=some o
 |.xd fs=>∃mA,h.Ns1 a mA/\∀f,FH (fs.lookup f) (mA f)
 |.rng lo hi=>∃t u v,h.get? a=some { cls:=.type "range",data:=.fields #[.int lo t,.int hi u,.int 1 v] }
 |.frz o u=>h.get? a=some o/\fW H h a u
 |.tbl ps=>h.get? a=some { cls:=.none,data:=.fields ps }
 |.met f x=>h.get? a=some (PySem.W.methodObj (.ref f) (.ref x))
 |.ext φ=>φ h/\(∃o,h.get? a=some o)/\∀h1 h2:Heap,φ h1->(∀o,h1.get? a=some o->h2.get? a=some o)->φ h2
noncomputable def HOk (H:Hp) (h:Heap):Prop:=∀a o,H a=some o->fW P w H h a o
end
section
variable {P:Program} {w:World} {H H':Hp} {h h':Heap} {a:Addr} {o:HO}
theorem fW.lt (x:fW P w H h a o):a<h.objs.size:=by
 cases o with
 |lst xs=>obtain ⟨_,_,_,_,e⟩:=x;exact Heap.lt_size e
 |tup xs=>obtain ⟨_,_,_,p⟩:=x;exact p.lt
 |dK kvs=>obtain ⟨_,_,_,_,o,_,_,e,_⟩:=x;exact Heap.lt_size e
 |dT kvs=>obtain ⟨_,_,_,_,o,_,_,e,_⟩:=x;exact Heap.lt_size e
 |set S n=>obtain ⟨o,_,_,_,e,_⟩:=x;exact Heap.lt_size e
 |ins C dx fs=>obtain ⟨_,_,_,e,_⟩:=x;exact Heap.lt_size e
 |own y=>obtain ⟨_,e⟩:=x;exact Heap.lt_size e
 |xd fs=>obtain ⟨_,⟨_,_,_,e,_⟩,_⟩:=x;exact Heap.lt_size e
 |rng lo hi=>obtain ⟨_,_,_,e⟩:=x;exact Heap.lt_size e
 |frz ob u=>obtain ⟨e,_⟩:=x;exact Heap.lt_size e
 |tbl ps=>exact Heap.lt_size (show h.get? a=some _ from x)
 |met f y=>exact Heap.lt_size (show h.get? a=some _ from x)
 |ext φ=>obtain ⟨_,⟨_,e⟩,_⟩:=x;exact Heap.lt_size e
theorem Paired.mapP {α β:Type} {F G:α->β->Prop}:∀{l₁:List α} {l₂:List β},Paired F l₁ l₂->(∀a b,F a b->G a b)->Paired G l₁ l₂
 |_,_,.nil,_=>.nil
 |_,_,.cons r t,f=>.cons (f _ _ r) (Paired.mapP t f)
theorem fW.stay (x:fW P w H h a o) (k:∀b u,(b=a\/H b=some (.own a))->h.get? b=some u->h'.get? b=some u)
  (ho:∀b,H b=some (.own a)->H' b=some (.own a)) (ht:∀b xs,H b=some (.tup xs)->H' b=some (.tup xs)):fW P w H' h' a o:=by
 induction o with
 |lst xs=>obtain ⟨z,its,n,r,e⟩:=x;exact ⟨z,its,n,r,k _ _ (.inl rfl) e⟩
 |tup xs=>obtain ⟨z,its,r,ob,e,c⟩:=x;exact ⟨z,its,r,ob,k _ _ (.inl rfl) e,c⟩
 |dK kvs=>obtain ⟨z,y,vs,r,ob,es,ep,e,c⟩:=x;exact ⟨z,y,vs,r,ob,es,ep,k _ _ (.inl rfl) e,c⟩
 |dT kvs =>
  obtain ⟨z,y,xs,r,ob,es,ep,e,c⟩:=x;exact ⟨z,y,xs,Paired.mapP r λp q z=>⟨z.1,ht _ _ z.2.1,z.2.2⟩,ob,es,ep,k _ _ (.inl rfl) e,c⟩
 |set S n=>obtain ⟨ob,es,ep,t,e,c⟩:=x;exact ⟨ob,es,ep,t,k _ _ (.inl rfl) e,c⟩
 |ins C dx fs =>
  obtain ⟨d,z,ne,e,mA,⟨od,es,ep,e2,c⟩,r⟩:=x;exact ⟨ho _ d,z,ne,k _ _ (.inl rfl) e,mA,⟨od,es,ep,k _ _ (.inr d) e2,c⟩,r⟩
 |own y=>obtain ⟨ob,e⟩:=x;exact ⟨ob,k _ _ (.inl rfl) e⟩
 |xd fs=>obtain ⟨mA,⟨od,es,ep,e,c⟩,r⟩:=x;exact ⟨mA,⟨od,es,ep,k _ _ (.inl rfl) e,c⟩,r⟩
 |rng lo hi=>obtain ⟨t,u,v,e⟩:=x;exact ⟨t,u,v,k _ _ (.inl rfl) e⟩
 |frz ob u ih=>obtain ⟨e,q⟩:=x;exact ⟨k _ _ (.inl rfl) e,ih q⟩
 |tbl ps =>
  have e:h.get? a=some { cls:=.none,data:=.fields ps }:=x;show h'.get? a=some { cls:=.none,data:=.fields ps }
  exact k a _ (.inl rfl) e
 |met f y =>
  have e:h.get? a=some (PySem.W.methodObj (.ref f) (.ref y)):=x;show h'.get? a=some (PySem.W.methodObj (.ref f) (.ref y))
  exact k a _ (.inl rfl) e
 |ext φ=>obtain ⟨p,⟨o,e⟩,st⟩:=x;exact ⟨st _ _ p λo q=>k _ _ (.inl rfl) q,⟨o,k _ _ (.inl rfl) e⟩,st⟩
theorem HOk.lt (x:HOk P w H h) (e:H a=some o):a<h.objs.size:=(x a o e).lt
theorem HOk.fresh (x:HOk P w H h) (e:h.objs.size<=a):H a=none:=by
 cases q:H a with
 |none=>rfl
 |some u=>exact absurd (ZG (x.lt q) e) (Nat.lt_irrefl _)
theorem HOk.kept (x:HOk P w H h) (k:∀b u,h.get? b=some u->h'.get? b=some u):HOk P w H h':=λa o e =>
 (x a o e).stay (λb u _ q=>k b u q) (λ_ q=>q) λ_ _ q=>q
theorem HOk.laid (x:HOk P w H h) (k:∀b u,h.get? b=some u->h'.get? b=some u) (hp:h.objs.size<=a) (new:fW P w (upd H a o) h' a o):HOk P w (upd H a o) h':=λb u e=>by
 have hn:=x.fresh hp;by_cases hb:b=a
 ·subst hb;rw [bU]at e;cases e;exact new
 ·rw [aU hb]at e
  exact (x b u e).stay (λc v _ q=>k c v q) (λc q=>by rw [aU (bj q hn)];exact q) λc xs q=>by rw [aU (bj q hn)];exact q
end
noncomputable def Rd (H:Hp) (a:Addr) (u:HO):Prop:=H a=some u\/∃o,H a=some (.frz o u)
theorem Rd.ok {P:Program} {w:World} {H:Hp} {h:Heap} {a:Addr} {u:HO} (r:Rd H a u) (x:HOk P w H h):fW P w H h a u:=by
 rcases r with r | ⟨o,r⟩
 ·exact x a u r
 ·obtain ⟨_,q⟩:=x a _ r
  exact q
noncomputable def Mut:Option HO->Prop
 |some (.lst _)=>True
 |some (.dK _)=>True
 |some (.dT _)=>True
 |some (.set _ _)=>True
 |some (.ins _ _ _)=>True
 |some (.ext _)=>True
 |_=>False
section
variable {P:Program} {w:World} {H:Hp} {h h':Heap} {x e:Addr} {o':HO}
theorem HOk.write (ok:HOk P w H h) (mu:Mut (H x)) (he:e=x\/H e=some (.own x)) (k:∀b u,b≠e->h.get? b=some u->h'.get? b=some u) (heo:∃u,h'.get? e=some u)
  (new:fW P w (upd H x o') h' x o'):HOk P w (upd H x o') h':=λb u q=>by
 have nown:∀c y,H c=some (.own y)->c≠x:=λc y r z=>by subst z;rw [r]at mu;exact mu
 have ntup:∀c xs,H c=some (.tup xs)->c≠x:=λc xs r z=>by subst z;rw [r]at mu;exact mu
 by_cases hb:b=x
 ·subst hb;rw [bU]at q;cases q;exact new
 ·rw [aU hb]at q
  by_cases hbe:b=e
  ·have q':H b=some (.own x):=by
    rcases he with z | z
    ·exact absurd (hbe.trans z) hb
    ·rw [hbe];exact z
   rw [q]at q';cases q';obtain ⟨v,hv⟩:=heo;exact ⟨v,by rw [hbe];exact hv⟩
  ·refine (ok b u q).stay (λc v hc r=>k c v ?_ r) (λc r=>by rw [aU (nown c b r)];exact r) λc xs r=>by rw [aU (ntup c xs r)];exact r
   rcases hc with rfl | hc
   ·exact hbe
   ·rintro rfl
    rcases he with z | z
    ·exact nown c b hc z
    ·rw [hc]at z;cases z;exact hb rfl
end
structure Un (fs ex:List Addr) (H H':Hp) (h h':Heap):Prop where
 keep:∀b o,h.get? b=some o->H b=none->b∉fs->b∉ex->h'.get? b=some o
 slot:∀b o,h.get? b=some o->H b=none->b∈fs->b∉ex->∃sl,h'.get? b=some { o with slots:=sl }
 free:∀b o,h.get? b=some o->H b=none->b∉ex->H' b=none
 there:∀b o,h.get? b=some o->b∉ex->∃o',h'.get? b=some o'
 tups:∀b xs,H b=some (.tup xs)->H' b=some (.tup xs)
 frzs:∀b o u,H b=some (.frz o u)->H' b=some (.frz o u)
 tbls:∀b ps,H b=some (.tbl ps)->∃more,H' b=some (.tbl (ps++more))
section
variable {fs fs' ex ex':List Addr} {H H1 H2:Hp} {h h1 h2 h':Heap} {a x e:Addr} {o:HO}
theorem Un.any (u:Un fs ex H H1 h h1) {b:Addr} {ob:Obj} (q:h.get? b=some ob) (n:H b=none) (hx:b∉ex):∃sl,h1.get? b=some { ob with slots:=sl }:=by
 by_cases hb:b∈fs
 ·exact u.slot b ob q n hb hx
 ·exact ⟨ob.slots,u.keep b ob q n hb hx⟩
theorem Un.kept (k:∀b u,h.get? b=some u->h'.get? b=some u):Un fs ex H H h h' :=
 ⟨λb ob q _ _ _=>k b ob q,λb ob q _ _ _=>⟨ob.slots,k b ob q⟩,λ_ _ _ n _=>n,λb ob q _=>⟨ob,k b ob q⟩,λ_ _ q=>q,λ_ _ _ q=>q,λ_ ps q=>⟨#[],by rw [q];simp⟩⟩
theorem Un.refl:Un fs ex H H h h:=Un.kept λ_ _ q=>q
theorem Un.laid (k:∀b u,h.get? b=some u->h'.get? b=some u) (hp:h.objs.size<=a) (hn:H a=none):Un fs ex H (upd H a o) h h' where
 keep:=λb u q _ _ _=>k b u q
 slot:=λb u q _ _ _=>⟨u.slots,k b u q⟩
 free:=λb u q n _=>by rw [aU (Nat.ne_of_lt (ZG (Heap.lt_size q) hp))];exact n
 there:=λb u q _=>⟨u,k b u q⟩
 tups:=λb xs q=>by rw [aU (bj q hn)];exact q
 frzs:=λb u xs q=>by rw [aU (bj q hn)];exact q
 tbls:=λb ps q=>⟨#[],by rw [aU (bj q hn),q];simp⟩
theorem Un.write (mu:Mut (H x)) (he:e=x\/H e=some (.own x)) (k:∀b u,b≠e->h.get? b=some u->h'.get? b=some u) (heo:∃u,h'.get? e=some u):Un fs ex H (upd H x o) h h':=by
 have hx:∀b,H b=none->b≠x:=λb n z=>by subst z;rw [n]at mu;exact mu
 have hb:∀b,H b=none->b≠e:=λb n z=>by
  subst z;rcases he with r | r
  ·exact hx b n r
  ·rw [n]at r;cases r
 have hm:∀b u,H b=some u->¬Mut (some u)->b≠x:=λb u q nm z=>by subst z;rw [q]at mu;exact nm mu
 refine ⟨λb u q n _ _=>k b u (hb b n) q,λb u q n _ _=>⟨u.slots,k b u (hb b n) q⟩,λb u q n _=>by rw [aU (hx b n)];exact n,λb u q _=>?_,
  λb xs q=>by rw [aU (hm b _ q λz=>z)];exact q,λb u xs q=>by rw [aU (hm b _ q λz=>z)];exact q,λb ps q=>⟨#[],by rw [aU (hm b _ q λz=>z),q];simp⟩⟩
 by_cases hbe:b=e
 ·subst hbe;exact heo
 ·exact ⟨u,k b u hbe q⟩
end
noncomputable def trk (h:Heap) (H:Hp):List Addr:=(List.range h.objs.size).filter λa=>(H a).isSome
noncomputable def kh (h:Heap) (H:Hp):Heap:=PySem.W.hideAll h (trk h H)
theorem mR (h:Heap) (H:Hp):(kh h H).objs.size=h.objs.size:=PySem.W.hideAll_size _ _
theorem pF {h:Heap} {H:Hp} {b:Addr} {o:Obj} (e:h.get? b=some o) (n:H b=none):(kh h H).get? b=some o :=
 PySem.W.hideAll_get _ e λhm=>by
  have q:(H b).isSome=true:=(List.mem_filter.mp hm).2;rw [n]at q;simp at q
theorem qN {h:Heap} {H:Hp} {b:Addr} {o:Obj} (e:(kh h H).get? b=some o):h.get? b=some o/\H b=none:=by
 have e':h.get? b=some o:=PySem.W.of_hideAll (trk h H) e;refine ⟨e',?_⟩;cases q:H b with
 |none=>rfl
 |some x =>
  have hm:b∈trk h H:=List.mem_filter.mpr ⟨ZF.mpr (Heap.lt_size e'),by simp [q]⟩
  have z:(kh h H).get? b=none:=PySem.W.hideAll_none (trk h H) hm;rw [z]at e;cases e
noncomputable def wI (g h:Heap) (L:Addr):List (Addr×Obj):=(List.range h.objs.size).filterMap λa=>if a=L\/(g.get? a).isSome=true then none else (h.get? a).map λo=>(a,o)
noncomputable def rest (g h:Heap) (L d:Addr):List (Addr×Obj):=(wI g h L).filter λp=>decide (p.1≠d)
structure Mod (K:PySem.W.Frag) (mg:Str->Option Value) (base:Heap):Prop where
 kin:K.In base
 glob:base.Ns mainGlobals mg
 blt:∃mb,base.Ns builtinsNs mb/\∀x:Str,x ≠ "__name__" -> mb x=bootBuiltins x
 nolimit:base.NoLimit
structure Cx where
 prog:Program
 w:World
 K:PySem.W.Frag
 mg:Str->Option Value
 base:Heap
 A:Around
 N:List Str
 s₀:Shared
 H₀:Hp
 env:Env
 outer:List Env
 stack:List Env
 ex:List Addr
 fn:Str->Bool
 calm:Bool
 pn:List (Addr×Obj)
 xe:Value->Shared->Prop
noncomputable def frs (l:List Env):List Addr:=l.filterMap (·.frame)
noncomputable abbrev Cx.fs (X:Cx):List Addr:=frs X.outer
noncomputable def Vis (sc:Scope) (x:Str):Prop:=sc.names.lookup x=some .local\/sc.names.lookup x=some .cell\/sc.names.lookup x=some .free
noncomputable def Loc (sc:Scope) (x:Str):Prop:=sc.names.lookup x=some .local\/sc.names.lookup x=some .cell
noncomputable def Look (env:Env) (h:Heap) (m:Str->Option Value) (x:Str) (u:Value):Prop :=
 (env.kindOf x=some .local/\m x=some u)\/((env.kindOf x=some .cell\/env.kindOf x=some .free)/\∃c,env.cells.lookup x=some c/\h.IsCell c (some u))
structure Cx.Ok (X:Cx):Prop where
 mod:Mod X.K X.mg X.base
 kind:X.env.scope.kind=.function
 glob:X.env.globals=mainGlobals
 blt:X.env.builtins=builtinsNs
 above:X.s₀.heap.objs.size<=X.env.locals
 inj:∀x y c,X.env.cells.lookup x=some c->X.env.cells.lookup y=some c->x=y
 has:∀x,(X.env.kindOf x=some .cell\/X.env.kindOf x=some .free)->∃c,X.env.cells.lookup x=some c
 cab:∀x c,X.fn x=true->X.env.cells.lookup x=some c->X.s₀.heap.objs.size<=c
 hd:X.calm=true->X.A.handled=none
 frames:X.A.frames=some X.stack
 stk:X.stack=X.outer\/(X.stack=X.env :: X.outer/\X.env.frame=some X.env.locals)
 exf:∀b∈X.ex,b≠X.env.locals/\∀x c,X.env.cells.lookup x=some c->c≠b
 bs:∀b o,X.base.get? b=some o->X.s₀.heap.get? b=some o/\X.H₀ b=none
 bsz:X.base.objs.size<=X.s₀.heap.objs.size
 noex:∀b o,X.base.get? b=some o->b∉X.ex
 exfs:∀b∈X.ex,b∉X.fs
 funs:X.s₀.heap.FunFrames X.base X.outer
 frf:∀b∈X.fs,X.H₀ b=none
structure Inv (X:Cx) (pins:List (Addr×Obj)) (σ:List (Option V)) (H:Hp) (s:Shared):Prop where
 ok:X.Ok
 os:s.os=X.s₀.os
 bare:AllBare s.gens
 base:Un X.fs X.ex X.H₀ H X.s₀.heap s.heap
 loc:∃m,s.heap.Ns X.env.locals m/\∀(i:Nat) (x:Str) (v:V),X.N[i]?=some x->σ[i]?=some (some v)->Vis X.env.scope x->∃u,RelV v u/\Look X.env s.heap m x u
 cell:∀x c,X.env.cells.lookup x=some c->∃v,s.heap.IsCell c v
 free:H X.env.locals=none
 freeC:∀x c,X.env.cells.lookup x=some c->H c=none
 pin:∀p∈X.pn++pins,s.heap.get? p.1=some p.2/\H p.1=none/\p.1≠X.env.locals/\p.1∉X.fs/\∀v,p.2.data≠.cell v
 hok:HOk X.prog X.w H s.heap
 len:σ.length=X.N.length
section
variable {X:Cx} {pins:List (Addr×Obj)} {σ:List (Option V)} {H H':Hp} {s:Shared} {h':Heap}
theorem Cx.Ok.nofr (ok:X.Ok) {b:Addr} {o:Obj} (e:X.base.get? b=some o):b∉X.fs:=λhb=>by
 have:=(ok.funs.mem hb).1;rw [e]at this;cases this
theorem Inv.bs (I:Inv X pins σ H s):∀b o,X.base.get? b=some o->s.heap.get? b=some o/\H b=none:=λb o e =>
 ⟨I.base.keep b o (I.ok.bs b o e).1 (I.ok.bs b o e).2 (I.ok.nofr e) (I.ok.noex b o e),I.base.free b o (I.ok.bs b o e).1 (I.ok.bs b o e).2 (I.ok.noex b o e)⟩
theorem Inv.bk (I:Inv X pins σ H s):∀b o,X.base.get? b=some o->s.heap.get? b=some o:=λb o e=>(I.bs b o e).1
theorem Inv.mod (I:Inv X pins σ H s):Mod X.K X.mg X.base:=I.ok.mod
theorem Inv.kIn (I:Inv X pins σ H s):X.K.In s.heap:=I.ok.mod.kin.keeps I.bk
theorem Inv.fr (I:Inv X pins σ H s):∃m,Fr X.base X.env.locals s.heap m :=
 let ⟨m,hn,_⟩:=I.loc
 ⟨m,hn,I.bk,ZE I.ok.bsz I.ok.above⟩
theorem Inv.lt (I:Inv X pins σ H s):X.env.locals<s.heap.objs.size:=let ⟨_,hn,_⟩:=I.loc;hn.lt
theorem Inv.sz (I:Inv X pins σ H s):X.s₀.heap.objs.size<=s.heap.objs.size:=ZE I.ok.above (Nat.le_of_lt I.lt)
theorem Inv.nofs (I:Inv X pins σ H s) {a:Addr} (h:s.heap.objs.size<=a):a∉X.fs:=λhb=>by
 obtain ⟨_,o,ho,_⟩:=I.ok.funs.mem hb;exact absurd (ZG (Heap.lt_size ho) (ZE I.sz h)) (Nat.lt_irrefl _)
theorem Inv.cne (I:Inv X pins σ H s):∀x c,X.env.cells.lookup x=some c->c≠X.env.locals:=λx c e z=>by
 obtain ⟨v,o,ho,hd⟩:=I.cell x c e;obtain ⟨m,⟨o',es,ep,ho',hd',_⟩,_⟩:=I.loc;rw [z,ho']at ho;cases ho;rw [hd']at hd;cases hd
theorem Inv.funs (I:Inv X pins σ H s):s.heap.FunFrames X.base X.outer:=by
 have all:∀(l:List Env),(∀b∈frs l,b∈X.fs)->X.s₀.heap.FunFrames X.base l->s.heap.FunFrames X.base l:=by
  intro l
  induction l with
  |nil=>intro _ _;trivial
  |cons env r ih =>
   intro hs hl;obtain ⟨hk,⟨L,o,hf,hn,ho,hd⟩,hr⟩:=hl;have hL:L∈X.fs:=hs L (by unfold frs;rw [List.filterMap_cons,hf];exact Zf)
   obtain ⟨sl,e⟩:=I.base.slot L o ho (I.ok.frf L hL) hL λz=>I.ok.exfs L z hL
   exact ⟨hk,⟨L,_,hf,hn,e,hd⟩,ih (λb hb=>hs b (by unfold frs;rw [List.filterMap_cons,hf];exact Ze _ hb)) hr⟩
 exact all X.outer (λ_ hb=>hb) I.ok.funs
theorem Inv.stack (I:Inv X pins σ H s):s.heap.FunFrames X.base X.stack:=by
 rcases I.ok.stk with e | ⟨e,hf⟩
 ·rw [e];exact I.funs
 ·rw [e]
  obtain ⟨m,hn,_⟩:=I.loc;refine .cons (by rw [I.ok.kind];decide) hf hn ?_ I.funs
  exact Heap.get?_none_of_le (ZE I.ok.bsz I.ok.above)
theorem Inv.stkSub (I:Inv X pins σ H s):∀b∈frs X.stack,b∈X.env.locals :: X.fs:=λb hb=>by
 rcases I.ok.stk with e | ⟨e,hf⟩
 ·rw [e]at hb;exact Ze _ hb
 ·rw [e]at hb
  unfold frs at hb;rw [List.filterMap_cons,hf]at hb;exact hb
theorem Inv.stkFree (I:Inv X pins σ H s):∀b∈frs X.stack,H b=none:=λb hb=>by
 rcases Zn.mp (I.stkSub b hb) with e | hb
 ·rw [e];exact I.free
 ·obtain ⟨_,o,ho,_⟩:=I.ok.funs.mem hb
  exact I.base.free b o ho (I.ok.frf b hb) λz=>I.ok.exfs b z hb
theorem Inv.step {g':Array GenState} {t':Nat} {d':Drawn} {ch:List Addr} (I:Inv X pins σ H s)
  (hch:∀b∈ch,(b∈X.ex\/X.s₀.heap.objs.size<=b)/\b≠X.env.locals/\(∀x c,X.env.cells.lookup x=some c->c≠b)/\∀p∈X.pn++pins,p.1≠b)
  (keep:∀b o,b≠X.env.locals->b∉X.fs->b∉ch->s.heap.get? b=some o->H b=none->h'.get? b=some o)
  (slot:∀b o,b≠X.env.locals->b∈X.fs->b∉ch->s.heap.get? b=some o->H b=none->∃sl,h'.get? b=some { o with slots:=sl }) (free:∀b o,b∉ch->s.heap.get? b=some o->H b=none->H' b=none)
  (there:∀b o,b∉ch->s.heap.get? b=some o->∃o',h'.get? b=some o')
  (tups:∀b xs,H b=some (.tup xs)->H' b=some (.tup xs)) (frzs:∀b o u,H b=some (.frz o u)->H' b=some (.frz o u)) (tbls:∀b ps,H b=some (.tbl ps)->∃more,H' b=some (.tbl (ps++more)))
  (ns:∀m,s.heap.Ns X.env.locals m->h'.Ns X.env.locals m) (hok:HOk X.prog X.w H' h') (hg:AllBare g') :
  Inv X pins σ H' { s with heap:=h',gens:=g',drawn:=d',toks:=t' }:=by
 have neL:∀b o,X.s₀.heap.get? b=some o->b≠X.env.locals:=λb o e=>Nat.ne_of_lt (ZG (Heap.lt_size e) I.ok.above)
 have neC:∀b o,X.s₀.heap.get? b=some o->b∉X.ex->b∉ch:=λb o e hx hb=>by
  rcases (hch b hb).1 with z | z
  ·exact hx z
  ·exact absurd (ZG (Heap.lt_size e) z) (Nat.lt_irrefl _)
 have cellK:∀x c,X.env.cells.lookup x=some c->∀v,s.heap.IsCell c v->h'.IsCell c v:=λx c e v ⟨o,ho,hd⟩=>by
  have nch:c∉ch:=λz=>(hch c z).2.2.1 x c e rfl
  by_cases hc:c∈X.fs
  ·obtain ⟨sl,q⟩:=slot c o (I.cne x c e) hc nch ho (I.freeC x c e)
   exact ⟨_,q,hd⟩
  ·exact ⟨o,keep c o (I.cne x c e) hc nch ho (I.freeC x c e),hd⟩
 refine ⟨I.ok,I.os,hg,⟨λb o e n hb hx=>?_,λb o e n hb hx=>?_,λb o e n hx=>?_,λb o e hx=>?_,λb xs e=>tups b xs (I.base.tups b xs e),λb o xs e=>frzs b o xs (I.base.frzs b o xs e),λb ps e=>?_⟩,?_,λx c e=>?_,?_,λx c e=>?_,λp hp=>?_,hok,I.len⟩
 ·exact keep b o (neL b o e) hb (neC b o e hx) (I.base.keep b o e n hb hx) (I.base.free b o e n hx)
 ·obtain ⟨sl,e1⟩:=I.base.slot b o e n hb hx
  obtain ⟨sl',e2⟩:=slot b _ (neL b o e) hb (neC b o e hx) e1 (I.base.free b o e n hx);exact ⟨sl',e2⟩
 ·obtain ⟨o',e1⟩:=I.base.there b o e hx
  exact free b o' (neC b o e hx) e1 (I.base.free b o e n hx)
 ·obtain ⟨o',e1⟩:=I.base.there b o e hx
  exact there b o' (neC b o e hx) e1
 ·obtain ⟨m1,e1⟩:=I.base.tbls b ps e
  obtain ⟨m2,e2⟩:=tbls b _ e1;exact ⟨m1++m2,by rw [e2,Array.append_assoc]⟩
 ·obtain ⟨m,hn,hl⟩:=I.loc
  refine ⟨m,ns m hn,λi x v e1 e2 e3=>?_⟩
  obtain ⟨u,r,l⟩:=hl i x v e1 e2 e3;refine ⟨u,r,?_⟩;rcases l with l | ⟨k,c,e,z⟩
  ·exact .inl l
  ·exact .inr ⟨k,c,e,cellK x c e _ z⟩
 ·obtain ⟨v,z⟩:=I.cell x c e
  exact ⟨v,cellK x c e v z⟩
 ·obtain ⟨m,⟨o,_,_,ho,_⟩,_⟩:=I.loc
  exact free _ o (λz=>(hch _ z).2.1 rfl) ho I.free
 ·obtain ⟨v,o,ho,hd⟩:=I.cell x c e
  exact free c o (λz=>(hch c z).2.2.1 x c e rfl) ho (I.freeC x c e)
 ·obtain ⟨e,n,ne,nf,d⟩:=I.pin p hp
  have nch:p.1∉ch:=λz=>(hch p.1 z).2.2.2 p hp rfl
  exact ⟨keep p.1 p.2 ne nf nch e n,free p.1 p.2 nch e n,ne,nf,d⟩
theorem Inv.un {t':Nat} (I:Inv X pins σ H s) (u:Un X.fs [] H H' s.heap h') (hok:HOk X.prog X.w H' h'):Inv X pins σ H' { s with heap:=h',toks:=t' }:=by
 obtain ⟨m,⟨o,es,ep,ho,r⟩,_⟩:=id I.loc;obtain ⟨sl,hL⟩:=u.any ho I.free (by simp)
 exact I.step (g':=s.gens) (d':=s.drawn) (ch:=[]) (λ_ z=>nomatch z) (λb o _ hb _ e n=>u.keep b o e n hb (by simp)) (λb o _ hb _ e n=>u.slot b o e n hb (by simp)) (λb o _ e n=>u.free b o e n (by simp)) (λb o _ e=>u.there b o e (by simp)) u.tups u.frzs u.tbls (λm' hm=>by
  obtain ⟨o',es',ep',ho',r'⟩:=hm;rw [ho]at ho';cases ho';exact ⟨_,es',ep',hL,r'⟩) hok I.bare
theorem Inv.call {g':Array GenState} {t':Nat} {d':Drawn} {ch:List Addr} (I:Inv X pins σ H s) (u:Un (frs X.stack) ch H H' s.heap h') (hok:HOk X.prog X.w H' h') (hg:AllBare g')
  (hch:∀b∈ch,(b∈X.ex\/X.s₀.heap.objs.size<=b)/\b≠X.env.locals/\(∀x c,X.env.cells.lookup x=some c->c≠b)/\∀p∈X.pn++pins,p.1≠b) :
  Inv X pins σ H' { s with heap:=h',gens:=g',drawn:=d',toks:=t' }:=by
 obtain ⟨m,⟨o,es,ep,ho,r⟩,_⟩:=id I.loc;obtain ⟨sl,hL⟩:=u.any ho I.free λz=>(hch _ z).2.1 rfl
 exact I.step (ch:=ch) hch (λb o hL hb hc e n=>u.keep b o e n (λz=>(Zn.mp (I.stkSub b z)).elim hL hb) hc) (λb o _ _ hc e n=>u.any e n hc) (λb o hc e n=>u.free b o e n hc) (λb o hc e=>u.there b o e hc) u.tups u.frzs u.tbls (λm' hm=>by
  obtain ⟨o',es',ep',ho',r'⟩:=hm;rw [ho]at ho';cases ho';exact ⟨_,es',ep',hL,r'⟩) hok hg
theorem Inv.turned {t':Nat} {it:Addr} (I:Inv X pins σ H s) (k:∀b o,b≠it->s.heap.get? b=some o->h'.get? b=some o) (hn:H it=none) (hL:it≠X.env.locals)
  (h1:it∈X.ex\/X.s₀.heap.objs.size<=it) (h2:∀x c,X.env.cells.lookup x=some c->c≠it) (h3:∀p∈X.pn++pins,p.1≠it):Inv X pins σ H { s with heap:=h',toks:=t' }:=by
 have nit:∀b u,H b=some u->b≠it:=λb u e z=>by rw [z,hn]at e;cases e
 refine I.step (g':=s.gens) (d':=s.drawn) (ch:=[it]) (λb hb=>?_) (λb o _ _ hc e _=>k b o (λz=>hc (by simp [z])) e) (λb o _ _ hc e _=>⟨o.slots,k b o (λz=>hc (by simp [z])) e⟩) (λ_ _ _ _ n=>n)
  (λb o hc e=>⟨o,k b o (λz=>hc (by simp [z])) e⟩) (λ_ _ e=>e) (λ_ _ _ e=>e) (λb ps e=>⟨#[],by rw [e];simp⟩) (λm hm=>?_) (λb u e=>?_) I.bare
 ·have e:b=it:=by simpa using hb
  subst e;exact ⟨h1,hL,h2,h3⟩
 ·obtain ⟨o,es,ep,ho,r⟩:=hm
  exact ⟨o,es,ep,k _ o (Ne.symm hL) ho,r⟩
 ·refine (I.hok b u e).stay (λc v hc q=>k c v ?_ q) (λ_ q=>q) λ_ _ q=>q
  rcases hc with z | z
  ·rw [z];exact nit b u e
  ·exact nit c _ z
theorem Inv.tok (I:Inv X pins σ H s) (t:Nat):Inv X pins σ H { s with toks:=t }:=I.un (h':=s.heap) (t':=t) Un.refl I.hok
theorem Inv.kept {t':Nat} (I:Inv X pins σ H s) (k:∀b u,s.heap.get? b=some u->h'.get? b=some u):Inv X pins σ H { s with heap:=h',toks:=t' }:=I.un (Un.kept k) (I.hok.kept k)
theorem Inv.laid {a:Addr} {o:HO} {t':Nat} (I:Inv X pins σ H s) (k:∀b u,s.heap.get? b=some u->h'.get? b=some u) (hp:s.heap.objs.size<=a) (new:fW X.prog X.w (upd H a o) h' a o) :
  Inv X pins σ (upd H a o) { s with heap:=h',toks:=t' }:=I.un (Un.laid k hp (I.hok.fresh hp)) (I.hok.laid k hp new)
theorem Inv.write {x e:Addr} {o:HO} {t':Nat} (I:Inv X pins σ H s) (mu:Mut (H x)) (he:e=x\/H e=some (.own x)) (k:∀b u,b≠e->s.heap.get? b=some u->h'.get? b=some u) (heo:∃u,h'.get? e=some u)
  (new:fW X.prog X.w (upd H x o) h' x o):Inv X pins σ (upd H x o) { s with heap:=h',toks:=t' }:=I.un (Un.write mu he k heo) (I.hok.write mu he k heo new)
theorem Inv.weak {σ':List (Option V)} (I:Inv X pins σ H s) (hl:σ'.length=σ.length) (w:∀(i:Nat) v,σ'[i]?=some (some v)->σ[i]?=some (some v)):Inv X pins σ' H s :=
 ⟨I.ok,I.os,I.bare,I.base,let ⟨m,hn,hl'⟩:=I.loc;⟨m,hn,λi x v e1 e2 e3=>hl' i x v e1 (w i v e2) e3⟩,I.cell,I.free,I.freeC,I.pin,I.hok,hl.trans I.len⟩
theorem Inv.pins_of {pins':List (Addr×Obj)} (I:Inv X pins σ H s) (h:∀p∈pins',s.heap.get? p.1=some p.2/\H p.1=none/\p.1≠X.env.locals/\p.1∉X.fs/\∀v,p.2.data≠.cell v):Inv X pins' σ H s :=
 ⟨I.ok,I.os,I.bare,I.base,I.loc,I.cell,I.free,I.freeC,λp hp=>(Zr.mp hp).elim (λz=>I.pin p (Zv _ z)) (h p),I.hok,I.len⟩
theorem lV {N:List Str} (hN:N.Nodup) {i j:Nat} {x:Str} (a:N[i]?=some x) (b:N[j]?=some x):i=j:=by
 obtain ⟨h1,e1⟩:=Zb.mp a;obtain ⟨h2,e2⟩:=Zb.mp b;exact (List.getElem_inj hN).mp (e1.trans e2.symm)
theorem sE {M:Model} {A:Around} {E:Value->Shared->Prop} {i:Nat} {x:Str} {v:V} {u:Value} {Q:Unit->Shared->Prop} (I:Inv X pins σ H s) (hN:X.N.Nodup) (hi:X.N[i]?=some x) (hx:Loc X.env.scope x) (r:RelV v u)
  (h:∀s',Inv X pins (σ.set i (some v)) H s'->(∃a,Heap.SameBut a s.heap s'.heap/\(a=X.env.locals\/X.env.cells.lookup x=some a))->Q () s') (hf:X.fn x=true\/X.env.scope.names.lookup x=some .local:=by first | exact .inl rfl | exact .inr rfl | assumption):wpAny M A (storeName X.env x u) Q E s:=by
 obtain ⟨m,hn,hl⟩:=id I.loc;have hcls:(X.env.scope.kind == .class || (X.env.scope.kind == .module && X.env.locals != X.env.globals))=false:=by rw [I.ok.kind];rfl
 have hiσ:i<σ.length:=by rw [I.len];exact (Zb.mp hi).1
 have cne:=I.cne;have tracked:∀{a:Addr} {h':Heap},(∃o,s.heap.get? a=some o/\H a=none)->Heap.SameBut a s.heap h'->HOk X.prog X.w H h':=fun {a h'} ha hs b ob e=>by
  obtain ⟨_,_,hfree⟩:=ha;refine (I.hok b ob e).stay (λc w' hc q=>(hs.2 c ?_).trans q) (λ_ q=>q) λ_ _ q=>q
  rintro rfl;rcases hc with rfl | hc
  ·rw [hfree]at e;cases e
  ·rw [hfree]at hc;cases hc
 rcases hx with hk | hk
 ·refine wpAny_storeName_local hk hn (λh' hn' hs=>?_) hcls
  obtain ⟨oL,_,_,hoL,_⟩:=id hn;refine h _ ⟨I.ok,I.os,I.bare,⟨λb o e n hb hx=>?_,λb o e n hb hx=>?_,I.base.free,λb o e hx=>?_,I.base.tups,I.base.frzs,I.base.tbls⟩,⟨_,hn',λj y v' e1 e2 e3=>?_⟩,λy c e=>?_,I.free,I.freeC,λp hp=>?_,tracked ⟨oL,hoL,I.free⟩ hs,by simpa using I.len⟩ ⟨_,hs,.inl rfl⟩
  ·exact (hs.2 b (Nat.ne_of_lt (ZG (Heap.lt_size e) I.ok.above))).trans (I.base.keep b o e n hb hx)
  ·obtain ⟨sl,e1⟩:=I.base.slot b o e n hb hx
   exact ⟨sl,(hs.2 b (Nat.ne_of_lt (ZG (Heap.lt_size e) I.ok.above))).trans e1⟩
  ·obtain ⟨o',e1⟩:=I.base.there b o e hx
   exact ⟨o',(hs.2 b (Nat.ne_of_lt (ZG (Heap.lt_size e) I.ok.above))).trans e1⟩
  ·by_cases hj:j=i
   ·subst hj
    rw [hi]at e1;cases e1;rw [List.getElem?_set_self hiσ]at e2;cases e2;exact ⟨u,r,.inl ⟨hk,by simp⟩⟩
   ·rw [List.getElem?_set_ne (Ne.symm hj)]at e2
    obtain ⟨u',r',q⟩:=hl j y v' e1 e2 e3;refine ⟨u',r',?_⟩;rcases q with ⟨k,e⟩ | ⟨k,c,e,z⟩
    ·refine .inl ⟨k,?_⟩
     have:y≠x:=λe=>hj (lV hN e1 (e▸hi))
     simp [this,e]
    ·exact .inr ⟨k,c,e,z.sameBut hs (cne y c e)⟩
  ·obtain ⟨w',z⟩:=I.cell y c e
   exact ⟨w',z.sameBut hs (cne y c e)⟩
  ·obtain ⟨e,n,ne,nf,d⟩:=I.pin p hp
   exact ⟨(hs.2 p.1 ne).trans e,n,ne,nf,d⟩
 ·have hfn:X.fn x=true:=by
   rcases hf with z | z
   ·exact z
   ·rw [z]at hk;cases hk
  obtain ⟨c,hc⟩:=I.ok.has x (.inl hk);obtain ⟨w',z⟩:=I.cell x c hc;refine wpAny_storeName_cell I.ok.kind hk hc z (λh' hc' hs=>?_)
  obtain ⟨oc,hoc,hocd⟩:=id z;refine h { s with heap:=h' } ⟨I.ok,I.os,I.bare,⟨λb o e n hb hx=>?_,λb o e n hb hx=>?_,I.base.free,λb o e hx=>?_,I.base.tups,I.base.frzs,I.base.tbls⟩,⟨m,hn.sameBut hs (Ne.symm (cne x c hc)),λj y v' e1 e2 e3=>?_⟩,λy c' e=>?_,I.free,I.freeC,λp hp=>?_,tracked ⟨oc,hoc,I.freeC x c hc⟩ hs,by simpa using I.len⟩ ⟨c,hs,.inr hc⟩
  ·exact (hs.2 b (Nat.ne_of_lt (ZG (Heap.lt_size e) (I.ok.cab x c hfn hc)))).trans (I.base.keep b o e n hb hx)
  ·obtain ⟨sl,e1⟩:=I.base.slot b o e n hb hx
   exact ⟨sl,(hs.2 b (Nat.ne_of_lt (ZG (Heap.lt_size e) (I.ok.cab x c hfn hc)))).trans e1⟩
  ·obtain ⟨o',e1⟩:=I.base.there b o e hx
   exact ⟨o',(hs.2 b (Nat.ne_of_lt (ZG (Heap.lt_size e) (I.ok.cab x c hfn hc)))).trans e1⟩
  ·by_cases hj:j=i
   ·subst hj
    rw [hi]at e1;cases e1;rw [List.getElem?_set_self hiσ]at e2;cases e2;exact ⟨u,r,.inr ⟨.inl hk,c,hc,hc'⟩⟩
   ·rw [List.getElem?_set_ne (Ne.symm hj)]at e2
    obtain ⟨u',r',q⟩:=hl j y v' e1 e2 e3;refine ⟨u',r',?_⟩;rcases q with q | ⟨k,c',e,z'⟩
    ·exact .inl q
    ·refine .inr ⟨k,c',e,z'.sameBut hs ?_⟩
     rintro rfl;exact hj (lV hN e1 (I.ok.inj _ _ _ e hc▸hi))
  ·by_cases hcc:c'=c
   ·subst hcc;exact ⟨_,hc'⟩
   ·obtain ⟨w2,z2⟩:=I.cell y c' e
    exact ⟨w2,z2.sameBut hs hcc⟩
  ·obtain ⟨e,n,ne,nf,d⟩:=I.pin p hp
   refine ⟨(hs.2 p.1 ?_).trans e,n,ne,nf,d⟩;intro q;rw [q,hoc]at e;have q':oc=p.2:=Zx e;exact d w' (by rw [<-q'];exact hocd)
theorem gI {M:Model} {A:Around} {E:Value->Shared->Prop} {i:Nat} {x:Str} {v:V} {u:Value} {Q:Unit->Shared->Prop} (I:Inv X pins σ H s) (hN:X.N.Nodup) (hi:X.N[i]?=some x) (hx:Loc X.env.scope x) (r:RelV v u)
  (h:∀s',Inv X pins (σ.set i (some v)) H s'->Q () s') (hf:X.fn x=true\/X.env.scope.names.lookup x=some .local:=by first | exact .inl rfl | exact .inr rfl | assumption):wpAny M A (storeName X.env x u) Q E s :=
 sE I hN hi hx r (λs' I' _=>h s' I') hf
theorem Inv.call' {s':Shared} {ch:List Addr} (I:Inv X pins σ H s) (ho:s'.os=s.os) (u:Un (frs X.stack) ch H H' s.heap s'.heap) (hok:HOk X.prog X.w H' s'.heap) (hg:AllBare s'.gens)
  (hch:∀b∈ch,(b∈X.ex\/X.s₀.heap.objs.size<=b)/\b≠X.env.locals/\(∀x c,X.env.cells.lookup x=some c->c≠b)/\∀p∈X.pn++pins,p.1≠b):Inv X pins σ H' s':=by
 obtain ⟨h',g',d',t',o'⟩:=s';have e:o'=s.os:=ho;subst e;exact I.call (g':=g') (t':=t') (d':=d') u hok hg hch
end
noncomputable abbrev XK:=Value->Option Addr->Hp->Prop
noncomputable abbrev St:=List (Option V)
noncomputable abbrev VK:=V->Hp->Prop
noncomputable abbrev TE:=St->Hp->VK->Prop
noncomputable abbrev TT:=St->Hp->(Bool->Hp->Prop)->Prop
noncomputable abbrev TA:=St->Hp->(List V->Hp->Prop)->Prop
structure Ends where
 nx:St->Hp->Prop
 rt:VK
 bk:St->Hp->Prop:=λ_ _=>False
 ct:St->Hp->Prop:=λ_ _=>False
noncomputable abbrev TS:=Ends->St->Hp->Prop
noncomputable def EP (X:Cx) (pins:List (Addr×Obj)) (σ:St) (Q:VK) (u:Value) (s':Shared):Prop:=∃v H',Inv X pins σ H' s'/\RelV v u/\Q v H'
noncomputable def TP (X:Cx) (pins:List (Addr×Obj)) (σ:St) (Q:Bool->Hp->Prop) (b:Bool) (s':Shared):Prop:=∃H',Inv X pins σ H' s'/\Q b H'
noncomputable def AP (X:Cx) (pins:List (Addr×Obj)) (σ:St) (Q:List V->Hp->Prop) (us:List Value) (s':Shared):Prop:=∃vs H',Inv X pins σ H' s'/\Vals vs us/\Q vs H'
noncomputable def SP (X:Cx) (pins:List (Addr×Obj)) (D:Ends) (f:Flow) (s':Shared):Prop :=
 match f with
 |.next=>∃σ' H',Inv X pins σ' H' s'/\D.nx σ' H'
 |.brk=>∃σ' H',Inv X pins σ' H' s'/\D.bk σ' H'
 |.cont=>∃σ' H',Inv X pins σ' H' s'/\D.ct σ' H'
 |.ret u=>∃v σ' H',Inv X pins σ' H' s'/\RelV v u/\D.rt v H'
noncomputable def PE (X:Cx) (e:Expr) (t:TE):Prop :=
 ∀(pins:List (Addr×Obj)) (s:Shared) (σ:St) (H:Hp) (Q:VK),Inv X pins σ H s->t σ H Q->wpAny (model X.prog X.w) X.A (eval e X.env) (EP X pins σ Q) X.xe s
noncomputable def PT (X:Cx) (e:Expr) (t:TT):Prop :=
 ∀(pins:List (Addr×Obj)) (s:Shared) (σ:St) (H:Hp) (Q:Bool->Hp->Prop),Inv X pins σ H s->t σ H Q->wpAny (model X.prog X.w) X.A (isTrue e X.env (eval e X.env)) (TP X pins σ Q) X.xe s
noncomputable def PW (X:Cx) (e:Expr) (t:TT):Prop :=
 ∀(whole:Sem Value) (pins:List (Addr×Obj)) (s:Shared) (σ:St) (H:Hp) (Q:Bool->Hp->Prop),Inv X pins σ H s->t σ H Q->wpAny (model X.prog X.w) X.A (isTrue e X.env whole) (TP X pins σ Q) X.xe s
theorem PW.pt {X:Cx} {e:Expr} {t:TT} (h:PW X e t):PT X e t:=h _
noncomputable def PA (X:Cx) (es:List Expr) (t:TA):Prop :=
 ∀(pos:Pos) (pins:List (Addr×Obj)) (s:Shared) (σ:St) (H:Hp) (Q:List V->Hp->Prop),Inv X pins σ H s->t σ H Q->wpAny (model X.prog X.w) X.A (spliced (backTo pos (starEach es X.env))) (AP X pins σ Q) X.xe s
noncomputable def PS (X:Cx) (st:Stmt) (t:TS):Prop :=
 ∀(pins:List (Addr×Obj)) (s:Shared) (σ:St) (H:Hp) (D:Ends),Inv X pins σ H s->t D σ H->wpAny (model X.prog X.w) X.A (exec st X.env) (SP X pins D) X.xe s
noncomputable def PSs (X:Cx) (st:List Stmt) (t:TS):Prop :=
 ∀(pins:List (Addr×Obj)) (s:Shared) (σ:St) (H:Hp) (D:Ends),Inv X pins σ H s->t D σ H->wpAny (model X.prog X.w) X.A (execs st X.env) (SP X pins D) X.xe s
theorem thn {α:Type} {t:Sem α} {Q Q':α->Shared->Prop} {M:Model} {A:Around} {E:Value->Shared->Prop} {s:Shared} (h:wpAny M A t Q E s) (hQ:∀a s,Q a s->Q' a s):wpAny M A t Q' E s:=wpAny_mono h hQ λ_ _ x=>x
section
variable {X:Cx}
theorem bin {a b:Expr} {ta tb:TE} (ha:PE X a ta) (hb:PE X b tb) {pins:List (Addr×Obj)} {s:Shared} {σ:St} {H:Hp} {R:V->V->Hp->Prop} (I:Inv X pins σ H s) (h:ta σ H λx H1=>tb σ H1 λy H2=>R x y H2)
  {α:Type} {Q:α->Shared->Prop} {f:Value->Value->Sem α}
  (hf:∀v u s2 x y H2,Inv X pins σ H2 s2->RelV x v->RelV y u->R x y H2->wpAny (model X.prog X.w) X.A (f v u) Q X.xe s2) :
  wpAny (model X.prog X.w) X.A (eval a X.env) (λv s₁=>wpAny (model X.prog X.w) X.A (eval b X.env) (λu s₂=>wpAny (model X.prog X.w) X.A (f v u) Q X.xe s₂) X.xe s₁) X.xe s:=by
 refine thn (ha pins s σ H _ I h) λv s1 ⟨x,H1,I1,r1,q1⟩=>?_
 refine thn (hb pins s1 σ H1 _ I1 q1) λu s2 ⟨y,H2,I2,r2,q2⟩=>?_
 exact hf v u s2 x y H2 I2 r1 r2 q2
noncomputable def i8 (i:Nat):TE:=fun σ H Q=>∃v,σ[i]?=some (some v)/\Q v H
noncomputable def tC (v:V):TE:=λ_ H Q=>Q v H
theorem eS {i:Nat} {x:Str} {pos:Pos} (hN:X.N[i]?=some x) (hv:Vis X.env.scope x) (hd:(x == ("__debug__" : Str))=false:=by decide) (hcd:(x == ("__classdict__" : Str))=false:=by decide):PE X (.Name x pos) (i8 i):=by
 intro pins s σ H Q I h;obtain ⟨v,e,h⟩:=h;obtain ⟨m,hn,hl⟩:=I.loc;obtain ⟨u,r,l⟩:=hl i x v hN e hv;have fin:EP X pins σ Q u s:=⟨v,H,I,r,h⟩;rcases l with ⟨hk,hm⟩ | ⟨hk,c,hc,hcell⟩
 ·exact wpAny_Name (wpAny_loadName_local I.ok.kind hk hn hm fin) hd
 ·rcases hk with hk | hk
  ·exact wpAny_Name (wpAny_loadName_cell I.ok.kind hk hc hcell fin) hd
  ·exact wpAny_Name (wpAny_loadName_free I.ok.kind hk hc hcell fin hcd) hd
theorem l8 {i j pos}:PE X (.Constant (.int i) j pos) (tC (.int i)):=λ_ _ _ H _ I h=>wpAny_Constant_int ⟨.int i,H,I.tok _,⟨_,rfl⟩,h⟩
theorem FO {b j pos}:PE X (.Constant (.bool b) j pos) (tC (.bl b)):=λ_ _ _ H _ I h=>Constant_bool ⟨.bl b,H,I,rfl,h⟩
theorem Bg {j pos}:PE X (.Constant .none j pos) (tC .non):=λ_ _ _ H _ I h=>Constant_none ⟨.non,H,I,rfl,h⟩
theorem lM {x j pos}:PE X (.Constant (.str x) j pos) (tC (.str x)):=λ_ _ _ H _ I h=>Calls.Constant_str ⟨.str x,H,I.tok _,⟨_,rfl⟩,h⟩
noncomputable def Gl (X:Cx) (x:Str):Prop:=X.env.kindOf x=some .globalImplicit
theorem jj {E:Value->Shared->Prop} {pins:List (Addr×Obj)} {s:Shared} {σ:St} {H:Hp} {x:Str} {u:Value} {pos:Pos} {Q:Value->Shared->Prop} (I:Inv X pins σ H s) (hg:Gl X x) (hm:X.mg x=some u) (h:Q u s)
  (hd:(x == ("__debug__" : Str))=false:=by decide):wpAny (model X.prog X.w) X.A (eval (.Name x pos) X.env) Q E s :=
 Calls.Name_function_global I.ok.kind hg (Calls.loadGlobal_global (by rw [I.ok.glob];exact I.mod.glob.keeps I.bk) hm h) hd
theorem kC {E:Value->Shared->Prop} {pins:List (Addr×Obj)} {s:Shared} {σ:St} {H:Hp} {x:Str} {u:Value} {pos:Pos} {Q:Value->Shared->Prop} (I:Inv X pins σ H s) (hg:Gl X x) (hm:X.mg x=none) (hv:bootBuiltins x=some u) (h:Q u s)
  (hn:x ≠ "__name__" := by decide) (hd:(x == ("__debug__" : Str))=false:=by decide):wpAny (model X.prog X.w) X.A (eval (.Name x pos) X.env) Q E s:=by
 obtain ⟨mb,h1,h2⟩:=I.mod.blt;exact Calls.Name_function_global I.ok.kind hg (Calls.loadGlobal_builtin (by rw [I.ok.glob];exact I.mod.glob.keeps I.bk) hm (by rw [I.ok.blt];exact h1.keeps I.bk) ((h2 x hn).trans hv) h) hd
theorem lr {x:Str} {v:V} {u:Value} {pos:Pos} (hg:Gl X x) (hm:X.mg x=some u) (r:RelV v u) (hd:(x == ("__debug__" : Str))=false:=by decide):PE X (.Name x pos) (tC v) :=
 λ_ _ _ H _ I h=>jj I hg hm ⟨v,H,I,r,h⟩ hd
theorem q_ {x:Str} {v:V} {u:Value} {pos:Pos} (hg:Gl X x) (hm:X.mg x=none) (hv:bootBuiltins x=some u) (r:RelV v u) (hn:x ≠ "__name__" := by decide) (hd:(x == ("__debug__" : Str))=false:=by decide):PE X (.Name x pos) (tC v) :=
 λ_ _ _ H _ I h=>kC I hg hm hv ⟨v,H,I,r,h⟩ hn hd
variable {a b:Expr} {ta tb:TE} {pos:Pos}
noncomputable def PC (X:Cx) (op:CmpOp) (a b:Expr) (t:TE):Prop :=
 ∀(pins:List (Addr×Obj)) (s:Shared) (σ:St) (H:Hp) (Q:VK),Inv X pins σ H s->t σ H Q ->
  wpAny (model X.prog X.w) X.A (eval a X.env) (λv s₁=>wpAny (model X.prog X.w) X.A (eval b X.env) (λu s₂=>wpAny (model X.prog X.w) X.A (compareOp op v u) (EP X pins σ Q) X.xe s₂) X.xe s₁) X.xe s
theorem vM (b:Expr) {op:CmpOp} (h:op≠.In) (h2:op≠.NotIn):behindInMarks op b=false:=by
 have e1:(op == CmpOp.In)=false:=by cases op <;> first | rfl | exact absurd rfl h
 have e2:(op == CmpOp.NotIn)=false:=by cases op <;> first | rfl | exact absurd rfl h2
 cases b <;> simp [behindInMarks,e1,e2]
noncomputable def tB (t:TE):TT:=fun σ H Q=>t σ H λx H1=>∃c,x=.bl c/\Q c H1
theorem GW {op:CmpOp} {t:TE} (h:PC X op a b t) (h1:behindInMarks op b=false:=by first | exact vM _ (by decide) (by decide) | rfl):PT X (.Compare a [op] [b] pos) (tB t):=by
 intro pins s σ H Q I hw;refine wpAny_isTrue_Compare1 (thn (h pins s σ H _ I hw) λv s1 h1=>thn h1 λu s2 h2=>thn h2 λc s3 ⟨x,H1,I1,r1,q1⟩=>?_) h1
 obtain ⟨d,rfl,q⟩:=q1;cases r1;exact wpAny_truthy_bool ⟨H1,I1,q⟩
theorem qc {e:Expr} {t:TE} (h:PE X e t) (he:∀whole,isTrue e X.env whole=(do let v <-whole;standAt e.pos;holding [v] (truthy v)):=by intro _;rfl):PT X e (tB t):=by
 intro pins s σ H Q I hw;refine isTrue_plain (thn (h pins s σ H _ I hw) λv s1 ⟨x,H1,I1,r1,q1⟩=>?_) (he _)
 obtain ⟨d,rfl,q⟩:=q1;cases r1;exact wpAny_truthy_bool ⟨H1,I1,q⟩
variable {tA tB':TT} {rest:List Expr}
noncomputable def CN (t u:TT):TT:=fun σ H Q=>t σ H λc H1=>if c=true then u σ H1 Q else Q false H1
noncomputable def tOr (t u:TT):TT:=fun σ H Q=>t σ H λc H1=>if c=true then Q true H1 else u σ H1 Q
noncomputable def Ex (t:TT):TT:=fun σ H Q=>t σ H λc H1=>Q (!c) H1
theorem wH (ha:PT X a tA):PW X (.BoolOp .And [a] pos) tA:=by
 intro wh pins s σ H Q I h;refine isTrue_and (thn (ha pins s σ H Q I h) λc s1 e=>?_)
 cases c with
 |true=>exact isTrue_and_nil e
 |false=>exact e
theorem uM (ha:PT X a tA):PW X (.BoolOp .Or [a] pos) tA:=by
 intro wh pins s σ H Q I h;refine isTrue_or (thn (ha pins s σ H Q I h) λc s1 e=>?_)
 cases c with
 |false=>exact isTrue_or_nil e
 |true=>exact e
theorem Cc (ha:PT X a tA) (hb:PW X (.BoolOp .And (b :: rest) pos) tB'):PW X (.BoolOp .And (a :: b :: rest) pos) (CN tA tB'):=by
 intro wh pins s σ H Q I h;refine isTrue_and (thn (ha pins s σ H _ I h) λc s1 ⟨H1,I1,q1⟩=>?_)
 cases c with
 |true=>exact hb wh pins s1 σ H1 Q I1 q1
 |false=>exact ⟨H1,I1,q1⟩
theorem x4 (ha:PT X a tA) (hb:PW X (.BoolOp .Or (b :: rest) pos) tB'):PW X (.BoolOp .Or (a :: b :: rest) pos) (tOr tA tB'):=by
 intro wh pins s σ H Q I h;refine isTrue_or (thn (ha pins s σ H _ I h) λc s1 ⟨H1,I1,q1⟩=>?_)
 cases c with
 |true=>exact ⟨H1,I1,q1⟩
 |false=>exact hb wh pins s1 σ H1 Q I1 q1
theorem vm (ha:PT X a tA):PT X (.UnaryOp .Not a pos) (Ex tA):=by
 intro pins s σ H Q I h;exact isTrue_not (ha pins s σ H (λc H1=>Q (!c) H1) I h)
noncomputable def yA (ta tb:TE):TE:=fun σ H Q=>ta σ H λx H1=>∃c,x=.bl c/\if c=true then tb σ H1 Q else Q (.bl false) H1
noncomputable def Dt (ta tb:TE):TE:=fun σ H Q=>ta σ H λx H1=>∃c,x=.bl c/\if c=true then Q (.bl true) H1 else tb σ H1 Q
noncomputable def yy (ta:TE):TE:=fun σ H Q=>ta σ H λx H1=>∃c,x=.bl c/\Q (.bl (!c)) H1
theorem zo {op} {t:TE} (h:PE X a t):PE X (.BoolOp op [a] pos) t:=λpins s σ H Q I hw=>BoolOp_one (h pins s σ H Q I hw)
theorem zj (ha:PE X a ta) (hb:PE X (.BoolOp .And (b :: rest) pos) tb):PE X (.BoolOp .And (a :: b :: rest) pos) (yA ta tb):=by
 intro pins s σ H Q I h;refine BoolOp_and (thn (ha pins s σ H _ I h) λv s1 ⟨x,H1,I1,r1,q1⟩=>?_)
 obtain ⟨c,rfl,q1⟩:=q1;cases r1;refine wpAny_truthy_bool ?_;cases c with
 |true=>exact hb pins s1 σ H1 Q I1 q1
 |false=>exact ⟨.bl false,H1,I1,rfl,q1⟩
theorem Dm (ha:PE X a ta) (hb:PE X (.BoolOp .Or (b :: rest) pos) tb):PE X (.BoolOp .Or (a :: b :: rest) pos) (Dt ta tb):=by
 intro pins s σ H Q I h;refine BoolOp_or (thn (ha pins s σ H _ I h) λv s1 ⟨x,H1,I1,r1,q1⟩=>?_)
 obtain ⟨c,rfl,q1⟩:=q1;cases r1;refine wpAny_truthy_bool ?_;cases c with
 |false=>exact hb pins s1 σ H1 Q I1 q1
 |true=>exact ⟨.bl true,H1,I1,rfl,q1⟩
theorem zT (ha:PE X a ta):PE X (.UnaryOp .Not a pos) (yy ta):=by
 intro pins s σ H Q I h;refine UnaryOp_ (thn (ha pins s σ H _ I h) λv s1 ⟨x,H1,I1,r1,q1⟩=>?_)
 obtain ⟨c,rfl,q1⟩:=q1;cases r1;exact not_of (wpAny_truthy_bool ⟨.bl (!c),H1,I1,rfl,q1⟩)
noncomputable def tIf (t:TT) (ta tb:TE):TE:=fun σ H Q=>t σ H λc H1=>if c=true then ta σ H1 Q else tb σ H1 Q
theorem uA {c:Expr} (hc:PT X c tA) (ha:PE X a ta) (hb:PE X b tb):PE X (.IfExp c a b pos) (tIf tA ta tb):=by
 intro pins s σ H Q I h;refine wpAny_IfExp (thn (hc pins s σ H _ I h) λd s1 ⟨H1,I1,q1⟩=>?_)
 cases d with
 |true=>exact ha pins s1 σ H1 Q I1 q1
 |false=>exact hb pins s1 σ H1 Q I1 q1
end
noncomputable def SqL (K:PySem.W.Frag) (H:Hp) (a:Addr) (xs:List V):Prop :=
 Rd H a (.lst xs) \/
  ∃(o:Obj) (its:Array Value) (n:Nat),K.lookup a=some o/\o.cls=.type "list" /\ o.dict=none/\o.data=.seq its n/\its.size<=sizeLine/\Vals xs its.toList
noncomputable def SqT (K:PySem.W.Frag) (H:Hp) (a:Addr) (xs:List V):Prop :=
 Rd H a (.tup xs) \/
  ∃(o:Obj) (its:Array Value) (n:Nat),K.lookup a=some o/\o.cls=.type "tuple" /\ o.data=.seq its n/\its.size<=sizeLine/\Vals xs its.toList
noncomputable def Gy:Value->Option V
 |.none=>some .non
 |.bool b=>some (.bl b)
 |.int i _=>some (.int i)
 |.str x _=>some (.str x)
 |.bytes b _=>some (.byt b)
 |.float b _=>some (.flt b)
 |.ref a=>some (.ref a)
 |.type n=>some (.ty n)
 |_=>none
theorem RelV.abs {x:V} {u:Value} (r:RelV x u):Gy u=some x:=by
 cases x with
 |non=>cases r;rfl
 |bl _=>cases r;rfl
 |int _=>obtain ⟨t,rfl⟩:=r;rfl
 |str _=>obtain ⟨t,rfl⟩:=r;rfl
 |byt _=>obtain ⟨t,rfl⟩:=r;rfl
 |flt _=>obtain ⟨t,rfl⟩:=r;rfl
 |ref _=>cases r;rfl
 |ty _=>cases r;rfl
theorem RelV.inj {x y:V} {u:Value} (r:RelV x u) (q:RelV y u):x=y:=Zx (r.abs.symm.trans q.abs)
theorem Vals.inj:∀{xs ys:List V} {us:List Value},Vals xs us->Vals ys us->xs=ys
 |_,_,_,.nil,.nil=>rfl
 |_,_,_,.cons r t,.cons r' t'=>by rw [r.inj r',Vals.inj t t']
section
variable {X:Cx} {pins:List (Addr×Obj)} {σ:St} {H:Hp} {s:Shared} {a:Addr} {xs ys:List V}
theorem SqL.of {K:PySem.W.Frag} (h:H a=some (.lst xs)):SqL K H a xs:=.inl (.inl h)
theorem SqT.of {K:PySem.W.Frag} (h:H a=some (.tup xs)):SqT K H a xs:=.inl (.inl h)
theorem Inv.list (I:Inv X pins σ H s) (h:SqL X.K H a xs):∃its:List Value,Vals xs its/\PlainL s.heap a its.toArray/\xs.length<=sizeLine:=by
 rcases h with h | ⟨o,its,n,hk,hc,hd,hs,hz,r⟩
 ·obtain ⟨z,its,n,r,e⟩:=h.ok I.hok
  exact ⟨its,r,⟨_,n,e,rfl,rfl,rfl⟩,z⟩
 ·refine ⟨its.toList,r,⟨o,n,I.kIn a o hk,hc,hd,by simpa using hs⟩,?_⟩
  have e:=r.length;simp only [Array.length_toList]at e
  lia
theorem Inv.tuple (I:Inv X pins σ H s) (h:SqT X.K H a xs):∃its:List Value,Vals xs its/\IsTup s.heap a its.toArray/\xs.length<=sizeLine:=by
 rcases h with h | ⟨o,its,n,hk,hc,hs,hz,r⟩
 ·obtain ⟨z,its,r,p⟩:=h.ok I.hok
  exact ⟨its,r,p,z⟩
 ·refine ⟨its.toList,r,⟨o,I.kIn a o hk,hc,n,by simpa using hs⟩,?_⟩
  have e:=r.length;simp only [Array.length_toList]at e
  lia
theorem Inv.list_inj (I:Inv X pins σ H s) (h:SqL X.K H a xs) (h':SqL X.K H a ys):xs=ys:=by
 obtain ⟨its,r,⟨o,n,e,_,_,d⟩,_⟩:=I.list h;obtain ⟨its',r',⟨o',n',e',_,_,d'⟩,_⟩:=I.list h';rw [e]at e';cases e';rw [d]at d';injection d' with d1 _
 have:its=its':=by simpa using congrArg Array.toList d1
 subst this;exact r.inj r'
end
noncomputable abbrev Cx.wish (X:Cx) (E:Value->Shared->Prop):Cx:={ X with xe:=E }
noncomputable abbrev Cx.nox (X:Cx):Cx:=X.wish λ_ _=>False
theorem Cx.Ok.wish {X:Cx} (ok:X.Ok) (E:Value->Shared->Prop):(X.wish E).Ok :=
 ⟨ok.mod,ok.kind,ok.glob,ok.blt,ok.above,ok.inj,ok.has,ok.cab,ok.hd,ok.frames,ok.stk,ok.exf,ok.bs,ok.bsz,ok.noex,ok.exfs,ok.funs,ok.frf⟩
theorem Cx.Ok.unwish {X:Cx} {E:Value->Shared->Prop} (ok:(X.wish E).Ok):X.Ok :=
 ⟨ok.mod,ok.kind,ok.glob,ok.blt,ok.above,ok.inj,ok.has,ok.cab,ok.hd,ok.frames,ok.stk,ok.exf,ok.bs,ok.bsz,ok.noex,ok.exfs,ok.funs,ok.frf⟩
section
variable {X:Cx} {pins:List (Addr×Obj)} {σ:St} {H:Hp} {s:Shared} {E:Value->Shared->Prop}
theorem Inv.wish (I:Inv X pins σ H s) (E:Value->Shared->Prop):Inv (X.wish E) pins σ H s:=⟨I.ok.wish E,I.os,I.bare,I.base,I.loc,I.cell,I.free,I.freeC,I.pin,I.hok,I.len⟩
theorem Inv.unwish (I:Inv (X.wish E) pins σ H s):Inv X pins σ H s:=⟨I.ok.unwish,I.os,I.bare,I.base,I.loc,I.cell,I.free,I.freeC,I.pin,I.hok,I.len⟩
theorem SP.unwish {D:Ends} {f:Flow} {s':Shared} (h:SP (X.wish E) pins D f s'):SP X pins D f s':=by
 cases f with
 |next=>obtain ⟨σ',H',I,q⟩:=h;exact ⟨σ',H',I.unwish,q⟩
 |brk=>obtain ⟨σ',H',I,q⟩:=h;exact ⟨σ',H',I.unwish,q⟩
 |cont=>obtain ⟨σ',H',I,q⟩:=h;exact ⟨σ',H',I.unwish,q⟩
 |ret u=>obtain ⟨v,σ',H',I,r,q⟩:=h;exact ⟨v,σ',H',I.unwish,r,q⟩
theorem PSs.nox {st:List Stmt} {t:TS} (h:PSs X.nox st t):PSs X st t:=λpins s σ H D I hw =>
 wpAny_mono (h pins s σ H D (I.wish _) hw) (λ_ _ q=>q.unwish) λ_ _ z=>False.elim z
end
section
variable {X:Cx} {st:Stmt} {rest:List Stmt} {t u:TS} {e:Expr} {te:TE} {pos:Pos}
noncomputable def xY:TS:=λD σ H=>D.nx σ H
noncomputable def xI (t u:TS):TS:=λD σ H=>t { D with nx:=u D } σ H
theorem qD:PSs X [] xY:=λ_ _ σ H _ I h=>wpAny_execs_nil ⟨σ,H,I,h⟩
theorem j0 (h1:PS X st t) (h2:PSs X rest u):PSs X (st :: rest) (xI t u):=by
 intro pins s σ H D I h;refine wpAny_execs_cons (thn (h1 pins s σ H { D with nx:=u D } I h) λf s1 q=>?_)
 cases f with
 |next =>
  obtain ⟨σ',H',I',q⟩:=q;exact h2 pins s1 σ' H' D I' q
 |ret v=>exact q
 |brk=>exact q
 |cont=>exact q
theorem jh (h1:PS X st t):PSs X [st] t:=by
 intro pins s σ H D I h;refine wpAny_execs_cons (thn (h1 pins s σ H D I h) λf s1 q=>?_)
 cases f with
 |next=>exact wpAny_execs_nil q
 |ret v=>exact q
 |brk=>exact q
 |cont=>exact q
theorem Inv.quiet {pins:List (Addr×Obj)} {σ:St} {H:Hp} {s:Shared} (I:Inv X pins σ H s):interactive X.env=false:=by simp [interactive,I.ok.kind]
noncomputable def mS (te:TE):TS:=λD σ H=>te σ H λ_ H1=>D.nx σ H1
theorem nS (he:PE X e te) (hs:swapsWith e none pos.line X.env=pure false:=by rfl):PS X (.Expr e pos) (mS te):=by
 intro pins s σ H D I h;exact wpAny_Expr_any (thn (he pins s σ H _ I h) λv s1 ⟨x,H1,I1,r1,q1⟩=>⟨σ,H1,I1,q1⟩) I.quiet hs
noncomputable def sY (te:TE):TS:=λD σ H=>te σ H D.rt
theorem kJ (he:PE X e te):PS X (.Return (some e) pos) (sY te):=by
 intro pins s σ H D I h;exact wpAny_Return_some (thn (he pins s σ H _ I h) λv s1 ⟨x,H1,I1,r1,q1⟩=>⟨x,σ,H1,I1,r1,q1⟩)
noncomputable def DB (c:TT) (t u:TS):TS:=λD σ H=>c σ H λb H1=>if b=true then t D σ H1 else u D σ H1
theorem xZ {c:Expr} {a b:List Stmt} {tc:TT} (hc:PT X c tc) (ha:PSs X a t) (hb:PSs X b u):PS X (.If c a b pos) (DB tc t u):=by
 intro pins s σ H D I h;refine wpAny_If (thn (hc pins s σ H _ I h) λd s1 ⟨H1,I1,q1⟩=>?_)
 cases d with
 |true=>exact ha pins s1 σ H1 D I1 q1
 |false=>exact hb pins s1 σ H1 D I1 q1
noncomputable def ug:TS:=λ_ _ _=>False
theorem u4:PS X st ug:=λ_ _ _ _ _ _ h=>h.elim
end
noncomputable abbrev TG:=V->St->Hp->(St->Hp->Prop)->Prop
noncomputable abbrev TGs:=List V->St->Hp->(St->Hp->Prop)->Prop
noncomputable def PG (X:Cx) (target:Expr) (t:TG):Prop :=
 ∀(pins:List (Addr×Obj)) (s:Shared) (σ:St) (H:Hp) (v:V) (u:Value) (Q:St->Hp->Prop),Inv X pins σ H s->RelV v u->t v σ H Q ->
  wpAny (model X.prog X.w) X.A (assign target X.env u) (λ_ s'=>∃σ' H',Inv X pins σ' H' s'/\Q σ' H') X.xe s
noncomputable def PGs (X:Cx) (ts:List Expr) (t:TGs):Prop :=
 ∀(pins:List (Addr×Obj)) (s:Shared) (σ:St) (H:Hp) (vs:List V) (us:List Value) (Q:St->Hp->Prop),Inv X pins σ H s->Vals vs us->t vs σ H Q ->
  wpAny (model X.prog X.w) X.A (assignInOrder ((assignEach ts X.env).map (·.2)) us) (λ_ s'=>∃σ' H',Inv X pins σ' H' s'/\Q σ' H') X.xe s
noncomputable abbrev TIp:=V->V->Hp->VK->Prop
noncomputable def PIp (X:Cx) (op:Operator) (t:TIp):Prop :=
 ∀(pins:List (Addr×Obj)) (s:Shared) (σ:St) (H:Hp) (x y:V) (v u:Value) (Q:VK),Inv X pins σ H s->RelV x v->RelV y u->t x y H Q ->
  wpAny (model X.prog X.w) X.A (inplaceOp op v u) (EP X pins σ Q) X.xe s
section
variable {X:Cx} {pos:Pos}
noncomputable def nh (i:Nat):TG:=λv σ H Q=>Q (σ.set i (some v)) H
theorem xg {i:Nat} {x:Str} (hN:X.N.Nodup) (hi:X.N[i]?=some x) (hx:Loc X.env.scope x) (hf:X.fn x=true\/X.env.scope.names.lookup x=some .local:=by first | exact .inl rfl | exact .inr rfl | assumption):PG X (.Name x pos) (nh i):=by
 intro pins s σ H v u Q I r h;exact wpAny_assign_Name (gI I hN hi hx r (λs' I'=>⟨_,H,I',h⟩) hf)
noncomputable def EO:TGs:=λvs σ H Q=>vs=[]/\Q σ H
noncomputable def yB (t:TG) (u:TGs):TGs:=λvs σ H Q=>∃v r,vs=v :: r/\t v σ H fun σ' H'=>u r σ' H' Q
theorem wJ:PGs X [] EO:=by
 intro pins s σ H vs us Q I r h;obtain ⟨e,h⟩:=h;subst e;cases r;exact assignInOrder_nil ⟨σ,H,I,h⟩
theorem vh {e:Expr} {es:List Expr} {t:TG} {u:TGs} (h1:PG X e t) (h2:PGs X es u)
  (hs:(assignEach (e :: es) X.env).map (·.2)=assign e X.env :: (assignEach es X.env).map (·.2):=by rfl):PGs X (e :: es) (yB t u):=by
 intro pins s σ H vs us Q I r h;obtain ⟨v,vr,e1,h⟩:=h;subst e1;cases r with
 |cons r rr =>
  rw [hs];refine assignInOrder_cons (thn (h1 pins s σ H _ _ _ I r h) λ_ s1 ⟨σ1,H1,I1,q1⟩=>?_)
  exact h2 pins s1 σ1 H1 _ _ Q I1 rr q1
noncomputable def ER (K:PySem.W.Frag) (n:Nat) (t:TGs):TG:=λv σ H Q=>∃a xs,v=.ref a/\SqT K H a xs/\xs.length=n/\t xs σ H Q
theorem zZ {es:List Expr} {k:Nat} {t:TGs} {n:Nat} (hc:X.calm=true) (h:PGs X es t)
  (hn:(assignEach es X.env).length=n:=by rfl) (hst:(assignEach es X.env).findIdx? (·.1)=none:=by rfl):PG X (.Tuple es k pos) (ER X.K n t):=by
 intro pins s σ H v u Q I r hw;obtain ⟨a,xs,e1,hq,hl,hw⟩:=hw;subst e1;cases r;obtain ⟨its,rv,ht,hz⟩:=I.tuple hq;refine assign_Tuple_tuple (I.ok.hd hc) ht (by simp [hn,<-hl,rv.length]) hst λh' hx=>?_
 have I1:Inv X pins σ H { s with heap:=h' }:=I.kept (t':=s.toks) λb o e=>hx b o (Nat.ne_of_lt (Heap.lt_size e)) e
 exact h pins _ σ H xs _ Q I1 (by simpa using rv) hw
noncomputable def r9 (te:TE) (g:TG):TS:=λD σ H=>te σ H λx H1=>g x σ H1 D.nx
theorem zN {tg e:Expr} {te:TE} {g:TG} (he:PE X e te) (hg:PG X tg g) (hs:swapsWithSole [tg] e pos.line X.env=pure false:=by rfl) (hw:swappedStores [tg] e X.env=pure none:=by rfl)
  (h1:(assignEach [tg] X.env).map (·.2)=[assign tg X.env]:=by rfl):PS X (.Assign [tg] e pos) (r9 te g):=by
 intro pins s σ H D I h;refine wpAny_Assign_stores (thn (he pins s σ H _ I h) λv s1 ⟨x,H1,I1,r1,q1⟩=>?_) hs hw
 rw [h1];exact thn (hg pins s1 σ H1 x v _ I1 r1 q1) λ_ s2 q=>q
theorem vG {i:Nat} {x:Str} {e:Expr} {te:TE} {pos':Pos} (hN:X.N.Nodup) (hi:X.N[i]?=some x) (hx:Loc X.env.scope x) (he:PE X e te) (hs:swapsWith e (some (.Name x pos')) pos.line X.env=pure false:=by rfl) (hf:X.fn x=true\/X.env.scope.names.lookup x=some .local:=by first | exact .inl rfl | exact .inr rfl | assumption) :
  PS X (.Assign [.Name x pos'] e pos) (r9 te (nh i)):=by
 intro pins s σ H D I h;refine wpAny_Assign_Name (thn (he pins s σ H _ I h) λv s1 ⟨y,H1,I1,r1,q1⟩=>?_) hs
 exact gI I1 hN hi hx r1 (λs2 I2=>⟨_,H1,I2,q1⟩) hf
noncomputable def wB (i:Nat) (te:TE) (ti:TIp):TS:=λD σ H=>∃x,σ[i]?=some (some x)/\te σ H λy H1=>ti x y H1 λz H2=>D.nx (σ.set i (some z)) H2
theorem ui {i:Nat} {x:Str} {e:Expr} {te:TE} {op:Operator} {ti:TIp} {pos':Pos} (hN:X.N.Nodup) (hi:X.N[i]?=some x) (hx:Loc X.env.scope x) (he:PE X e te) (ho:PIp X op ti) (hf:X.fn x=true\/X.env.scope.names.lookup x=some .local:=by first | exact .inl rfl | exact .inr rfl | assumption) :
  PS X (.AugAssign (.Name x pos') op e pos) (wB i te ti):=by
 intro pins s σ H D I h;obtain ⟨v,e1,h⟩:=h;obtain ⟨m,hn,hl⟩:=I.loc;have vis:Vis X.env.scope x:=by rcases hx with k | k;exact .inl k;exact .inr (.inl k)
 obtain ⟨u,r,l⟩:=hl i x v hi e1 vis;refine wpAny_AugAssign_Name ?_;have go:wpAny (model X.prog X.w) X.A (eval e X.env) (λw s₂=>wpAny (model X.prog X.w) X.A (inplaceOp op u w) (λr s₃=>wpAny (model X.prog X.w) X.A (storeName X.env x r) (λ_=>SP X pins D .next) X.xe s₃) X.xe s₂) X.xe s:=by
  refine thn (he pins s σ H _ I h) λw s1 ⟨y,H1,I1,r1,q1⟩=>?_
  refine thn (ho pins s1 σ H1 v y u w _ I1 r r1 q1) λz s2 ⟨zv,H2,I2,r2,q2⟩=>?_
  exact gI I2 hN hi hx r2 (λs3 I3=>⟨_,H2,I3,q2⟩) hf
 rcases l with ⟨hk,hm⟩ | ⟨hk,c,hc,hcell⟩
 ·exact wpAny_loadName_local I.ok.kind hk hn hm go
 ·rcases hk with hk | hk
  ·exact wpAny_loadName_cell I.ok.kind hk hc hcell go
  ·rcases hx with k | k
   ·have:X.env.scope.names.lookup x=some .free:=hk
    rw [k]at this;cases this
   ·have:X.env.scope.names.lookup x=some .free:=hk
    rw [k]at this;cases this
noncomputable def ipI (f:Int->Int->Int):TIp:=λx y H Q=>∃i j,x=.int i/\y=.int j/\Q (.int (f i j)) H
theorem vS:PIp X .Add (ipI λi j=>i+j):=by
 intro pins s σ H x y v u Q I r1 r2 h;obtain ⟨i,j,e1,e2,q⟩:=h;subst e1;subst e2;obtain ⟨t,rfl⟩:=r1;obtain ⟨t',rfl⟩:=r2;exact iadd_int ⟨.int _,H,I.tok _,⟨_,rfl⟩,q⟩
end
section
variable {X:Cx} {pos:Pos}
noncomputable def ql (c:TT) (tb:TS):TS:=λD σ H=>∃W:Nat->St->Hp->Prop,(∃m,W m σ H)/\∀m σ H,W m σ H ->
 c σ H λb H1=>if b=true then ∃N:St->Hp->Prop,(∀σ' H',N σ' H'->∃m',m'<m/\W m' σ' H')/\tb { D with nx:=N,ct:=N,bk:=D.nx } σ H1 else D.nx σ H1
theorem o8 {c:Expr} {body:List Stmt} {tc:TT} {tb:TS} (hp:PassesOwn (model X.prog X.w) X.A X.env X.xe) (hc:PT X c tc) (hb:PSs X body tb):PS X (.While c body [] pos) (ql tc tb):=by
 intro pins s σ H D I h;obtain ⟨W,⟨m0,w0⟩,turn⟩:=h;refine wpAny_While (codeAny_whileLoop (λn s'=>∃σ' H',Inv X pins σ' H' s'/\W n σ' H') ?_ m0 ⟨σ,H,I,w0⟩)
 rintro n s1 ⟨σ1,H1,I1,w1⟩;refine wpAny_passesOwn hp (thn (hc pins s1 σ1 H1 _ I1 (turn n σ1 H1 w1)) λb s2 ⟨H2,I2,q2⟩=>?_)
 cases b with
 |true =>
  obtain ⟨N,hN,q2⟩:=q2;rw [if_pos rfl];refine wpAny_passesOwn hp (thn (hb pins s2 σ1 H2 _ I2 q2) λf s3 q3=>?_)
  cases f with
  |next =>
   obtain ⟨σ3,H3,I3,n3⟩:=q3;obtain ⟨m',hm,w3⟩:=hN σ3 H3 n3;exact ⟨m',hm,σ3,H3,I3,w3⟩
  |cont =>
   obtain ⟨σ3,H3,I3,n3⟩:=q3;obtain ⟨m',hm,w3⟩:=hN σ3 H3 n3;exact ⟨m',hm,σ3,H3,I3,w3⟩
  |brk=>exact q3
  |ret v=>exact q3
 |false =>
  rw [if_neg Zl];exact wpAny_execs_nil ⟨σ1,H2,I2,q2⟩
end
structure It where
 go:Nat->Hp->Prop
 yld:Nat->Hp->V->Hp->Prop
 stop:Nat->Hp->Prop
noncomputable def kS (X:Cx) (pins:List (Addr×Obj)) (H:Hp) (b:Addr):Prop :=
 H b=none/\b≠X.env.locals/\b∉X.fs/\(b∈X.ex\/X.s₀.heap.objs.size<=b)/\(∀x c,X.env.cells.lookup x=some c->c≠b)/\∀p∈X.pn++pins,p.1≠b
theorem Inv.fpOk {X:Cx} {pins:List (Addr×Obj)} {σ:St} {H H':Hp} {s:Shared} {b:Addr} (I:Inv X pins σ H s) (hb:s.heap.objs.size<=b) (hn:H' b=none):kS X pins H' b:=by
 refine ⟨hn,Nat.ne_of_gt (ZG I.lt hb),I.nofs hb,.inr (ZE I.sz hb),λx c e z=>?_,λp hp z=>?_⟩
 ·obtain ⟨v,q⟩:=I.cell x c e
  exact absurd (ZG q.lt (by rw [z];exact hb)) (Nat.lt_irrefl _)
 ·exact absurd (ZG (Heap.lt_size (I.pin p hp).1) (by rw [z];exact hb)) (Nat.lt_irrefl _)
structure Turn (P:Program) (w:World) (K:PySem.W.Frag) (tg:Expr) (J:It) (fp:List Addr) (it:Addr) (tn:Nat->Heap->Prop):Prop where
 mem:it∈fp
 obj:∀i h,tn i h->∀b∈fp,∃o,h.get? b=some o/\∀v,o.data≠.cell v
 keep:∀i h h',tn i h->(∀b∈fp,∀o,h.get? b=some o->h'.get? b=some o)->tn i h'
 item:∀(X:Cx),X.prog=P->X.w=w->X.K=K->X.calm=true->∀(i:Nat) (pins:List (Addr×Obj)) (s:Shared) (σ:St) (H:Hp) (E:Value->Shared->Prop),Inv X pins σ H s->(∀b∈fp,kS X pins H b)->tn i s.heap->J.go i H ->
  wpAny (model P w) X.A (pyNext (.ref it)) (λr s1=>∃u,r=some u /\
   wpAny (model P w) X.A (letOwnedTupleGo tg (.ref it) u) (λ_ s2=>∃x H',Inv X pins σ H' s2/\RelV x u/\J.yld i H x H'/\tn (i+1) s2.heap/\∀b∈fp,H' b=none) E s1) E s
 done:∀(X:Cx),X.prog=P->X.w=w->X.K=K->X.calm=true->∀(i:Nat) (pins:List (Addr×Obj)) (s:Shared) (σ:St) (H:Hp) (E:Value->Shared->Prop),Inv X pins σ H s->(∀b∈fp,kS X pins H b)->tn i s.heap->J.stop i H ->
  wpAny (model P w) X.A (pyNext (.ref it)) (λr s1=>r=none/\Inv X pins σ H s1) E s
 self:∀(A:Around) (i:Nat) (s:Shared) (Q:Value->Shared->Prop) (E:Value->Shared->Prop),tn i s.heap->Q (.ref it) s->wpAny (model P w) A (pyIter (.ref it)) Q E s
noncomputable abbrev TI:=St->Hp->(It->Hp->Prop)->Prop
noncomputable def PIE (X:Cx) (pins:List (Addr×Obj)) (σ:St) (tg:Expr) (R:It->Hp->Prop) (itv:Value) (s2:Shared):Prop :=
 ∃(it:Addr) (fp:List Addr) (tn:Nat->Heap->Prop) (J:It) (H':Hp),itv=.ref it/\Inv X pins σ H' s2/\Turn X.prog X.w X.K tg J fp it tn/\tn 0 s2.heap/\(∀b∈fp,kS X pins H' b)/\R J H'
noncomputable def PI (X:Cx) (tg iter:Expr) (wi:TI):Prop :=
 ∀(pins:List (Addr×Obj)) (s:Shared) (σ:St) (H:Hp) (R:It->Hp->Prop),Inv X pins σ H s->wi σ H R ->
  wpAny (model X.prog X.w) X.A (eval iter X.env) (λv s1=>wpAny (model X.prog X.w) X.A (pyIter v) (PIE X pins σ tg R) X.xe s1) X.xe s
theorem uU {M:Model} {A:Around} {E:Value->Shared->Prop} {s:Shared} {tg:Expr} {it:Addr} {u:Value} {o:Obj} {n:String} {vs:Array Value} {Q:Unit->Shared->Prop} (ho:s.heap.get? it=some o) (hc:o.cls=.type n) (hd:o.data=.fields vs)
    (hn:["enumerate", "zip", "dict_itemiterator", "dict_reverseitemiterator", "odict_iterator", "itertools.zip_longest", "itertools.pairwise"].contains n=false) (hQ:Q () s):wpAny M A (letOwnedTupleGo tg (.ref it) u) Q E s:=by
  unfold letOwnedTupleGo;cases tg <;> first
    |exact wpAny_pure hQ
    | (cases u <;> first
        |exact wpAny_pure hQ
        | (refine wpAny_bind (wpAny_load ho ?_)
           rw [hc,hd];show wpAny M A (if (["enumerate", "zip", "dict_itemiterator", "dict_reverseitemiterator", "odict_iterator", "itertools.zip_longest", "itertools.pairwise"].contains n && vs[0]? == some (rawInt _))=true then _ else _) Q E s
           rw [if_neg (by intro h;rw [hn,Bool.false_and]at h;cases h)]
           exact wpAny_pure hQ))
noncomputable def Itl (K:PySem.W.Frag) (a:Addr):It :=
 ⟨λi H=>∃xs x,SqL K H a xs/\xs[i]?=some x,λi H x H'=>H'=H/\∀xs,SqL K H a xs->xs[i]?=some x,λi H=>∃xs,SqL K H a xs/\xs.length<=i⟩
noncomputable def Itr (lo:Int) (n:Nat):It:=⟨λi _=>i<n,λi H x H'=>H'=H/\x=.int (lo+i),λi _=>n<=i⟩
theorem rX {P:Program} {w:World} {K:PySem.W.Frag} {tg:Expr} (a it:Addr):Turn P w K tg (Itl K a) [it] it (λi h=>h.IsListIter it a i) where
 mem:=by simp
 obj:=λi h st b hb=>by
  have e:b=it:=by simpa using hb
  subst e;obtain ⟨o,e,c,d⟩:=st;exact ⟨o,e,λv z=>by rw [d]at z;cases z⟩
 keep:=λi h h' st k=>st.at λo e=>k it (by simp) o e
 item:=by
  intro X hP hw hK hc i pins s σ H E I hf st hg;subst hP hw hK;obtain ⟨xs,x,hq,hx⟩:=hg;obtain ⟨its,rv,p,hz⟩:=I.list hq;obtain ⟨u,hu,ru⟩:=rv.get hx;obtain ⟨f0,f1,f2,f3,f4,f5⟩:=hf it (by simp)
  refine wpAny_pyNext_list_item st p.isList (x:=u) (by simpa using hu) λh' st' sb=>?_
  have I1:Inv X pins σ H { s with heap:=h' }:=I.turned (t':=s.toks) (λb o hb e=>(sb.2 b hb).trans e) f0 f1 f3 f4 f5
  obtain ⟨o,e,c,d⟩:=id st';exact ⟨u,rfl,uU (s:={ s with heap:=h' }) e c d (by decide) ⟨x,H,I1,ru,⟨rfl,λys hy=>by rw [I.list_inj hy hq];exact hx⟩,st',λb hb=>(hf b hb).1⟩⟩
 done:=by
  intro X hP hw hK hc i pins s σ H E I hf st hg;subst hP hw hK;obtain ⟨xs,hq,hx⟩:=hg;obtain ⟨its,rv,p,hz⟩:=I.list hq;obtain ⟨f0,f1,f2,f3,f4,f5⟩:=hf it (by simp)
  have hl:=rv.length;exact wpAny_pyNext_list_end (I.ok.hd hc) st p.isList (by simp;lia) λh' eb=>⟨rfl,I.turned (t':=s.toks) (λb o hb e=>eb b o hb e) f0 f1 f3 f4 f5⟩
 self:=λ_ _ _ _ _ st h=>wpAny_pyIter_listiter st h
theorem qk {P:Program} {w:World} {K:PySem.W.Frag} {tg:Expr} (it:Addr) (lo:Int) (n:Nat):Turn P w K tg (Itr lo n) [it] it (λi h=>IsRangeIter h it (lo+(i:Nat) * 1) ((n:Int)-(i:Nat)) 1) where
 mem:=by simp
 obj:=λi h st b hb=>by
  have e:b=it:=by simpa using hb
  subst e;exact ⟨_,st,λv z=>by
   have z':Data.fields _=Data.cell v:=z;cases z'⟩
 keep:=λi h h' st k=>k it (by simp) _ st
 item:=by
  intro X hP hw hK hc i pins s σ H E I hf st hg;subst hP hw hK;obtain ⟨f0,f1,f2,f3,f4,f5⟩:=hf it (by simp)
  have W:=Walks.range (prog:=X.prog) (w:=X.w) (I.ok.hd hc) it lo 1 n;refine W.item i s _ _ hg st λv h' tk hv st' kk=>?_
  obtain ⟨t,rfl⟩:=hv;have I1:Inv X pins σ H { s with heap:=h',toks:=tk }:=I.turned (λb o hb e=>kk b o (by simpa using hb) e) f0 f1 f3 f4 f5
  refine ⟨_,rfl,uU (s:={ s with heap:=h',toks:=tk }) (n := "range_iterator") st' rfl rfl (by decide) ⟨.int (lo+i),H,I1,⟨t,?_⟩,⟨rfl,rfl⟩,st',λb hb=>(hf b hb).1⟩⟩
  rw [Int.mul_one]
 done:=by
  intro X hP hw hK hc i pins s σ H E I hf st hg;subst hP hw hK;obtain ⟨f0,f1,f2,f3,f4,f5⟩:=hf it (by simp)
  exact wpAny_pyNext_range_end (I.ok.hd hc) st (by have:n<=i:=hg;lia) λh' eb=>⟨rfl,I.turned (t':=s.toks) (λb o hb e=>eb b o hb e) f0 f1 f3 f4 f5⟩
 self:=λ_ _ _ _ _ st h=>wpAny_pyIter_rangeiter st h
section
variable {X:Cx} {tg:Expr}
noncomputable def x5 (K:PySem.W.Frag) (tl:TE):TI:=fun σ H R=>tl σ H λx H1=>∃a,x=.ref a/\(∃xs,SqL K H1 a xs)/\R (Itl K a) H1
theorem xU {l:Expr} {tl:TE} (hl:PE X l tl):PI X tg l (x5 X.K tl):=by
 intro pins s σ H R I h;refine thn (hl pins s σ H _ I h) λv s1 ⟨x,H1,I1,r1,q1⟩=>?_
 obtain ⟨a,e,⟨xs,hq⟩,q⟩:=q1;subst e;cases r1;obtain ⟨its,rv,p,hz⟩:=I1.list hq;refine wpAny_pyIter_list p.isList ?_;refine ⟨s1.heap.objs.size,[s1.heap.objs.size],_,_,H1,rfl,I1.kept (t':=s1.toks) λb o e=>Heap.get?_push_of_some _ e,rX a _,⟨_,Heap.get?_push_size _ rfl,rfl,rfl⟩,λb hb=>?_,q⟩
 have e:b=s1.heap.objs.size:=by simpa using hb
 subst e;exact I1.fpOk (Zm _) (I1.hok.fresh (Zm _))
theorem ph {pins:List (Addr×Obj)} {σ:St} {H:Hp} {s:Shared} {R:It->Hp->Prop} {E:Value->Shared->Prop} {lo hi:Int} {t u v:Tok} {tk:Nat} (I:Inv X pins σ H s) (h1:-(2 ^ 62)<=lo) (h2:lo<2 ^ 62) (h3:-(2 ^ 62)<=hi) (h4:hi<2 ^ 62)
  (q:R (Itr lo (hi-lo).toNat) H):wpAny (model X.prog X.w) X.A (pyIter (.ref s.heap.objs.size)) (PIE X pins σ tg R) E { s with heap:=s.heap.push { cls:=.type "range",data:=.fields #[.int lo t,.int hi u,.int 1 v] },toks:=tk }:=by
 refine wpAny_pyIter_range (IsRange.new ..) (small_one h1 h2 h3 h4) ?_;have I1:Inv X pins σ H { s with heap:=s.heap.push { cls:=.type "range",data:=.fields #[.int lo t,.int hi u,.int 1 v] },toks:=tk }:=I.kept λb o e=>Heap.get?_push_of_some _ e
 refine ⟨(s.heap.push { cls:=.type "range",data:=.fields #[.int lo t,.int hi u,.int 1 v] }).objs.size,[(s.heap.push { cls:=.type "range",data:=.fields #[.int lo t,.int hi u,.int 1 v] }).objs.size],_,_,H,rfl,
  I1.kept (t':=tk) λb o e=>Heap.get?_push_of_some _ e,qk _ lo (hi-lo).toNat,?_,λb hb=>?_,q⟩
 ·have e1:lo+((0:Nat):Int) * 1=lo:=by simp
  have e2:(((hi-lo).toNat:Nat):Int)-((0:Nat):Int)=Builtin.Range.rangeSize lo hi 1:=by rw [rangeSize_one];split <;> lia
  show IsRangeIter _ _ (lo+((0:Nat):Int) * 1) ((((hi-lo).toNat:Nat):Int)-((0:Nat):Int)) 1
  rw [e1,e2];exact Heap.get?_push_size _ rfl
 ·have e:b=(s.heap.push { cls:=.type "range",data:=.fields #[.int lo t,.int hi u,.int 1 v] }).objs.size:=by simpa using hb
  subst e;exact I1.fpOk (Zm _) (I1.hok.fresh (Zm _))
noncomputable def x_ (ta:TA):TI:=fun σ H R=>ta σ H λvs H1=>∃j:Int,vs=[.int j]/\-(2 ^ 62)<=j/\j<2 ^ 62/\R (Itr 0 j.toNat) H1
noncomputable def yG (ta:TA):TI:=fun σ H R=>ta σ H λvs H1=>∃i j:Int,vs=[.int i,.int j]/\(-(2 ^ 62)<=i/\i<2 ^ 62/\-(2 ^ 62)<=j/\j<2 ^ 62)/\R (Itr i (j-i).toNat) H1
theorem sW {a:Expr} {ta:TA} {p pos:Pos} (hg:Gl X "range") (hm:X.mg "range" = none) (ha:PA X [a] ta) (hs:starEach [a] X.env=[(false,eval a X.env)]:=by rfl):PI X tg (.Call (.Name "range" p) [a] [] pos) (x_ ta):=by
 intro pins s σ H R I h;refine Call_ (kC I hg hm boot_range (PyProof.Rows.callWith_type1 (thn (ha pos pins s σ H _ I h) λus s1 ⟨vs,H1,I1,r1,q1⟩=>?_) hs rfl))
 obtain ⟨j,e,q1,q2,q⟩:=q1;subst e;cases r1 with
 |cons r rr =>
  cases rr;obtain ⟨t,rfl⟩:=r;exact call_range_1 (ph I1 (by lia) (by lia) q1 q2 (by simpa using q))
theorem rZ {a b:Expr} {ta:TA} {p pos:Pos} (hg:Gl X "range") (hm:X.mg "range" = none) (ha:PA X [a,b] ta) (hs:starEach [a,b] X.env=[(false,eval a X.env),(false,eval b X.env)]:=by rfl) (hs2:starEach [b] X.env=[(false,eval b X.env)]:=by rfl) :
  PI X tg (.Call (.Name "range" p) [a,b] [] pos) (yG ta):=by
 intro pins s σ H R I h;refine Call_ (kC I hg hm boot_range (PyProof.Rows.callWith_type1 (thn (ha pos pins s σ H _ I h) λus s1 ⟨vs,H1,I1,r1,q1⟩=>?_) (by rw [hs,hs2]) (by rw [hs2];rfl)))
 obtain ⟨i,j,e,⟨q1,q2,q3,q4⟩,q⟩:=q1;subst e;cases r1 with
 |cons r rr =>
  cases rr with
  |cons r' rr =>
   cases rr;obtain ⟨t,rfl⟩:=r;obtain ⟨t',rfl⟩:=r';exact call_range_2 (ph I1 q1 q2 q3 q4 q)
noncomputable def Dc (wi:TI) (g:TG) (tb:TS):TS:=λD σ H=>wi σ H λJ H1=>∃W:Nat->Nat->St->Hp->Prop,(∃m,W 0 m σ H1)/\∀i m σ H,W i m σ H ->
 (J.stop i H/\D.nx σ H)\/(J.go i H/\∃N:St->Hp->Prop,(∀σ' H',N σ' H'->∃m',m'<m/\W (i+1) m' σ' H')/\∀x H',J.yld i H x H'->g x σ H' fun σ2 H2=>tb { D with nx:=N,ct:=N,bk:=D.nx } σ2 H2)
noncomputable def l7 (fp:List Addr) (h:Heap):List (Addr×Obj):=fp.filterMap λb=>(h.get? b).map λo=>(b,o)
theorem iD {fp:List Addr} {h:Heap} {b:Addr} {o:Obj} (hb:b∈fp) (e:h.get? b=some o):(b,o)∈l7 fp h:=List.mem_filterMap.mpr ⟨b,hb,by rw [e];rfl⟩
theorem r6 {fp:List Addr} {h:Heap} {p:Addr×Obj} (hp:p∈l7 fp h):p.1∈fp/\h.get? p.1=some p.2:=by
 obtain ⟨b,hb,e⟩:=List.mem_filterMap.mp hp;cases q:h.get? b with
 |none=>rw [q]at e;cases e
 |some o =>
  rw [q]at e;have e':(b,o)=p:=Zx e;subst e';exact ⟨hb,q⟩
theorem Inv.pinned {pins:List (Addr×Obj)} {σ:St} {H:Hp} {s:Shared} {fp:List Addr} (I:Inv X pins σ H s) (hf:∀b∈fp,kS X pins H b) (ho:∀b∈fp,∃o,s.heap.get? b=some o/\∀v,o.data≠.cell v):Inv X (pins++l7 fp s.heap) σ H s :=
 I.pins_of λp hp=>(Zr.mp hp).elim (λz=>I.pin p (Zp _ z)) λz=>by
  obtain ⟨hb,e⟩:=r6 z;obtain ⟨f0,f1,f2,_⟩:=hf p.1 hb;obtain ⟨o,e',d⟩:=ho p.1 hb;rw [e]at e';cases e';exact ⟨e,f0,f1,f2,d⟩
theorem Inv.unpinned {pins pl:List (Addr×Obj)} {σ:St} {H:Hp} {s:Shared} (I:Inv X (pins++pl) σ H s):Inv X pins σ H s:=I.pins_of λp hp=>I.pin p (Zp _ (Zv _ hp))
theorem Bv {iter:Expr} {body:List Stmt} {wi:TI} {g:TG} {tb:TS} {pos:Pos} (hp:PassesOwn (model X.prog X.w) X.A X.env X.xe) (hc:X.calm=true) (hi:PI X tg iter wi) (hg:PG X tg g) (hb:PSs X body tb)
  (hs:∀x,foldedSetIterable iter X.env x=pure x:=by intro _;rfl):PS X (.For tg iter body [] pos) (Dc wi g tb):=by
 intro pins s σ H D I h;refine wpAny_For (thn (hi pins s σ H _ I h) λv s1 h1=>thn h1 λitv s2 h2=>?_) hs
 obtain ⟨it,fp,tn,J,H2,e,I2,T,st2,f2,W,⟨m0,w0⟩,turn⟩:=h2;subst e;have stat:∀{H':Hp},(∀b∈fp,H' b=none)->∀b∈fp,kS X pins H' b:=λhn b hb=>⟨hn b hb,(f2 b hb).2⟩
 refine codeAny_forLoop_any (λn s'=>∃i σ' H',Inv X pins σ' H' s'/\tn i s'.heap/\(∀b∈fp,H' b=none)/\W i n σ' H') ?_ m0 ⟨0,σ,H2,I2,st2,λb hb=>(f2 b hb).1,w0⟩
 rintro n s3 ⟨i,σ3,H3,I3,st3,fr3,w3⟩;rcases turn i n σ3 H3 w3 with ⟨stop,qn⟩ | ⟨go,N,hN,step⟩
 ·refine wpAny_passesOwn hp (thn (T.done X rfl rfl rfl hc i pins s3 σ3 H3 X.xe I3 (stat fr3) st3 stop) λr s4 ⟨hr,I4⟩=>?_)
  subst hr;exact wpAny_execs_nil ⟨σ3,H3,I4,qn⟩
 ·refine wpAny_passesOwn hp (thn (T.item X rfl rfl rfl hc i pins s3 σ3 H3 X.xe I3 (stat fr3) st3 go) λr s4 ⟨u,hr,h4⟩=>?_)
  subst hr;refine wpAny_passesOwn hp (thn h4 λ_ s5 ⟨x,H5,I5,r5,y5,st5,fr5⟩=>?_)
  have I5':=I5.pinned (stat fr5) (T.obj _ _ st5);refine wpAny_passesOwn hp (thn (hg _ s5 σ3 H5 x u _ I5' r5 (step x H5 y5)) λ_ s6 ⟨σ6,H6,I6,q6⟩=>?_)
  refine wpAny_passesOwn hp (thn (hb _ s6 σ6 H6 _ I6 q6) λf s7 q7=>?_)
  have again:∀{σ7:St} {H7:Hp},Inv X (pins++l7 fp s5.heap) σ7 H7 s7->N σ7 H7->∃m,m<n/\∃i σ' H',Inv X pins σ' H' s7/\tn i s7.heap/\(∀b∈fp,H' b=none)/\W i m σ' H':=fun {σ7 H7} I7 n7=>by
   obtain ⟨m',hm,w7⟩:=hN σ7 H7 n7;refine ⟨m',hm,i+1,σ7,H7,I7.unpinned,T.keep _ _ _ st5 λb hb o e=>(I7.pin (b,o) (Zp _ (Zp _ (iD hb e)))).1,λb hb=>?_,w7⟩
   obtain ⟨o,e,d⟩:=T.obj _ _ st5 b hb;exact (I7.pin (b,o) (Zp _ (Zp _ (iD hb e)))).2.1
  cases f with
  |next=>obtain ⟨σ7,H7,I7,n7⟩:=q7;exact again I7 n7
  |cont=>obtain ⟨σ7,H7,I7,n7⟩:=q7;exact again I7 n7
  |brk=>obtain ⟨σ7,H7,I7,q7⟩:=q7;exact ⟨σ7,H7,I7.unpinned,q7⟩
  |ret v=>obtain ⟨x7,σ7,H7,I7,r7,q7⟩:=q7;exact ⟨x7,σ7,H7,I7.unpinned,r7,q7⟩
end
noncomputable abbrev R2:=V->V->Hp->VK->Prop
noncomputable def OpR (X:Cx) (f:Value->Value->Sem Value) (r:R2):Prop :=
 ∀(pins:List (Addr×Obj)) (s:Shared) (σ:St) (H:Hp) (x y:V) (v u:Value) (Q:VK),Inv X pins σ H s->RelV x v->RelV y u->r x y H Q ->
  wpAny (model X.prog X.w) X.A (f v u) (EP X pins σ Q) X.xe s
noncomputable def UnR (X:Cx) (f:Value->Sem Value) (r:V->Hp->VK->Prop):Prop :=
 ∀(pins:List (Addr×Obj)) (s:Shared) (σ:St) (H:Hp) (x:V) (v:Value) (Q:VK),Inv X pins σ H s->RelV x v->r x H Q ->
  wpAny (model X.prog X.w) X.A (f v) (EP X pins σ Q) X.xe s
noncomputable def dW (X:Cx) (f:Value) (r:List V->Hp->VK->Prop):Prop :=
 ∀(pins:List (Addr×Obj)) (s:Shared) (σ:St) (H:Hp) (xs:List V) (us:List Value) (Q:VK),Inv X pins σ H s->Vals xs us->r xs H Q ->
  wpAny (model X.prog X.w) X.A (call f us) (EP X pins σ Q) X.xe s
noncomputable def tOp (r:R2) (ta tb:TE):TE:=fun σ H Q=>ta σ H λx H1=>tb σ H1 λy H2=>r x y H2 Q
noncomputable def tUn (r:V->Hp->VK->Prop) (ta:TE):TE:=fun σ H Q=>ta σ H λx H1=>r x H1 Q
noncomputable def rI (C:Int->Int->Prop) (g:Int->Int->V):R2:=λx y H Q=>∃i j,x=.int i/\y=.int j/\C i j/\Q (g i j) H
noncomputable def rI0 (g:Int->Int->V):R2:=λx y H Q=>∃i j,x=.int i/\y=.int j/\Q (g i j) H
noncomputable def rU (g:Int->V):V->Hp->VK->Prop:=λx H Q=>∃i,x=.int i/\Q (g i) H
section
variable {X:Cx} {a b c:Expr} {ta tb tc:TE} {pos:Pos}
theorem zH (ha:PE X a ta) (hb:PE X b tb) {pins:List (Addr×Obj)} {s:Shared} {σ:St} {H:Hp} {R:V->V->Hp->Prop} (I:Inv X pins σ H s)
  (h:ta σ H λx H1=>tb σ H1 λy H2=>R x y H2) {Q:Value->Shared->Prop} {f:Value->Value->Sem Value}
  (hf:∀v u s2 x y H2,Inv X pins σ H2 s2->RelV x v->RelV y u->R x y H2->wpAny (model X.prog X.w) X.A (f v u) Q X.xe s2) :
  wpAny (model X.prog X.w) X.A (eval a X.env) (λv s₁=>wpAny (model X.prog X.w) X.A (eval b X.env) (λu s₂=>wpAny (model X.prog X.w) X.A (f v u) Q X.xe s₂) X.xe s₁) X.xe s:=by
 refine thn (ha pins s σ H _ I h) λv s1 ⟨x,H1,I1,r1,q1⟩=>?_
 refine thn (hb pins s1 σ H1 _ I1 q1) λu s2 ⟨y,H2,I2,r2,q2⟩=>?_
 exact hf v u s2 x y H2 I2 r1 r2 q2
theorem uj {op:Operator} {r:R2} (ho:OpR X (binaryOp op) r) (ha:PE X a ta) (hb:PE X b tb):PE X (.BinOp a op b pos) (tOp r ta tb):=by
 intro pins s σ H Q I h;exact wpAny_BinOp (zH ha hb I h λv u s2 x y H2 I2 rx ry q=>ho pins s2 σ H2 x y v u Q I2 rx ry q)
theorem DL {op:UnaryOp} {r:V->Hp->VK->Prop} (ho:UnR X (unaryOp op) r) (ha:PE X a ta):PE X (.UnaryOp op a pos) (tUn r ta):=by
 intro pins s σ H Q I h;exact UnaryOp_ (thn (ha pins s σ H _ I h) λv s1 ⟨x,H1,I1,r1,q1⟩=>ho pins s1 σ H1 x v Q I1 r1 q1)
theorem opI {f:Value->Value->Sem Value} {C:Int->Int->Prop} {g:Int->Int->Int}
  (rule:∀(i j:Int) (t u:Tok) (s:Shared) (Q:Value->Shared->Prop) (E:Value->Shared->Prop),C i j->Q (.int (g i j) s.toks) { s with toks:=s.toks+1 }->wpAny (model X.prog X.w) X.A (f (.int i t) (.int j u)) Q E s) :
  OpR X f (rI C λi j=>.int (g i j)):=by
 intro pins s σ H x y v u Q I rx ry h;obtain ⟨i,j,rfl,rfl,hc,q⟩:=h;obtain ⟨t,rfl⟩:=rx;obtain ⟨t',rfl⟩:=ry;exact rule i j t t' s _ _ hc ⟨.int (g i j),H,I.tok _,⟨_,rfl⟩,q⟩
theorem DN {f:Value->Value->Sem Value} {g:Int->Int->Int}
  (rule:∀(i j:Int) (t u:Tok) (s:Shared) (Q:Value->Shared->Prop) (E:Value->Shared->Prop),Q (.int (g i j) s.toks) { s with toks:=s.toks+1 }->wpAny (model X.prog X.w) X.A (f (.int i t) (.int j u)) Q E s) :
  OpR X f (rI0 λi j=>.int (g i j)):=by
 intro pins s σ H x y v u Q I rx ry h;obtain ⟨i,j,rfl,rfl,q⟩:=h;obtain ⟨t,rfl⟩:=rx;obtain ⟨t',rfl⟩:=ry;exact rule i j t t' s _ _ ⟨.int (g i j),H,I.tok _,⟨_,rfl⟩,q⟩
theorem AZ {f:Value->Value->Sem Value} {g:Int->Int->Bool}
  (rule:∀(i j:Int) (t u:Tok) (s:Shared) (Q:Value->Shared->Prop) (E:Value->Shared->Prop),Q (.bool (g i j)) s->wpAny (model X.prog X.w) X.A (f (.int i t) (.int j u)) Q E s) :
  OpR X f (rI0 λi j=>.bl (g i j)):=by
 intro pins s σ H x y v u Q I rx ry h;obtain ⟨i,j,rfl,rfl,q⟩:=h;obtain ⟨t,rfl⟩:=rx;obtain ⟨t',rfl⟩:=ry;exact rule i j t t' s _ _ ⟨.bl (g i j),H,I,rfl,q⟩
noncomputable def EC (i j:Int):Prop:=0<j/\j<1073741824
noncomputable def uh (i j:Int):Prop:=(-(2 ^ 64)<i/\i<2 ^ 64)\/(-(2 ^ 64)<j/\j<2 ^ 64)
theorem uh.ok {i j:Int} (h:uh i j):IntMulOk i j:=by
 rcases h with ⟨h1,h2⟩ | ⟨h1,h2⟩
 ·exact .of_left (intBits_le_64 h1 h2)
 ·exact .of_right (intBits_le_64 h1 h2)
theorem uQ:OpR X (binaryOp .Add) (rI0 λi j=>.int (i+j)):=DN λ_ _ _ _ _ _ _ q=>add_int q
theorem gQ:OpR X (binaryOp .Sub) (rI0 λi j=>.int (i-j)):=DN λ_ _ _ _ _ _ _ q=>sub_int q
theorem ur:OpR X (binaryOp .Mult) (rI uh λi j=>.int (i * j)):=opI λ_ _ _ _ _ _ _ hc q=>mul_int q hc.ok
theorem cw:OpR X (binaryOp .FloorDiv) (rI EC λi j=>.int (i / j)):=opI λi j _ _ _ _ _ hc q=>by
 have h1:(0:Int)<j:=hc.1;have h2:j<1073741824:=hc.2;exact floordiv_int (by lia) (by rw [Int.fdiv_eq_ediv_of_nonneg i (by lia)];exact q) (.inl (PyProof.noPylong_small (by lia)))
theorem bJ:OpR X (binaryOp .Mod) (rI (λ_ j=>0<j) λi j=>.int (i % j)):=opI λi j _ _ _ _ _ hc q=>by
 have h1:(0:Int)<j:=hc;exact mod_int' (by lia) (by rw [Int.fmod_eq_emod_of_nonneg i (by lia)];exact q)
theorem unI {f:Value->Sem Value} {g:Int->Int}
  (rule:∀(i:Int) (t:Tok) (s:Shared) (Q:Value->Shared->Prop) (E:Value->Shared->Prop),Q (.int (g i) s.toks) { s with toks:=s.toks+1 }->wpAny (model X.prog X.w) X.A (f (.int i t)) Q E s) :
  UnR X f (rU λi=>.int (g i)):=by
 intro pins s σ H x v Q I rx h;obtain ⟨i,rfl,q⟩:=h;obtain ⟨t,rfl⟩:=rx;exact rule i t s _ _ ⟨.int (g i),H,I.tok _,⟨_,rfl⟩,q⟩
theorem fL:UnR X (unaryOp .USub) (rU λi=>.int (-i)):=unI λ_ _ _ _ _ q=>neg_int q
end
noncomputable def AU:V->V->Bool
 |.non,.non=>true | .non,.int _=>true | .int _,.non=>true | .non,.bl _=>true | .bl _,.non=>true | .non,.str _=>true | .str _,.non=>true
 |.int _,.int _=>true | .bl _,.bl _=>true | .str _,.str _=>true | .byt _,.byt _=>true
 |.int _,.str _=>true | .str _,.int _=>true | .bl _,.str _=>true | .str _,.bl _=>true
 |_,_=>false
noncomputable def rEq:R2:=λx y H Q=>AU x y=true/\Q (.bl (decide (x=y))) H
noncomputable def rNe:R2:=λx y H Q=>AU x y=true/\Q (.bl (!decide (x=y))) H
theorem qA {i j:Int}:decide (V.int i=V.int j)=(i == j):=by
 rw [Bool.eq_iff_iff];simp
theorem tW {i j:Bool}:decide (V.bl i=V.bl j)=(i == j):=by
 rw [Bool.eq_iff_iff];simp
theorem qZ {i j:Str}:decide (V.str i=V.str j)=(i == j):=by
 rw [Bool.eq_iff_iff];simp
theorem qW {i j:Array UInt8}:decide (V.byt i=V.byt j)=(i.toList == j.toList):=by
 rw [Bool.eq_iff_iff];cases i;cases j;simp
section
variable {X:Cx} {a b c:Expr} {ta tb tc:TE} {pos:Pos}
theorem bu {pins:List (Addr×Obj)} {σ:St} {H:Hp} {s:Shared} {Q:VK} {k k':Bool} (I:Inv X pins σ H s) (q:Q (.bl k) H) (e:k=k'):EP X pins σ Q (.bool k') s:=by
 subst e;exact ⟨.bl k,H,I,rfl,q⟩
theorem Dj:OpR X (compareOp .Eq) rEq:=by
 intro pins s σ H x y v u Q I rx ry h;obtain ⟨hs,q⟩:=h;cases x with
 |non =>
  cases rx;cases y with
  |non=>cases ry;exact PySem.EqNone.eq_none_none (bu I q (by simp))
  |bl j=>cases ry;exact PySem.EqNone.eq_none_bool (bu I q (by simp))
  |int j=>obtain ⟨t',rfl⟩:=ry;exact PySem.EqNone.eq_none_int (bu I q (by simp))
  |str j=>obtain ⟨t',rfl⟩:=ry;exact PySem.EqNone.eq_none_str (bu I q (by simp))
  |_=>exact absurd (show false=true from hs) Zl
 |bl i =>
  cases rx;cases y with
  |non=>cases ry;exact PySem.EqNone.eq_bool_none (bu I q (by simp))
  |bl j=>cases ry;exact eq_bool (bu I q tW)
  |str j=>obtain ⟨t',rfl⟩:=ry;exact PySem.EqMixed.eq_bool_str (bu I q (by simp))
  |_=>exact absurd (show false=true from hs) Zl
 |int i =>
  obtain ⟨t,rfl⟩:=rx;cases y with
  |non=>cases ry;exact PySem.EqNone.eq_int_none (bu I q (by simp))
  |int j=>obtain ⟨t',rfl⟩:=ry;exact eq_int (bu I q qA)
  |str j=>obtain ⟨t',rfl⟩:=ry;exact PySem.EqMixed.eq_int_str (bu I q (by simp))
  |_=>exact absurd (show false=true from hs) Zl
 |str i =>
  obtain ⟨t,rfl⟩:=rx;cases y with
  |non=>cases ry;exact PySem.EqNone.eq_str_none (bu I q (by simp))
  |bl j=>cases ry;exact PySem.EqMixed.eq_str_bool (bu I q (by simp))
  |int j=>obtain ⟨t',rfl⟩:=ry;exact PySem.EqMixed.eq_str_int (bu I q (by simp))
  |str j=>obtain ⟨t',rfl⟩:=ry;exact eq_str (bu I q qZ)
  |_=>exact absurd (show false=true from hs) Zl
 |byt i =>
  obtain ⟨t,rfl⟩:=rx;cases y with
  |byt j=>obtain ⟨t',rfl⟩:=ry;exact PySem.W.eq_bytes (bu I q qW)
  |_=>exact absurd (show false=true from hs) Zl
 |_=>cases y <;> exact absurd (show false=true from hs) Zl
theorem Dw:OpR X (compareOp .NotEq) rNe:=by
 intro pins s σ H x y v u Q I rx ry h;obtain ⟨hs,q⟩:=h;cases x with
 |non =>
  cases rx;cases y with
  |non=>cases ry;exact PySem.EqNone.ne_none_none (bu I q (by simp))
  |bl j=>cases ry;exact PySem.EqNone.ne_none_bool (bu I q (by simp))
  |int j=>obtain ⟨t',rfl⟩:=ry;exact PySem.EqNone.ne_none_int (bu I q (by simp))
  |str j=>obtain ⟨t',rfl⟩:=ry;exact PySem.EqNone.ne_none_str (bu I q (by simp))
  |_=>exact absurd (show false=true from hs) Zl
 |bl i =>
  cases rx;cases y with
  |non=>cases ry;exact PySem.EqNone.ne_bool_none (bu I q (by simp))
  |bl j=>cases ry;exact ne_bool (bu I q (congrArg not tW))
  |str j=>obtain ⟨t',rfl⟩:=ry;exact PySem.EqMixed.ne_bool_str (bu I q (by simp))
  |_=>exact absurd (show false=true from hs) Zl
 |int i =>
  obtain ⟨t,rfl⟩:=rx;cases y with
  |non=>cases ry;exact PySem.EqNone.ne_int_none (bu I q (by simp))
  |int j=>obtain ⟨t',rfl⟩:=ry;exact ne_int (bu I q (congrArg not qA))
  |str j=>obtain ⟨t',rfl⟩:=ry;exact PySem.EqMixed.ne_int_str (bu I q (by simp))
  |_=>exact absurd (show false=true from hs) Zl
 |str i =>
  obtain ⟨t,rfl⟩:=rx;cases y with
  |non=>cases ry;exact PySem.EqNone.ne_str_none (bu I q (by simp))
  |bl j=>cases ry;exact PySem.EqMixed.ne_str_bool (bu I q (by simp))
  |int j=>obtain ⟨t',rfl⟩:=ry;exact PySem.EqMixed.ne_str_int (bu I q (by simp))
  |str j=>obtain ⟨t',rfl⟩:=ry;exact ne_str (bu I q (congrArg not qZ))
  |_=>exact absurd (show false=true from hs) Zl
 |byt i =>
  obtain ⟨t,rfl⟩:=rx;cases y with
  |byt j=>obtain ⟨t',rfl⟩:=ry;exact PySem.W.ne_bytes (bu I q (congrArg not qW))
  |_=>exact absurd (show false=true from hs) Zl
 |_=>cases y <;> exact absurd (show false=true from hs) Zl
theorem iV:OpR X (compareOp .Lt) (rI0 λi j=>.bl (decide (i<j))):=AZ λ_ _ _ _ _ _ _ q=>lt_int q
theorem b4:OpR X (compareOp .Gt) (rI0 λi j=>.bl (decide (j<i))):=AZ λ_ _ _ _ _ _ _ q=>gt_int q
theorem CK:OpR X (compareOp .GtE) (rI0 λi j=>.bl (decide (j<=i))):=AZ λ_ _ _ _ _ _ _ q=>ge_int q
theorem sJ:OpR X (compareOp .In) (λx y H Q=>∃i j,x=.str i/\y=.str j/\Q (.bl (!(Builtin.Str.occurrences j i 0 j.length 1).isEmpty)) H):=by
 intro pins s σ H x y v u Q I rx ry h;obtain ⟨i,j,rfl,rfl,q⟩:=h;obtain ⟨t,rfl⟩:=rx;obtain ⟨t',rfl⟩:=ry;exact in_str (bu I q rfl)
noncomputable def isObj:HO->Bool
 |.lst _=>true
 |.ins _ _ _=>true
 |_=>false
theorem nB {pins:List (Addr×Obj)} {s:Shared} {σ:St} {H:Hp} {a:Addr} {o:HO} (I:Inv X pins σ H s) (h:H a=some o) (p:isObj o=true):∃ob,s.heap.get? a=some ob/\ob.cls≠.type "tuple" := by
 cases o with
 |lst xs =>
  obtain ⟨_,its,n,_,e⟩:xs.length<=sizeLine/\∃(its:List Value) (n:Nat),Vals xs its/\s.heap.get? a=some { cls:=.type "list",data:=.seq its.toArray n }:=I.hok a _ h;exact ⟨_,e,(by show Value.type "list" ≠ .type "tuple";decide +kernel)⟩
 |ins C dx fs =>
  have x:=I.hok a _ h;obtain ⟨_,_,_,e,_⟩:=x;exact ⟨_,e,(by show Value.ref C≠.type "tuple";exact λz=>by cases z)⟩
 |_=>exact absurd (show false=true from p) Zl
theorem OpR.or {f:Value->Value->Sem Value} {r r':R2} (h:OpR X f r) (h':OpR X f r'):OpR X f (λx y H Q=>r x y H Q\/r' x y H Q):=by
 intro pins s σ H x y v u Q I rx ry q;rcases q with q | q
 ·exact h pins s σ H x y v u Q I rx ry q
 ·exact h' pins s σ H x y v u Q I rx ry q
theorem ay (b:Expr) {op:CmpOp} (h:op≠.In:=by decide) (h2:op≠.NotIn:=by decide):behindInMarks op b=false:=by
 have e1:(op == CmpOp.In)=false:=by cases op <;> first | rfl | exact absurd rfl h
 have e2:(op == CmpOp.NotIn)=false:=by cases op <;> first | rfl | exact absurd rfl h2
 cases b <;> simp [behindInMarks,e1,e2]
theorem wA {op:CmpOp} {r:R2} (ho:OpR X (compareOp op) r) (ha:PE X a ta) (hb:PE X b tb) (hm:behindInMarks op b=false):PE X (.Compare a [op] [b] pos) (tOp r ta tb):=by
 intro pins s σ H Q I h;exact wpAny_Compare1 (zH ha hb I h λv u s2 x y H2 I2 rx ry q=>ho pins s2 σ H2 x y v u Q I2 rx ry q) hm
noncomputable def yl (t:TE):TT:=fun σ H Q=>t σ H λx H'=>∃k,x=.bl k/\Q k H'
theorem xu {op:CmpOp} {r:R2} (ho:OpR X (compareOp op) r) (ha:PE X a ta) (hb:PE X b tb) (hm:behindInMarks op b=false):PT X (.Compare a [op] [b] pos) (yl (tOp r ta tb)):=by
 intro pins s σ H Q I h;refine wpAny_isTrue_Compare1 (thn (ha pins s σ H _ I h) λv s1 ⟨x,H1,I1,r1,q1⟩=>thn (hb pins s1 σ H1 _ I1 q1) λu s2 ⟨y,H2,I2,r2,q2⟩ =>
  thn (ho pins s2 σ H2 x y v u _ I2 r1 r2 q2) λc s3 ⟨z,H3,I3,r3,k,e,q3⟩=>?_) hm
 subst e;cases r3;exact wpAny_truthy_bool ⟨H3,I3,q3⟩
theorem l_:(sizeLine:Nat)<2 ^ 63:=by rw [sizeLine_eq];decide
theorem qt:OpR X (binaryOp .Add) (λx y H Q=>∃i j,x=.str i/\y=.str j/\i.length+j.length<=sizeLine/\Q (.str (i++j)) H):=by
 intro pins s σ H x y v u Q I rx ry h;obtain ⟨i,j,rfl,rfl,hz,q⟩:=h;obtain ⟨t,rfl⟩:=rx;obtain ⟨t',rfl⟩:=ry;exact add_str (λt' tk=>⟨.str (i++j),H,I.tok _,⟨_,rfl⟩,q⟩) hz
theorem vals1 {x:V} {us:List Value} (r:Vals [x] us):∃u,us=[u]/\RelV x u:=by
 cases r with
 |cons r1 r2=>cases r2;exact ⟨_,rfl,r1⟩
theorem vals2 {x y:V} {us:List Value} (r:Vals [x,y] us):∃u w',us=[u,w']/\RelV x u/\RelV y w':=by
 cases r with
 |cons r1 r2 =>
  cases r2 with
  |cons r3 r4=>cases r4;exact ⟨_,_,rfl,r1,r3⟩
theorem nI (hc:X.calm=true):dW X (.builtin "max") (λxs H Q=>∃i j,xs=[.int i,.int j]/\Q (.int (if j > i then j else i)) H):=by
 intro pins s σ H xs us Q I r h;obtain ⟨i,j,rfl,q⟩:=h;obtain ⟨u,w',rfl,⟨t,rfl⟩,⟨t',rfl⟩⟩:=vals2 r;refine max_two_ints (I.ok.hd hc) λh' tk k=>⟨_,H,I.kept k,?_,q⟩
 by_cases hj:j > i
 ·rw [if_pos hj,if_pos hj];exact ⟨_,rfl⟩
 ·rw [if_neg hj,if_neg hj];exact ⟨_,rfl⟩
theorem nH (hc:X.calm=true):dW X (.builtin "min") (λxs H Q=>∃i j,xs=[.int i,.int j]/\Q (.int (if j<i then j else i)) H):=by
 intro pins s σ H xs us Q I r h;obtain ⟨i,j,rfl,q⟩:=h;obtain ⟨u,w',rfl,⟨t,rfl⟩,⟨t',rfl⟩⟩:=vals2 r;refine min_two_ints (I.ok.hd hc) λh' tk k=>⟨_,H,I.kept k,?_,q⟩
 by_cases hj:j<i
 ·rw [if_pos hj,if_pos hj];exact ⟨_,rfl⟩
 ·rw [if_neg hj,if_neg hj];exact ⟨_,rfl⟩
theorem jq:dW X (.type "int") (λxs H Q=>(∃i,xs=[.int i]/\Q (.int i) H)\/∃k,xs=[.bl k]/\Q (.int (if k then 1 else 0)) H):=by
 intro pins s σ H xs us Q I r h;rcases h with ⟨i,rfl,q⟩ | ⟨k,rfl,q⟩
 ·obtain ⟨u,rfl,t,rfl⟩:=vals1 r
  exact call_int_int ⟨.int i,H,I,⟨_,rfl⟩,q⟩
 ·obtain ⟨u,rfl,r1⟩:=vals1 r
  cases r1;exact call_int_bool ⟨.int (if k then 1 else 0),H,I.tok _,⟨_,rfl⟩,q⟩
end
structure ObjM (h:Heap) (x dx C:Addr) (mA:Str->Option Value):Prop where
 obj:h.get? x=some (PySem.W.instObj C dx)
 ns:h.Ns1 dx mA
 ne:dx≠x
section
variable {prog:Program} {w:World} {A:Around} {E:Value->Shared->Prop} {s:Shared} {K:PySem.W.Frag} {x dx C f:Addr} {mA:Str->Option Value} {name:Str} {v:Value}
end
section
variable {P:Program} {w:World} {H H':Hp} {h h':Heap} {a C dx:Addr} {fs fs':List (Str×V)}
end
structure Cls (K:PySem.W.Frag) (C:Addr):Prop where
 pg:PySem.W.plainGet K C Str.empty=true
 hd:PySem.W.hasDictIn K C=true
 po:PySem.W.plainOver K C=true
 sa:PySem.W.findIn K (.ref C) "__setattr__" = some (some (.builtin "object.__setattr__"))
structure Con (K:PySem.W.Frag) (C:Addr) (f:Str) (v:V) (u:Value):Prop where
 at_:PySem.W.findIn K (.ref C) f=some (some u)
 rel:RelV v u
 get:PySem.W.specialIn K u "__get__" = some none
 cp:PySem.W.copiedNames.contains f=false
structure Meth (K:PySem.W.Frag) (C:Addr) (m:Str) (f:Addr):Prop where
 at_:PySem.W.findIn K (.ref C) m=some (some (.ref f))
 fn:PySem.W.isFn K (.ref f)=true
 kp:PySem.W.keepIn K (.ref f)=true
section
variable {X:Cx} {pins:List (Addr×Obj)} {σ:St} {H:Hp} {s:Shared} {a C dx:Addr} {fs:List (Str×V)} {f:Str} {v:V} {A:Around} {E:Value->Shared->Prop}
end
section
variable {X:Cx} {o e value:Expr} {f:Str} {pos pos' tpos:Pos} {ta tv:TE}
end
section
variable {X:Cx} {pins:List (Addr×Obj)} {σ:St} {H:Hp} {s:Shared} {A:Around} {E:Value->Shared->Prop} {Q:Value->Shared->Prop} {c:Value} {b:Bool}
inductive TyOf (K:PySem.W.Frag) (H:Hp):V->Value->Prop where
 |non:TyOf K H .non (.type "NoneType")
 |bl (x:Bool):TyOf K H (.bl x) (.type "bool")
 |int (i:Int):TyOf K H (.int i) (.type "int")
 |str (x:Str):TyOf K H (.str x) (.type "str")
 |flt (x:UInt64):TyOf K H (.flt x) (.type "float")
 |lst {a:Addr} {xs:List V} (e:H a=some (.lst xs)):TyOf K H (.ref a) (.type "list")
 |frz {a:Addr} {o:Obj} {xs:List V} (e:H a=some (.frz o (.lst xs))):TyOf K H (.ref a) (.type "list")
 |tup {a:Addr} {xs:List V} (e:H a=some (.tup xs)):TyOf K H (.ref a) (.type "tuple")
 |dK {a:Addr} {kvs:List (Key×V)} (e:H a=some (.dK kvs)):TyOf K H (.ref a) (.type "dict")
 |dT {a:Addr} {kvs:List (List Key×V)} (e:H a=some (.dT kvs)):TyOf K H (.ref a) (.type "dict")
 |ins {a C dx:Addr} {fs:List (Str×V)} (e:H a=some (.ins C dx fs)) (cl:Cls K C) (ha:PySem.W.findIn K (.ref C) "__class__" = some (some (.builtin "object.__class__")))
   (hn:PySem.W.specialIn K (.builtin "object.__class__") "__get__" = some (some (.builtin "getset_descriptor.__get__"))) (htk:PySem.W.takesIn K (.builtin "object.__class__")=some true)
   (hm:PySem.W.mroIn K C (.type "object")=some true):TyOf K H (.ref a) (.ref C)
end
structure Room (k:Nat) (A:Around):Prop where
 hd:A.handled=none
 dp:A.depth+3 * k+5<recursionLimit
 un:A.units+16 * k+200<cLine
theorem Room.mono {j k:Nat} {A:Around} (r:Room k A) (h:j<=k):Room j A:=⟨r.hd,by have:=r.dp;lia,by have:=r.un;lia⟩
theorem Room.deeper {k:Nat} {A:Around} (r:Room (k+1) A) (env:Env):Room k (A.deeper env) :=
 ⟨r.hd,by have:=r.dp;show A.depth+1+3 * k+5<_;lia,by have:=r.un;show A.units+3+16 * k+200<_;lia⟩
theorem Room.depth {k:Nat} {A:Around} (r:Room k A):A.depth<recursionLimit:=by have:=r.dp;lia
theorem Room.units {k:Nat} {A:Around} (r:Room k A):A.units+64<cLine:=by have:=r.un;lia
noncomputable def qs:TA:=λ_ H Q=>Q [] H
noncomputable def iM (ta:TE) (tr:TA):TA:=fun σ H Q=>ta σ H λx H1=>tr σ H1 λxs H2=>Q (x :: xs) H2
section
variable {X:Cx} {e:Expr} {es:List Expr} {te:TE} {t:TA} {pos:Pos}
theorem c_:PA X [] qs:=λ_ _ _ _ H Q I h=>Calls.spliced_nil ⟨[],H,I,.nil,h⟩
theorem bc (ha:PE X e te) (hr:PA X es t) (hs:starEach (e :: es) X.env=(false,eval e X.env) :: starEach es X.env:=by rfl):PA X (e :: es) (iM te t):=by
 intro pos pins s σ H Q I h;rw [hs];show wpAny _ _ (spliced ((false,eval e X.env) :: backTo pos (starEach es X.env))) _ _ s
 refine Calls.spliced_cons (thn (ha pins s σ H _ I h) λu s1 ⟨x,H1,I1,r1,q1⟩=>?_)
 exact thn (hr pos pins s1 σ H1 _ I1 q1) λus s2 ⟨xs,H2,I2,r2,q2⟩=>⟨x :: xs,H2,I2,.cons r1 r2,q2⟩
noncomputable def CT (t:TA):TE:=fun σ H Q=>t σ H λxs H1=>xs.length<=sizeLine/\∀p,H1 p=none->Q (.ref p) (upd H1 p (.tup xs))
noncomputable def DU (t:TA):TE:=fun σ H Q=>t σ H λxs H1=>xs.length<=sizeLine/\∀p,H1 p=none->Q (.ref p) (upd H1 p (.lst xs))
theorem mz {x1} (h:PA X es t):PE X (.Tuple es x1 pos) (CT t):=by
 intro pins s σ H Q I hq;refine wpAny_Tuple_spliced (thn (h pos pins s σ H _ I hq) λus s1 ⟨xs,H1,I1,r,z,q⟩=>⟨by rw [<-r.length];exact z,?_⟩)
 have hf:H1 s1.heap.objs.size=none:=I1.hok.fresh (Zm _);refine ⟨.ref s1.heap.objs.size,upd H1 s1.heap.objs.size (.tup xs),I1.laid (t':=s1.toks) (λb u e=>Heap.get?_push_of_some _ e) (Zm _) ?_,rfl,q _ hf⟩
 exact ⟨z,us,r,⟨_,Heap.get?_push_size _ rfl,rfl,_,rfl⟩⟩
theorem Ap (h:PA X es t):PE X (.List es pos) (DU t):=by
 intro pins s σ H Q I hq;refine wpAny_List_spliced (thn (h pos pins s σ H _ I hq) λus s1 ⟨xs,H1,I1,r,z,q⟩=>⟨by rw [<-r.length];exact z,?_⟩)
 have hf:H1 s1.heap.objs.size=none:=I1.hok.fresh (Zm _);refine ⟨.ref s1.heap.objs.size,upd H1 s1.heap.objs.size (.lst xs),I1.laid (t':=s1.toks) (λb u e=>Heap.get?_push_of_some _ e) (Zm _) ?_,rfl,q _ hf⟩
 exact ⟨z,us,0,r,Heap.get?_push_size _ rfl⟩
end
noncomputable abbrev Sp:=List V->Hp->VK->XK->Prop
noncomputable abbrev CXT:=List Env->Hp->Shared->XK->Value->Shared->Prop
structure Env0 (P:Program) (w:World) (K:PySem.W.Frag) (mg:Str->Option Value) (base:Heap) (A:Around) (outer:List Env) (s:Shared) (H:Hp):Prop where
 frames:A.frames=some outer
 mod:Mod K mg base
 bs:∀b o,base.get? b=some o->s.heap.get? b=some o/\H b=none
 bsz:base.objs.size<=s.heap.objs.size
 funs:s.heap.FunFrames base outer
 frf:∀b∈frs outer,H b=none
 hok:HOk P w H s.heap
 bare:AllBare s.gens
noncomputable def CE (outer:List Env) (P:Program) (w:World) (H:Hp) (s:Shared) (Q:VK) (u:Value) (s':Shared):Prop :=
 ∃v H',s'.os=s.os/\AllBare s'.gens/\Un (frs outer) [] H H' s.heap s'.heap/\HOk P w H' s'.heap/\RelV v u/\Q v H'
noncomputable def CR (CX:CXT) (outer:List Env) (P:Program) (w:World) (H:Hp) (s:Shared) (Q:VK) (E:XK) (r:Result) (s':Shared):Prop :=
 match r with
 |.ok (.ret u)=>CE outer P w H s Q u s'
 |.ok _=>False
 |.error e=>CX outer H s E e s'
structure FnOk (P:Program) (w:World) (K:PySem.W.Frag) (mg:Str->Option Value) (base:Heap) (CX:CXT) (k:Nat) (f:Addr) (fd:FuncData) (ps:List Str) (sp:Sp):Prop where
 len:∀vs H Q E,sp vs H Q E->vs.length=ps.length
 run:∀(A:Around) (outer:List Env) (s:Shared) (H:Hp) (args:Args) (us:List Value) (vs:List V) (Q:VK) (E:XK),Room k A->Env0 P w K mg base A outer s H->BindsTo s fd args (ps.zip us)->Vals vs us->sp vs H Q E ->
  codeAny (model P w) A (.call (.ref f) args) (CR CX outer P w H s Q E) s
theorem FnOk.imp {P:Program} {w:World} {K:PySem.W.Frag} {mg:Str->Option Value} {base:Heap} {CX:CXT} {k:Nat} {f:Addr} {fd:FuncData} {ps:List Str} {sp sp':Sp} (F:FnOk P w K mg base CX k f fd ps sp)
  (h:∀vs H Q E,sp' vs H Q E->sp vs H Q E):FnOk P w K mg base CX k f fd ps sp' :=
 ⟨λvs H Q E q=>F.len vs H Q E (h _ _ _ _ q),λA outer s H args us vs Q E hr he hb hv hs=>F.run A outer s H args us vs Q E hr he hb hv (h _ _ _ _ hs)⟩
section
variable {X:Cx} {pins:List (Addr×Obj)} {σ:St} {H:Hp} {s s':Shared}
theorem Inv.kg (I:Inv X pins σ H s):Env0 X.prog X.w X.K X.mg X.base X.A X.stack s H :=
 ⟨I.ok.frames,I.ok.mod,I.bs,ZE I.ok.bsz I.sz,I.stack,I.stkFree,I.hok,I.bare⟩
theorem Inv.after {Q:VK} {u:Value} (I:Inv X pins σ H s) (h:CE X.stack X.prog X.w H s Q u s'):EP X pins σ Q u s':=by
 obtain ⟨v,H',os,bare,un,hok,r,q⟩:=h;obtain ⟨hh,g,d,t,os'⟩:=s';obtain rfl:os'=s.os:=os;exact ⟨v,H',I.call (h':=hh) (g':=g) (d':=d) (t':=t) (ch:=[]) un hok bare (λb z=>absurd z (by simp)),r,q⟩
end
noncomputable def qL (sp:Sp) (dvs:List V) (E:XK) (t:TA):TE:=fun σ H Q=>t σ H λvs H1=>sp (vs++dvs) H1 Q E
noncomputable def Binds (K:PySem.W.Frag) (fd:FuncData) (ps:List Str) (ds:List Value):Prop :=
 ∀(s:Shared) (us:List Value),K.In s.heap->(us++ds).length=ps.length->BindsTo s fd ⟨us,[]⟩ (ps.zip (us++ds))
theorem Binds.all {K:PySem.W.Frag} {fd:FuncData} {ps:List Str} (h:∀us:List Value,us.length=ps.length->bindArgs fd ⟨us,[]⟩=pure (ps.zip us)):Binds K fd ps []:=λs us _ hl=>by
 rw [Zw]at hl ⊢;exact .of_eq (h us hl)
noncomputable def Passes (CX:CXT) (X:Cx) (E:XK):Prop:=∀(pins:List (Addr×Obj)) (σ:St) (H:Hp) (s:Shared) (e:Value) (s':Shared),Inv X pins σ H s->CX X.stack H s E e s'->X.xe e s'
section
variable {X:Cx} {CX:CXT} {k:Nat} {f C:Addr} {fd:FuncData} {ps:List Str} {sp:Sp} {dvs:List V} {ds:List Value} {E:XK} {x m:Str} {p pos apos:Pos} {e o:Expr} {es:List Expr} {ta:TE} {t:TA}
theorem zI {pins:List (Addr×Obj)} {σ:St} {H:Hp} {s:Shared} {Q:VK} {us:List Value} {vs:List V} (F:FnOk X.prog X.w X.K X.mg X.base CX k f fd ps sp) (hr:Room k X.A) (hb:Binds X.K fd ps ds) (hd:Vals dvs ds) (hx:Passes CX X E)
  (I:Inv X pins σ H s) (r:Vals vs us) (h:sp (vs++dvs) H Q E):wpAny (model X.prog X.w) X.A (call (.ref f) us) (EP X pins σ Q) X.xe s:=by
 have r2:Vals (vs++dvs) (us++ds):=r.append hd;have hl:(us++ds).length=ps.length:=by rw [<-r2.length];exact F.len _ _ _ _ h
 refine wpAny_call (codeAny_mono (F.run X.A X.stack s H ⟨us,[]⟩ (us++ds) (vs++dvs) Q E hr I.kg (hb s us I.kIn hl) r2 h) λr s' hq=>?_)
 cases r with
 |error e=>exact hx pins σ H s e s' I hq
 |ok fl =>
  cases fl with
  |ret u=>exact I.after hq
  |next=>exact False.elim hq
  |brk=>exact False.elim hq
  |cont=>exact False.elim hq
theorem qJ (F:FnOk X.prog X.w X.K X.mg X.base CX k f fd ps sp) (hr:Room k X.A) (hg:Gl X x) (hm:X.mg x=some (.ref f)) (hk:PySem.W.keepIn X.K (.ref f)=true) (hb:Binds X.K fd ps ds) (hd:Vals dvs ds) (hx:Passes CX X E)
  (ha:PA X (e :: es) t) (hdb:(x == ("__debug__" : Str))=false:=by decide) (he:starEach (e :: es) X.env=(false,eval e X.env) :: starEach es X.env:=by rfl) (hpl:(backTo pos (starEach es X.env)).any (·.1)=false:=by rfl) :
  PE X (.Call (.Name x p) (e :: es) [] pos) (qL sp dvs E t):=by
 intro pins s σ H Q I h;refine wpAny_Call_Name_kw (jj I hg hm ?_ hdb);refine PySem.W.callWith_K (h₀:=X.base) I.ok.mod.kin hk (thn (ha pos pins s σ H _ I h) λus s1 ⟨vs,H1,I1,r,q⟩=>⟨I1.kIn,?_⟩) he hpl
 exact zI F hr hb hd hx I1 r q
structure Mk (K:PySem.W.Frag) (C f:Addr):Prop where
 makes:PySem.W.makesIn K C=true
 init:PySem.W.findIn K (.ref C) "__init__" = some (some (.ref f))
 fn:PySem.W.isFn K (.ref f)=true
 kp:PySem.W.keepIn K (.ref C)=true
end
section
variable {X:Cx} {CX:CXT} {k:Nat} {f C:Addr} {fd:FuncData} {ps ks:List Str} {sp:Sp} {E:XK} {x m:Str} {p pos apos kpos:Pos} {e o:Expr} {es:List Expr} {kws:List Keyword} {te ta:TE} {t tk:TA} {nm:Option Str}
structure KBinds (K:PySem.W.Frag) (fd:FuncData) (ps ks:List Str) (g:List Value->List Value->List Value) (gV:List V->List V->List V):Prop where
 to:∀(s:Shared) (us ws:List Value),K.In s.heap->(g us ws).length=ps.length->BindsTo s fd ⟨us,ks.zip ws⟩ (ps.zip (g us ws))
 rel:∀{vs:List V} {us:List Value} {zs:List V} {ws:List Value},Vals vs us->Vals zs ws->Vals (gV vs zs) (g us ws)
variable {g:List Value->List Value->List Value} {gV:List V->List V->List V}
end
structure FnScope (N P:List Str) (sc:Scope):Prop where
 kind:sc.kind=.function
 co:sc.isCoroutine=false
 gen:sc.isGenerator=false
 nd:N.Nodup
 pre:N.take P.length=P
 par:∀x∈P,sc.names.lookup x=some .local\/sc.names.lookup x=some .cell
 nofree:∀y∈sc.names,y.2≠.free
theorem nc {kindOf:Str->Option NameKind} {x:Str}:∀{binds:List (Str×Value)} {m:Str->Option Value},(∀v,(x,v)∉binds)->bindL kindOf binds m x=m x
 |[],_,_=>rfl
 | (n,v) :: r,m,h=>by
  unfold bindL;rw [nc λw hw=>h w (Ze _ hw)]
  split
  ·have:x≠n:=by rintro rfl;exact h v Zf
   simp [this]
  ·rfl
theorem mY {kindOf:Str->Option NameKind} {x:Str}:∀{binds:List (Str×Value)} {m:Str->Option Value},(∀v,(x,v)∉binds)->bindC kindOf binds m x=m x
 |[],_,_=>rfl
 | (n,v) :: r,m,h=>by
  unfold bindC;rw [mY λw hw=>h w (Ze _ hw)]
  split
  ·rfl
  ·have:x≠n:=by rintro rfl;exact h v Zf
   simp [this]
theorem nt {kindOf:Str->Option NameKind} {x:Str} {v:Value}:∀{P:List Str} {vs:List Value} {i:Nat} {m:Str->Option Value},P.Nodup->P[i]?=some x->vs[i]?=some v->kindOf x=some .local ->
  bindL kindOf (P.zip vs) m x=some v
 |[],_,_,_,_,h,_,_=>by simp at h
 |_ :: _,[],_,_,_,_,h,_=>by simp at h
 |p :: P,w :: vs,0,m,nd,h1,h2,hk=>by
  simp at h1 h2;subst h1;subst h2
  show bindL kindOf ((p,w) :: P.zip vs) m p=_
  unfold bindL;rw [nc λv hv=>(List.nodup_cons.mp nd).1 (List.of_mem_zip hv).1,if_pos hk]
  simp
 |p :: P,w :: vs,i+1,m,nd,h1,h2,hk=>by
  show bindL kindOf ((p,w) :: P.zip vs) m x=_
  unfold bindL;exact nt (i:=i) (List.nodup_cons.mp nd).2 (by simpa using h1) (by simpa using h2) hk
theorem nK {kindOf:Str->Option NameKind} {x:Str} {v:Value}:∀{P:List Str} {vs:List Value} {i:Nat} {m:Str->Option Value},P.Nodup->P[i]?=some x->vs[i]?=some v->kindOf x≠some .local ->
  bindC kindOf (P.zip vs) m x=some v
 |[],_,_,_,_,h,_,_=>by simp at h
 |_ :: _,[],_,_,_,_,h,_=>by simp at h
 |p :: P,w :: vs,0,m,nd,h1,h2,hk=>by
  simp at h1 h2;subst h1;subst h2
  show bindC kindOf ((p,w) :: P.zip vs) m p=_
  unfold bindC;rw [mY λv hv=>(List.nodup_cons.mp nd).1 (List.of_mem_zip hv).1,if_neg hk]
  simp
 |p :: P,w :: vs,i+1,m,nd,h1,h2,hk=>by
  show bindC kindOf ((p,w) :: P.zip vs) m x=_
  unfold bindC;exact nK (i:=i) (List.nodup_cons.mp nd).2 (by simpa using h1) (by simpa using h2) hk
noncomputable def start (N:List Str) (vs:List V):St:=vs.map some++List.replicate (N.length-vs.length) none
noncomputable def iQ (CX:CXT) (P:Program) (w:World) (K:PySem.W.Frag) (mg:Str->Option Value) (base:Heap) (N:List Str) (qual:Str) (scope:Scope) (f:Addr) (cd:Value) (A:Around) (outer:List Env) (s:Shared) (H:Hp) (E:XK):Cx where
 prog:=P
 w:=w
 K:=K
 mg:=mg
 base:=base
 A:=A.deeper (envOfC qual scope s.heap.objs.size f cd)
 N:=N
 s₀:=s
 H₀:=H
 env:=envOfC qual scope s.heap.objs.size f cd
 outer:=outer
 stack:=envOfC qual scope s.heap.objs.size f cd :: outer
 ex:=[]
 calm:=true
 fn:=λ_=>true
 pn:=[]
 xe:=λe s'=>wpAny (model P w) (A.deeper (envOfC qual scope s.heap.objs.size f cd)) (leaving (envOfC qual scope s.heap.objs.size f cd) e) (λ_ s''=>CX outer H s E e s'') (λe' s''=>CX outer H s E e' s'') s'
theorem pN {sc:Scope} {n:Nat} {x:Str} (h:sc.names.lookup x=some .cell):∃c,(cellsFrom n sc.names []).lookup x=some c:=by
 have q:=PySem.W.cellsFrom_some sc.names n [] (.inl h);exact Option.isSome_iff_exists.mp q
theorem mP {CX:CXT} {P:Program} {w:World} {K:PySem.W.Frag} {mg:Str->Option Value} {base:Heap} {N ps:List Str} {qual:Str} {scope:Scope} {f:Addr} {cd:Value} {A:Around} {outer:List Env} {s s1:Shared} {H:Hp} {E:XK} {us:List Value} {vs:List V}
  (S:FnScope N ps scope) (hd:A.handled=none) (e0:Env0 P w K mg base A outer s H) (hl:vs.length=ps.length) (r:Vals vs us)
  (x:InCallC s s.heap.objs.size (bindL (envOfC qual scope s.heap.objs.size f cd).kindOf (ps.zip us) λ_=>none) (cellsFrom (s.heap.objs.size+1) scope.names []) (bindC (envOfC qual scope s.heap.objs.size f cd).kindOf (ps.zip us) λ_=>none) s1) :
  Inv (iQ CX P w K mg base N qual scope f cd A outer s H E) [] (start N vs) H s1:=by
 have hpl:ps.length<=N.length:=by have:=congrArg List.length S.pre;rw [ZC]at this;lia
 obtain ⟨h1,tk,rfl,hk⟩:=x.done;have noA:∀b:Addr,b∉(iQ CX P w K mg base N qual scope f cd A outer s H E).ex:=λb z=>absurd (show b∈([]:List Addr) from z) (by simp)
 refine ⟨⟨e0.mod,S.kind,rfl,rfl,Zm _,λy z c h1 h2=>?_,λy hy=>?_,λy c _ h=>?_,λ_=>hd,Around.frames_deeper e0.frames,.inr ⟨rfl,rfl⟩,λb z=>absurd z (noA b),e0.bs,e0.bsz,λb _ _=>noA b,λb z=>absurd z (noA b),e0.funs,e0.frf⟩,
  rfl,e0.bare,Un.kept hk,⟨_,x.toInCall.ns,λi y v h1 h2 h3=>?_⟩,λy c h=>⟨_,x.cell y c h⟩,e0.hok.fresh (Zm _),λy c h=>?_,λp hp=>absurd (show p∈([]:List (Addr×Obj)) from hp) (by simp),e0.hok.kept hk,?_⟩
 ·exact name_of_addr x.apart (PySem.mem_of_lookup h1) (PySem.mem_of_lookup h2)
 ·have hy:scope.names.lookup y=some .cell\/scope.names.lookup y=some .free:=hy
  rcases hy with hy | hy
  ·exact pN hy
  ·exact absurd rfl (S.nofree _ (PySem.mem_of_lookup hy))
 ·exact Nat.le_of_lt (x.above y c (PySem.mem_of_lookup h))
 ·have hi:i<vs.length:=by
   unfold start at h2;by_cases hi:i<vs.length
   ·exact hi
   ·rw [List.getElem?_append_right (by simpa using hi)]at h2
    rw [List.getElem?_replicate]at h2;split at h2 <;> cases h2
  have ha:vs[i]?=some v:=by
   unfold start at h2;rw [List.getElem?_append_left (by simpa using hi),Za]at h2
   cases e:vs[i]? with
   |none=>rw [e]at h2;cases h2
   |some a=>rw [e]at h2;cases h2;rfl
  obtain ⟨u,hu,rv⟩:=r.get ha;have hp:ps[i]?=some y:=by
   rw [<-S.pre,List.getElem?_take_of_lt (by lia)];exact h1
  have ndP:ps.Nodup:=by rw [<-S.pre];exact S.nd.sublist (List.take_sublist _ _)
  refine ⟨u,rv,?_⟩;rcases S.par y (Zz hp) with k | k
  ·exact .inl ⟨k,nt ndP hp hu k⟩
  ·obtain ⟨c,e⟩:=pN (n:=s.heap.objs.size+1) k
   refine .inr ⟨.inl k,c,e,?_⟩;have q:=x.cell y c e;rw [nK ndP hp hu (by show scope.names.lookup y≠_;rw [k];decide)]at q
   exact q
 ·exact e0.hok.fresh (Nat.le_of_lt (x.above y c (PySem.mem_of_lookup h)))
 ·unfold start
  show _=N.length
  rw [Zd,Zc,List.length_replicate]
  lia
theorem yF {CX:CXT} {P:Program} {w:World} {K:PySem.W.Frag} {mg:Str->Option Value} {base:Heap} {k:Nat} {f:Addr} {name qual:Str} {params:Arguments} {body:List Stmt} {scope:Scope} {dV kV doc pm cdv ct oc:Value} {an od:Option Addr}
  {osl:Array (Option Value)} {N ps:List Str} {sp:Sp} (lk:K.lookup f=some ⟨oc,od,.func (PySem.W.fnOf name qual params body scope dV kV doc pm an cdv ct),osl⟩) (hcd:PySem.W.codeIn K cdv qual=true) (S:FnScope N ps scope)
  (len:∀vs H Q E,sp vs H Q E->vs.length=ps.length)
  (hbody:∀(A:Around) (outer:List Env) (s:Shared) (H:Hp) (vs:List V) (Q:VK) (E:XK),Room k (A.deeper (envOfC qual scope s.heap.objs.size f cdv))->sp vs H Q E ->
   ∃t,PSs (iQ CX P w K mg base N qual scope f cdv A outer s H E) body t/\t { nx:=λ_ H'=>Q .non H',rt:=Q } (start N vs) H) :
  FnOk P w K mg base CX (k+1) f (PySem.W.fnOf name qual params body scope dV kV doc pm an cdv ct) ps sp:=by
 refine ⟨len,λA outer s H args us vs Q E hr e0 hb r hsp=>?_⟩
 have hl:=len _ _ _ _ hsp;have KX:K.In s.heap:=e0.mod.kin.keeps λb o e=>(e0.bs b o e).1
 have lim:s.heap.NoLimit:=e0.mod.nolimit.keeps λb o e=>(e0.bs b o e).1
 have hkind:∀y∈ps.zip us,scope.names.lookup y.1=some .local\/(scope.names.lookup y.1=some .cell/\((cellsFrom (s.heap.objs.size+1) scope.names []).lookup y.1).isSome=true):=λ⟨n,v⟩ hy=>by
  rcases S.par n (List.of_mem_zip hy).1 with q | q
  ·exact .inl q
  ·exact .inr ⟨q,PySem.W.cellsFrom_some _ _ _ (.inl q)⟩
 refine codeAny_call_function hr.depth (KX _ _ lk) rfl S.co S.gen rfl (PySem.W.codeRec_of KX hcd) (hb _ _ _ _ ?_);refine wpAny_newFunctionEnv_cells S.kind hkind λenv he s1 x=>?_
 subst he;refine ⟨lim.keeps x.toInCall.keep,codeAny_func ?_⟩;obtain ⟨t,ht,hq⟩:=hbody A outer s H vs Q E (hr.deeper _) hsp;have I:Inv (iQ CX P w K mg base N qual scope f cdv A outer s H E) [] (start N vs) H s1:=mP S hr.hd e0 hl r x;refine wpAny_mono (ht [] s1 (start N vs) H _ I hq) (λfl s' hs=>?_) λe s' hs=>hs
 have fin:∀{σ':St} {H':Hp} {v:V} {u:Value},Inv (iQ CX P w K mg base N qual scope f cdv A outer s H E) [] σ' H' s'->RelV v u->Q v H'->CE outer P w H s Q u s' :=
  fun {σ' H' v u} J rv q=>⟨v,H',J.os,J.bare,J.base,J.hok,rv,q⟩
 cases fl with
 |ret u =>
  obtain ⟨v,σ',H',J,rv,q⟩:=hs;exact fin J rv q
 |next =>
  obtain ⟨σ',H',J,q⟩:=hs;exact fin (v:=V.non) (u:=Value.none) J rfl q
 |brk =>
  obtain ⟨_,_,_,q⟩:=hs;exact False.elim q
 |cont =>
  obtain ⟨_,_,_,q⟩:=hs;exact False.elim q
section
variable {X:Cx} {x:Str} {p pos:Pos} {e:Expr} {es:List Expr} {t:TA} {id T:String} {r:List V->Hp->VK->Prop}
noncomputable def tCB (r:List V->Hp->VK->Prop) (t:TA):TE:=fun σ H Q=>t σ H λvs H1=>r vs H1 Q
theorem i6 (hc:dW X (.builtin id) r) (hg:Gl X x) (hm:X.mg x=none) (hv:bootBuiltins x=some (.builtin id)) (ha:PA X (e :: es) t) (hn:x ≠ "__name__" := by decide) (hdb:(x == ("__debug__" : Str))=false:=by decide)
  (he:starEach (e :: es) X.env=(false,eval e X.env) :: starEach es X.env:=by rfl) (hpl:(backTo pos (starEach es X.env)).any (·.1)=false:=by rfl):PE X (.Call (.Name x p) (e :: es) [] pos) (tCB r t):=by
 intro pins s σ H Q I h;refine wpAny_Call_Name_kw (kC I hg hm hv ?_ hn hdb);exact PyProof.Rows.callWith_builtin1 (thn (ha pos pins s σ H _ I h) λus s1 ⟨vs,H1,I1,r1,q1⟩=>hc pins s1 σ H1 vs us Q I1 r1 q1) he hpl
theorem kq (hc:dW X (.type T) r) (hg:Gl X x) (hm:X.mg x=none) (hv:bootBuiltins x=some (.type T)) (ha:PA X (e :: es) t) (hn:x ≠ "__name__" := by decide) (hdb:(x == ("__debug__" : Str))=false:=by decide)
  (he:starEach (e :: es) X.env=(false,eval e X.env) :: starEach es X.env:=by rfl) (hpl:(backTo pos (starEach es X.env)).any (·.1)=false:=by rfl):PE X (.Call (.Name x p) (e :: es) [] pos) (tCB r t):=by
 intro pins s σ H Q I h;refine wpAny_Call_Name_kw (kC I hg hm hv ?_ hn hdb);exact PyProof.Rows.callWith_type1 (thn (ha pos pins s σ H _ I h) λus s1 ⟨vs,H1,I1,r1,q1⟩=>hc pins s1 σ H1 vs us Q I1 r1 q1) he hpl
end
end L2
namespace HT
open PySem PyProof.Rows
section
open PySem.SeqAt
open PySem.AutoSeq1 (wpAny_loadPart')
open PySem.MeetsSeq PySem.MeetsSeq2 PySem.MeetsSeq3
end
section
variable {prog:Program} {w:World} {A:Around} {E:Value->Shared->Prop} {s:Shared}
noncomputable def sIx (n d:Nat):Option Int->Nat
 |none=>d
 |some v=>if v<0 then (v+(n:Int)).toNat else min v.toNat n
theorem uw (n d:Nat):sIx n d none=d:=rfl
theorem wX (n d k:Nat):sIx n d (some (k:Int))=min k n:=by
 show (if (k:Int)<0 then ((k:Int)+(n:Int)).toNat else min (k:Int).toNat n)=min k n
 rw [if_neg (by lia),Int.toNat_natCast]
end
end HT
namespace L2
open PySem PySem.Spec PyProof.Rows
noncomputable abbrev TO:=St->Hp->(Option Int->Hp->Prop)->Prop
noncomputable def PO (X:Cx) (e:Option Expr) (t:TO):Prop :=
 ∀(pins:List (Addr×Obj)) (s:Shared) (σ:St) (H:Hp) (Q:Option Int->Hp->Prop),Inv X pins σ H s->t σ H Q ->
  wpAny (model X.prog X.w) X.A (evalPart e X.env) (λu s'=>∃o H',Inv X pins σ H' s'/\IsPart u o/\Q o H') X.xe s
noncomputable def qC:TO:=λ_ H Q=>Q none H
noncomputable def yq (t:TE):TO:=fun σ H Q=>t σ H λx H1=>∃i,x=.int i/\Q (some i) H1
theorem intsAre_of {ns:List Int}:∀{us:List Value},Vals (ns.map V.int) us->IntsAre us ns:=by
 induction ns with
 |nil=>intro us r;rw [List.map_nil]at r;cases r;exact .nil
 |cons n ns ih =>
  intro us r;rw [Zj]at r;cases r with
  |cons r1 r2 =>
   obtain ⟨t,e⟩:=r1;subst e;exact .cons n t (ih r2)
section
variable {X:Cx} {e:Expr} {te:TE} {lo hi:Option Expr} {tl th:TO} {pos p2:Pos}
theorem xT:PO X none qC:=by
 intro pins s σ H Q I h;rw [evalPart_none];exact wpAny_pure ⟨none,H,I,.none,h⟩
theorem wz (h:PE X e te):PO X (some e) (yq te):=by
 intro pins s σ H Q I hw;rw [evalPart_some];refine thn (h pins s σ H _ I hw) λu s1 ⟨x,H1,I1,r1,q1⟩=>?_
 obtain ⟨i,rfl,q⟩:=q1;obtain ⟨t,rfl⟩:=r1;exact ⟨some i,H1,I1,.int i t,q⟩
noncomputable def SlR (X:Cx) (r:V->Option Int->Option Int->Hp->VK->Prop):Prop :=
 ∀(pins:List (Addr×Obj)) (s:Shared) (σ:St) (H:Hp) (x:V) (v vl vu:Value) (lo hi:Option Int) (sl:Addr) (Q:VK),Inv X pins σ H s->RelV x v->s.heap.IsSliceOf sl vl vu .none->IsPart vl lo->IsPart vu hi->r x lo hi H Q ->
  ∃T id,typeLookup (.type T) "__getitem__" = pure (some (.builtin id))/\s.TypeIs v T/\wpAny (model X.prog X.w) X.A (getItem v (.ref sl)) (EP X pins σ Q) X.xe s
noncomputable def tSl (r:V->Option Int->Option Int->Hp->VK->Prop) (te:TE) (tl th:TO):TE:=fun σ H Q=>te σ H λx H1=>tl σ H1 λl H2=>th σ H2 λu H3=>r x l u H3 Q
theorem uv {r:V->Option Int->Option Int->Hp->VK->Prop} (hr:SlR X r) (he:PE X e te) (hl:PO X lo tl) (hu:PO X hi th):PE X (.Subscript e (.Slice lo hi none p2) pos) (tSl r te tl th):=by
 intro pins s σ H Q I h;refine Subscript_ (thn (he pins s σ H _ I h) λv s1 ⟨x,H1,I1,r1,q1⟩=>?_)
 refine wpAny_Slice (thn (hl pins s1 σ H1 _ I1 q1) λvl s2 ⟨l,H2,I2,pl,q2⟩=>thn (hu pins s2 σ H2 _ I2 q2) λvu s3 ⟨u,H3,I3,pu,q3⟩=>?_)
 rw [evalPart_none];refine wpAny_pure ?_;have I4:Inv X pins σ H3 { s3 with heap:=s3.heap.push { cls:=.type "slice",data:=.fields #[vl,vu,.none] } }:=I3.kept (t':=s3.toks) λb ob q=>Heap.get?_push_of_some _ q
 obtain ⟨T,id,hT,ht,hg⟩:=hr pins { s3 with heap:=s3.heap.push { cls:=.type "slice",data:=.fields #[vl,vu,.none] } } σ H3 x v vl vu l u s3.heap.objs.size Q I4 r1 (Heap.IsSliceOf.new ..) pl pu q3
 show wpAny (model X.prog X.w) X.A (subscriptTail e (.Slice lo hi none p2) v (.ref s3.heap.objs.size)) (EP X pins σ Q) X.xe { s3 with heap:=s3.heap.push { cls:=.type "slice",data:=.fields #[vl,vu,.none] } }
 exact tail_any (ops:=[.ref s3.heap.objs.size,v]) ht hT hg (by with_unfolding_all rfl)
noncomputable def vj (xs:List V) (lo hi:Option Int):List V:=(xs.drop (HT.sIx xs.length 0 lo)).take (HT.sIx xs.length xs.length hi-HT.sIx xs.length 0 lo)
theorem pZ (xs:List V) (lo hi:Option Int):(vj xs lo hi).length<=xs.length:=by
 unfold vj;rw [ZC,ZD]
 lia
end
noncomputable def ixN (n:Nat) (i:Int):Option Nat:=if 0<=i then (if i<n then some i.toNat else none) else if -(n:Int)<=i then some (i+n).toNat else none
noncomputable def atI {α:Type} (xs:List α) (i:Int):Option α:=(ixN xs.length i).bind λj=>xs[j]?
theorem xK {n:Nat} {i:Int} {j:Nat} (h:ixN n i=some j):seqIndex? i n=some j/\j<n/\-(n:Int)<=i/\i<n:=by
 unfold ixN at h;by_cases h0:0<=i
 ·rw [if_pos h0]at h
  by_cases h1:i<n
  ·rw [if_pos h1]at h
   have e:i.toNat=j:=Zx h;exact ⟨by rw [seqIndex_of h0 h1,e],by lia,by lia,h1⟩
  ·rw [if_neg h1]at h;cases h
 ·rw [if_neg h0]at h
  by_cases h1:-(n:Int)<=i
  ·rw [if_pos h1]at h
   have e:(i+n).toNat=j:=Zx h;exact ⟨by rw [seqIndex_neg (by lia) h1,e],by lia,h1,by lia⟩
  ·rw [if_neg h1]at h;cases h
theorem oa {α:Type} {xs:List α} {i:Int} {v:α} (h:atI xs i=some v):∃j,seqIndex? i xs.length=some j/\xs[j]?=some v/\j<xs.length/\-(xs.length:Int)<=i/\i<xs.length:=by
 unfold atI at h;cases e:ixN xs.length i with
 |none=>rw [e]at h;cases h
 |some j =>
  rw [e]at h;obtain ⟨h1,h2,h3,h4⟩:=xK e;exact ⟨j,h1,h,h2,h3,h4⟩
theorem hG {α:Type} {xs:List α} {j:Nat} {v:α} (h:xs[j]?=some v):atI xs (j:Int)=some v:=by
 have hj:j<xs.length:=(Zb.mp h).1;have e:ixN xs.length (j:Int)=some j:=by
  unfold ixN;rw [if_pos (by lia),if_pos (by lia)];simp
 unfold atI;rw [e];exact h
theorem l5 {α:Type} (xs:List α) (v:α):atI (xs++[v]) (-1)=some v:=by
 have hl:(xs++[v]).length=xs.length+1:=by simp
 have e:ixN (xs++[v]).length (-1)=some xs.length:=by
  unfold ixN;rw [hl,if_neg (by decide),if_pos (by lia)]
  congr 1
  lia
 unfold atI;rw [e];show (xs++[v])[xs.length]?=some v
 simp
noncomputable def rE (b:Expr):Prop:=∀o i,subscripted b false o i=operate [o,i] (getItem o i)
noncomputable def IxR (X:Cx) (r:R2):Prop :=
 ∀(value slice:Expr) (pins:List (Addr×Obj)) (s:Shared) (σ:St) (H:Hp) (x y:V) (v u:Value) (Q:VK),Inv X pins σ H s->RelV x v->RelV y u->r x y H Q ->
  subscripted slice false v u=operate [v,u] (getItem v u)->wpAny (model X.prog X.w) X.A (subscriptTail value slice v u) (EP X pins σ Q) X.xe s
noncomputable def MtR (X:Cx) (id:String) (r:V->List V->Hp->VK->Prop):Prop :=
 ∀(pins:List (Addr×Obj)) (s:Shared) (σ:St) (H:Hp) (x:V) (xs:List V) (v:Value) (us:List Value) (Q:VK),Inv X pins σ H s->RelV x v->Vals xs us->r x xs H Q ->
  wpAny (model X.prog X.w) X.A (call (.builtin id) (v :: us)) (EP X pins σ Q) X.xe s
section
variable {X:Cx} {a b:Expr} {ta tb:TE} {pos:Pos}
theorem IxR.or {r r':R2} (h:IxR X r) (h':IxR X r'):IxR X (λx y H Q=>r x y H Q\/r' x y H Q):=by
 intro value slice pins s σ H x y v u Q I rx ry q hs;rcases q with q | q
 ·exact h value slice pins s σ H x y v u Q I rx ry q hs
 ·exact h' value slice pins s σ H x y v u Q I rx ry q hs
theorem Fl {r:R2} (hr:IxR X r) (ha:PE X a ta) (hb:PE X b tb) (hs:rE b):PE X (.Subscript a b pos) (tOp r ta tb):=by
 intro pins s σ H Q I h;exact Subscript_ (zH ha hb I h λv u s2 x y H2 I2 rx ry q=>hr a b pins s2 σ H2 x y v u Q I2 rx ry q (hs _ _))
noncomputable def Fv (K:PySem.W.Frag):R2:=λx y H Q=>∃p xs i v,x=.ref p/\y=.int i/\SqL K H p xs/\atI xs i=some v/\Q v H
noncomputable def Ff (K:PySem.W.Frag):R2:=λx y H Q=>∃p xs i v,x=.ref p/\y=.int i/\SqT K H p xs/\atI xs i=some v/\Q v H
noncomputable def Dr:R2:=λx y H Q=>∃z i c,x=.str z/\y=.int i/\z.length<=sizeLine/\atI z.cps.toList i=some c/\Q (.str ⟨#[c]⟩) H
theorem wV:IxR X (Fv X.K):=by
 intro value slice pins s σ H x y v u Q I rx ry h hs;obtain ⟨p,xs,i,z,rfl,rfl,hq,he,q⟩:=h;cases rx;obtain ⟨t,rfl⟩:=ry;obtain ⟨its,r,pl,hz⟩:=I.list hq;obtain ⟨j,h1,h2,h3,h4,h5⟩:=oa he;obtain ⟨w,ew,rw'⟩:=r.get h2;have hl:=r.length;have hn:=l_;have fin:EP X pins σ Q w s:=⟨z,H,I,rw',q⟩;by_cases h0:0<=i
 ·have hj:i.toNat=j:=by
   rw [seqIndex_of h0 h5]at h1;exact Zx h1
  exact item_listR pl.isList h0 (by lia) (by rw [hj];simpa using ew) fin hs
 ·have hj:(i+(its.toArray.size:Int)).toNat=j:=by
   rw [seqIndex_neg (by lia) h4]at h1
   rw [Zy,<-hl];exact Zx h1
  exact subscriptTail_builtinR (x:=w) pl.isList.typeIs slot_list_getitem.lookup
   (wpAny_getItem_list_neg (Q:=λr s'=>r=w/\EP X pins σ Q r s') pl.isList (by lia) (by rw [Zy] <;> lia) (by lia) (by rw [hj];simpa using ew) ⟨rfl,fin⟩) hs
theorem Bs:IxR X (Ff X.K):=by
 intro value slice pins s σ H x y v u Q I rx ry h hs;obtain ⟨p,xs,i,z,rfl,rfl,hq,he,q⟩:=h;cases rx;obtain ⟨t,rfl⟩:=ry;obtain ⟨its,r,pl,hz⟩:=I.tuple hq;obtain ⟨j,h1,h2,h3,h4,h5⟩:=oa he;obtain ⟨w,ew,rw'⟩:=r.get h2;have hl:=r.length;have hn:=l_;have fin:EP X pins σ Q w s:=⟨z,H,I,rw',q⟩;exact subscriptTail_builtinR (x:=w) pl.typeIs slot_tuple_getitem.lookup
  (getItem_tuple (j:=j) (Q:=λr s'=>r=w/\EP X pins σ Q r s') pl (by lia) (by lia) (by rw [Zy,<-hl];exact h1) (by simpa using ew) ⟨rfl,fin⟩) hs
theorem BI:IxR X Dr:=by
 intro value slice pins s σ H x y v u Q I rx ry h hs;obtain ⟨z,i,c,rfl,rfl,hz,he,q⟩:=h;obtain ⟨t,rfl⟩:=rx;obtain ⟨t',rfl⟩:=ry;obtain ⟨j,h1,h2,h3,h4,h5⟩:=oa he;have hl:z.cps.toList.length=z.length:=by simp [Str.length]
 rw [hl]at h1 h4 h5;have hn:=l_;exact tail_any (typeIs_str s z t) slot_str_getitem.lookup (getItem_str (c:=c) (by
  have e1:decide (i < -(2 ^ 63:Int))=false:=decide_eq_false (by lia)
  have e2:decide (i ≥ 2 ^ 63)=false:=decide_eq_false (by lia)
  rw [e1,e2,Bool.or_false]) (by rw [h1];simpa using h2) ⟨.str ⟨#[c]⟩,H,I.tok _,⟨_,rfl⟩,q⟩) hs
noncomputable def rIx (K:PySem.W.Frag):R2:=λx y H Q=>Fv K x y H Q\/Ff K x y H Q\/Dr x y H Q
theorem av:IxR X (rIx X.K):=wV.or (Bs.or BI)
theorem o5 (lo hi:Option Int) (n:Nat):(sliceBounds lo hi none n).1=((HT.sIx n 0 lo:Nat):Int)/\(sliceBounds lo hi none n).2.1=((HT.sIx n n hi:Nat):Int)/\(sliceBounds lo hi none n).2.2=1:=by
 refine ⟨?_,?_,rfl⟩
 ·cases lo with
  |none=>simp [sliceBounds,HT.sIx]
  |some i =>
   simp only [sliceBounds,HT.sIx,Option.getD_none,show (1:Int) > 0 by decide,if_true]
   by_cases h:i<0
   ·simp only [h,if_true] <;> lia
   ·simp only [h,if_false] <;> lia
 ·cases hi with
  |none=>simp [sliceBounds,HT.sIx]
  |some i =>
   simp only [sliceBounds,HT.sIx,Option.getD_none,show (1:Int) > 0 by decide,if_true]
   by_cases h:i<0
   ·simp only [h,if_true] <;> lia
   ·simp only [h,if_false] <;> lia
theorem mC (its:List Value) (lo hi:Option Int):slicePick its.toArray lo hi none=((its.drop (HT.sIx its.length 0 lo)).take (HT.sIx its.length its.length hi-HT.sIx its.length 0 lo)).toArray:=by
 obtain ⟨h1,h2,h3⟩:=o5 lo hi its.toArray.size;unfold slicePick;rw [h1,h2,h3];simp only [sliceRange_one,pick_run,Zy] <;> rfl
noncomputable def FG (K:PySem.W.Frag):V->Option Int->Option Int->Hp->VK->Prop:=λx lo hi H Q=>∃a xs,x=.ref a/\SqL K H a xs/\∀p,H p=none->Q (.ref p) (upd H p (.lst (vj xs lo hi)))
theorem wg:SlR X (FG X.K):=by
 intro pins s σ H x v vl vu lo hi sl Q I rx hs pl pu h;obtain ⟨a,xs,rfl,hx,q⟩:=h;cases rx;obtain ⟨its,r,ht,hz⟩:=I.list hx;have hlen:=r.length;refine ⟨"list",_,slot_list_getitem.lookup,ht.isList.typeIs,?_⟩;refine wpAny_getItem_list_slice ht.isList hs pl pu .none (by simp) ?_ (by rw [Zy] <;> lia)
 rw [mC,<-hlen];refine ⟨.ref s.heap.objs.size,_,I.laid (t':=s.toks) (o:=.lst (vj xs lo hi)) (λb ob q=>Heap.get?_push_of_some _ q) (Zm _) ?_,rfl,q _ (I.hok.fresh (Zm _))⟩
 exact ⟨ZE (pZ xs lo hi) hz,_,0,(r.drop (HT.sIx xs.length 0 lo)).take (HT.sIx xs.length xs.length hi-HT.sIx xs.length 0 lo),Heap.get?_push_size _ rfl⟩
theorem oQ:OpR X (compareOp .NotIn) (λx y H Q=>∃i j,x=.str i/\y=.str j/\Q (.bl (!(!(Builtin.Str.occurrences j i 0 j.length 1).isEmpty))) H):=by
 intro pins s σ H x y v u Q I rx ry h;obtain ⟨i,j,rfl,rfl,q⟩:=h;obtain ⟨t,rfl⟩:=rx;obtain ⟨t',rfl⟩:=ry;exact notIn_str ⟨.bl _,H,I,rfl,q⟩
theorem nR:dW X (.builtin "len") (λxs H Q=>∃p ys,xs=[.ref p]/\(SqL X.K H p ys\/SqT X.K H p ys)/\Q (.int ys.length) H):=by
 intro pins s σ H xs us Q I r h;obtain ⟨p,ys,rfl,hq,q⟩:=h;obtain ⟨u,rfl,rx⟩:=vals1 r;cases rx;have hn:=l_;rcases hq with hq | hq
 ·obtain ⟨its,r',pl,hz⟩:=I.list hq
  have hlen:=r'.length;exact Calls.call_len_list pl.isList (by simp only [Zy] <;> lia) ⟨.int ys.length,H,I.tok _,⟨s.toks+1,by rw [Zy,hlen]⟩,q⟩
 ·obtain ⟨its,r',pl,hz⟩:=I.tuple hq
  have hlen:=r'.length;exact len_tuple pl (by simp only [Zy] <;> lia) ⟨.int ys.length,H,I.tok _,⟨s.toks+1,by rw [Zy,hlen]⟩,q⟩
theorem n9:dW X (.builtin "len") (λxs H Q=>∃z,xs=[.str z]/\z.length<=sizeLine/\Q (.int z.length) H):=by
 intro pins s σ H xs us Q I r h;obtain ⟨z,rfl,hz,q⟩:=h;obtain ⟨u,rfl,t,rfl⟩:=vals1 r;have hn:=l_;exact len_str (by lia) ⟨.int z.length,H,I.tok _,⟨_,rfl⟩,q⟩
theorem dW.or {f:Value} {r r':List V->Hp->VK->Prop} (h:dW X f r) (h':dW X f r'):dW X f (λxs H Q=>r xs H Q\/r' xs H Q):=by
 intro pins s σ H xs us Q I rs q;rcases q with q | q
 ·exact h pins s σ H xs us Q I rs q
 ·exact h' pins s σ H xs us Q I rs q
theorem oP:dW X (.type "list") (λxs H Q=>∃p ys,xs=[.ref p]/\(SqL X.K H p ys\/SqT X.K H p ys)/\∀l,H l=none->Q (.ref l) (upd H l (.lst ys))):=by
 intro pins s σ H xs us Q I r h;obtain ⟨p,ys,rfl,hq,q⟩:=h;obtain ⟨u,rfl,rx⟩:=vals1 r;cases rx;have fin:∀(its:List Value),Vals ys its->ys.length<=sizeLine->∀(h':Heap) (c':Nat),(∀b o',s.heap.get? b=some o'->h'.get? b=some o') ->
   h'.get? s.heap.objs.size=some { cls:=.type "list",dict:=none,data:=.seq its.toArray c',slots:=#[] }->EP X pins σ Q (.ref s.heap.objs.size) { s with heap:=h' }:=λits r' hz h' c' kp e =>
  ⟨.ref s.heap.objs.size,_,I.laid (t':=s.toks) kp (Zm _) (show fW X.prog X.w _ h' _ (.lst ys) from ⟨hz,its,c',r',e⟩),rfl,q _ (I.hok.fresh (Zm _))⟩
 rcases hq with hq | hq
 ·obtain ⟨its,r',pl,hz⟩:=I.list hq
  have hlen:=r'.length;obtain ⟨o,ho,hc,n,hd⟩:=pl.isList;exact call_list_seq p (.inl rfl) ho hc hd (λh' c' kp e=>fin its r' hz h' c' kp e) (by simp only [Zy] <;> lia)
 ·obtain ⟨its,r',pl,hz⟩:=I.tuple hq
  have hlen:=r'.length;obtain ⟨o,ho,hc,n,hd⟩:=pl;exact call_list_seq p (.inr rfl) ho hc hd (λh' c' kp e=>fin its r' hz h' c' kp e) (by simp only [Zy] <;> lia)
noncomputable def tyV (K:PySem.W.Frag) (T:String) (x:V) (H:Hp):Prop:=match x with
 |.str _=>T = "str"
 |.int _=>T = "int"
 |.ref p=>(T = "list" /\ ∃xs,SqL K H p xs)\/(T = "tuple" /\ ∃o,K.lookup p=some o/\o.cls=.type "tuple" /\ o.dict=none) \/
   (T = "dict" /\ ((∃kvs,H p=some (.dK kvs))\/∃kvs,H p=some (.dT kvs)))\/(T = "set" /\ ∃S n,H p=some (.set S n))
 |_=>False
theorem vC {pins:List (Addr×Obj)} {σ:St} {H:Hp} {s:Shared} {T:String} {x:V} {v:Value} (I:Inv X pins σ H s) (r:RelV x v) (ty:tyV X.K T x H) :
  s.TypeIs v T/\∀a,v=.ref a->∃ob,s.heap.get? a=some ob/\ob.dict=none:=by
 cases x with
 |str z =>
  obtain ⟨t,rfl⟩:=r;cases (show T = "str" from ty)
  exact ⟨typeIs_str s z t,λ_ e=>nomatch e⟩
 |int i =>
  obtain ⟨t,rfl⟩:=r;cases (show T = "int" from ty)
  exact ⟨typeIs_int s i t,λ_ e=>nomatch e⟩
 |ref p =>
  cases r;rcases ty with ⟨rfl,xs,hq⟩ | ⟨rfl,o,hk,hc,hd⟩ | ⟨rfl,hk⟩ | ⟨rfl,S,n,hk⟩
  ·obtain ⟨its,_,pl,_⟩:=I.list hq
   refine ⟨pl.isList.typeIs,λa e=>?_⟩
   cases e;obtain ⟨o,n,e,c,hd,_⟩:=pl;exact ⟨o,e,hd⟩
  ·refine ⟨⟨o,I.kIn p o hk,hc⟩,λa e=>?_⟩
   cases e;exact ⟨o,I.kIn _ o hk,hd⟩
  ·have z:∃o,s.heap.get? p=some o/\o.ExactDict:=by
    rcases hk with ⟨kvs,hk⟩ | ⟨kvs,hk⟩
    ·obtain ⟨_,_,_,_,o,_,_,e,ex,_⟩:=I.hok p _ hk
     exact ⟨o,e,ex⟩
    ·obtain ⟨_,_,_,_,o,_,_,e,ex,_⟩:=I.hok p _ hk
     exact ⟨o,e,ex⟩
   obtain ⟨o,e,ex⟩:=z;refine ⟨⟨o,e,ex.1⟩,λa e2=>?_⟩
   cases e2;exact ⟨o,e,ex.2.1⟩
  ·obtain ⟨o,_,_,_,e,ex,_⟩:=I.hok p _ hk
   refine ⟨⟨o,e,ex.1⟩,λa e2=>?_⟩
   cases e2;exact ⟨o,e,ex.2.1⟩
 |_=>exact False.elim ty
noncomputable def Ac (K:PySem.W.Frag) (T:String) (r:V->List V->Hp->VK->Prop) (to:TE):TE:=fun σ H Q=>to σ H λx H1=>tyV K T x H1/\r x [] H1 Q
noncomputable def tBM (K:PySem.W.Frag) (T:String) (r:V->List V->Hp->VK->Prop) (to:TE) (t:TA):TE:=fun σ H Q=>to σ H λx H1=>tyV K T x H1/\t σ H1 λxs H2=>r x xs H2 Q
variable {o e:Expr} {es:List Expr} {to:TE} {t:TA} {name:Str} {apos cpos:Pos} {T id:String} {r:V->List V->Hp->VK->Prop}
theorem zV (pa:PlainAttrs T) (slot:Slot T name id) (hty:typeOf (.builtin id)=pure (.type "method_descriptor")) (hm:MtR X id r) (ho:PE X o to)
  (hbase:attributeBase o name X.env (eval o X.env)=eval o X.env:=by rfl) (hline:(apos.endLine == cpos.line)=true:=by rfl):PE X (.Call (.Attribute o name apos) [] [] cpos) (Ac X.K T r to):=by
 intro pins s σ H Q I h;refine wpAny_Call_method0_late hbase hline (thn (ho pins s σ H _ I h) λv s1 ⟨x,H1,I1,r1,ty,q1⟩=>?_)
 obtain ⟨h1,h2⟩:=vC I1 r1 ty;exact ⟨T,id,pa,slot,hty,h1,h2,Calls.callWith_builtin rfl (PySem.evalArgs_none (hm pins s1 σ H1 x [] v [] Q I1 r1 .nil q1))⟩
theorem pX (pa:PlainAttrs T) (slot:Slot T name id) (hty:typeOf (.builtin id)=pure (.type "method_descriptor")) (hm:MtR X id r) (ho:PE X o to) (ha:PA X (e :: es) t)
  (hbase:attributeBase o name X.env (eval o X.env)=eval o X.env:=by rfl)
  (hfew:((backTo cpos (starEach (e :: es) X.env)).all (λx=>!x.1) && (backToKw cpos (keywordEach [] X.env)).all (λx=>x.1.isSome)
   && decide ((e :: es).length+([]:List Keyword).length+(if ([]:List Keyword).isEmpty then 0 else 1)<30))=true:=by rfl)
  (hline:(apos.endLine == cpos.line)=true:=by rfl) (hs:starEach (e :: es) X.env=(false,eval e X.env) :: starEach es X.env:=by rfl) (hplain:(backTo cpos (starEach es X.env)).any (·.1)=false:=by rfl) :
  PE X (.Call (.Attribute o name apos) (e :: es) [] cpos) (tBM X.K T r to t):=by
 intro pins s σ H Q I h;refine wpAny_Call_method_late hbase hfew hline rfl (thn (ho pins s σ H _ I h) λv s1 ⟨x,H1,I1,r1,ty,q1⟩=>?_)
 obtain ⟨h1,h2⟩:=vC I1 r1 ty;refine ⟨T,id,pa,slot,hty,h1,h2,?_⟩;have hA:=ha cpos pins s1 σ H1 _ I1 q1;rw [hs]at hA ⊢;refine Calls.callWith_builtin (by show (false || (backTo cpos (starEach es X.env)).any (·.1))=false;rw [hplain] <;> rfl) (Calls.evalArgs_plain ?_)
 exact thn hA λus s2 ⟨vs,H2,I2,r2,q2⟩=>hm pins s2 σ H2 x vs v us Q I2 r1 r2 q2
end
noncomputable def MtM (X:Cx) (id:String) (r:V->List V->Hp->VK->Prop):Prop :=
 ∀(pins:List (Addr×Obj)) (s:Shared) (σ:St) (H:Hp) (x:V) (xs:List V) (v:Value) (us:List Value) (Q:VK),Inv X pins σ H s->RelV x v->Vals xs us->r x xs H Q ->
  wpAny (model X.prog X.w) X.A (call (.builtin id) (v :: us)) (EP X pins σ Q) X.xe s
theorem Vals.one {x:V} {us:List Value} (h:Vals [x] us):∃u,us=[u]/\RelV x u:=by
 cases h with
 |cons r t=>cases t;exact ⟨_,rfl,r⟩
theorem Vals.two {x y:V} {us:List Value} (h:Vals [x,y] us):∃u v,us=[u,v]/\RelV x u/\RelV y v:=by
 cases h with
 |cons r t=>obtain ⟨v,rfl,q⟩:=Vals.one t;exact ⟨_,v,rfl,r,q⟩
theorem Vals.zero:∀{us:List Value},Vals [] us->us=[]
 |_,.nil=>rfl
theorem Vals.dropLast {xs:List V} {us:List Value} (h:Vals xs us):Vals xs.dropLast us.dropLast:=by
 induction h with
 |nil=>exact .nil
 |cons r t ih =>
  cases t with
  |nil=>exact .nil
  |cons q t'=>exact .cons r ih
theorem Vals.rep {xs:List V} {us:List Value} (h:Vals xs us):∀k:Nat,Vals (List.replicate k xs).flatten (List.replicate k us).flatten
 |0=>.nil
 |k+1=>by
  rw [List.replicate_succ,List.replicate_succ,List.flatten_cons,List.flatten_cons];exact Vals.append h (Vals.rep h k)
theorem qp {α:Type} (l:List α):l.eraseIdx (l.length-1)=l.dropLast:=by
 induction l with
 |nil=>rfl
 |cons a r ih =>
  cases r with
  |nil=>rfl
  |cons b r =>
   have e:(a :: b :: r).length-1=((b :: r).length-1)+1:=by
    have h1:(a :: b :: r).length=r.length+2:=rfl;have h2:(b :: r).length=r.length+1:=rfl
    lia
   rw [e,List.eraseIdx_cons_succ,ih]
   all_goals rfl
theorem foldl_rep (its:List Value):∀(k:Nat) (acc:List Value),
  List.foldl (λx1 x2=>x1++x2) acc.toArray (List.replicate k its.toArray)=(acc++(List.replicate k its).flatten).toArray
 |0,acc=>by simp
 |k+1,acc=>by
  have e:acc.toArray++its.toArray=(acc++its).toArray:=by simp
  have e2:(acc++its)++(List.replicate k its).flatten=acc++(List.replicate (k+1) its).flatten:=by
   rw [List.replicate_succ,List.flatten_cons,ZB]
  rw [<-e2,<-foldl_rep its k (acc++its),<-e,List.replicate_succ,List.foldl_cons]
section
variable {X:Cx} {pins:List (Addr×Obj)} {σ:St} {H:Hp} {s:Shared} {l b:Addr} {xs ys zs:List V}
theorem Inv.lset {its its':List Value} {n:Nat} {f:Array Value->Array Value} {t':Nat} (I:Inv X pins σ H s) (hH:H l=some (.lst xs))
  (e:s.heap.get? l=some { cls:=.type "list",data:=.seq its.toArray n }) (hf:f its.toArray=its'.toArray) (hv:Vals ys its') (hz:ys.length<=sizeLine) :
  Inv X pins σ (upd H l (.lst ys)) { s with heap:=s.heap.update l (Obj.mapSeq f),toks:=t' }:=by
 have q:=PySem.IsL.update e f;rw [hf]at q;refine I.write (x:=l) (e:=l) (by rw [hH];exact trivial) (.inl rfl) (λb' u hb hu=>(Heap.get?_update_other s.heap (Obj.mapSeq f) (Ne.symm hb)).trans hu) ⟨_,q⟩ ?_
 exact ⟨hz,its',_,hv,q⟩
theorem Inv.lnew {its:List Value} {t':Nat} (I:Inv X pins σ H s) (hv:Vals ys its) (hz:ys.length<=sizeLine) :
  Inv X pins σ (upd H s.heap.objs.size (.lst ys)) { s with heap:=s.heap.push { cls:=.type "list",data:=.seq its.toArray },toks:=t' } :=
 I.laid (λ_ _ q=>Heap.get?_push_of_some _ q) (Zm _) ⟨hz,its,0,hv,Heap.get?_push_size _ rfl⟩
theorem Inv.fresh (I:Inv X pins σ H s):H s.heap.objs.size=none:=I.hok.fresh (Zm _)
theorem Inv.lstM (I:Inv X pins σ H s) (hH:H l=some (.lst xs)):xs.length<=sizeLine/\∃(its:List Value) (n:Nat),Vals xs its/\xs.length=its.length/\s.heap.get? l=some { cls:=.type "list",data:=.seq its.toArray n }:=by
 obtain ⟨z,its,n,r,e⟩:=I.hok l _ hH;exact ⟨z,its,n,r,r.length,e⟩
theorem ub {n:Nat} (h:n<=sizeLine):Builtin.List.listTooLong n=false:=by
 unfold Builtin.List.listTooLong;exact decide_eq_false (by lia)
end
section
variable {X:Cx}
noncomputable def qI:V->List V->Hp->VK->Prop:=λx vs H Q=>∃l xs y,x=.ref l/\vs=[y]/\H l=some (.lst xs)/\xs.length<sizeLine/\Q .non (upd H l (.lst (xs++[y])))
theorem nG:MtM X "list.append" qI:=by
 intro pins s σ H x vs v us Q I rx rv h;obtain ⟨l,xs,y,rfl,rfl,hH,hz,q⟩:=h;cases rx;obtain ⟨u,rfl,ru⟩:=rv.one;obtain ⟨z,its,n,r,hl,e⟩:=I.lstM hH;refine call_meets F.slot_list_append ⟨_,e,rfl⟩ F.entry_list_append (F.args_list_append_2 _ _) (PySem.list_append l its.toArray n u (by rw [Zy];lia)) ⟨e,?_⟩
 refine ⟨.non,_,I.lset (its':=its++[u]) hH e (by simp) (r.append (.cons ru .nil)) ?_,rfl,q⟩
 rw [Zd,List.length_singleton]
 lia
noncomputable def Al:V->List V->Hp->VK->Prop:=λx vs H Q=>∃l xs y,x=.ref l/\vs=[]/\H l=some (.lst xs)/\xs[xs.length-1]?=some y/\Q y (upd H l (.lst xs.dropLast))
theorem zD:MtM X "list.pop" Al:=by
 intro pins s σ H x vs v us Q I rx rv h;obtain ⟨l,xs,y,rfl,rfl,hH,hy,q⟩:=h;cases rx;have hus:=rv.zero;subst hus;obtain ⟨z,its,n,r,hl,e⟩:=I.lstM hH;obtain ⟨u,hu,ru⟩:=r.get hy;have hy':its.toArray[its.toArray.size-1]?=some u:=by
  show its.toArray[its.length-1]?=some u
  rw [<-Array.getElem?_toList,<-hl];exact hu
 refine call_meets F.slot_list_pop ⟨_,e,rfl⟩ F.entry_list_pop (F.args_list_pop_1 _) (MeetsSeq.list_pop_last l its.toArray n u hy' (by rw [Zy];lia)) ⟨e,?_⟩
 refine ⟨y,_,I.lset (its':=its.dropLast) hH e ?_ r.dropLast ?_,ru,q⟩
 ·show its.toArray.eraseIdxIfInBounds (its.toArray.size-1)=its.dropLast.toArray
  rw [Zy,List.eraseIdxIfInBounds_toArray,qp]
 ·rw [List.length_dropLast]
  lia
theorem len_rep {α:Type} (xs:List α) (k:Nat):(List.replicate k xs).flatten.length=k * xs.length:=by
 induction k with
 |zero=>simp
 |succ k ih=>rw [List.replicate_succ,List.flatten_cons,Zd,ih,Nat.succ_mul,Nat.add_comm]
end
section
variable {prog:Program} {w:World} {A:Around} {E:Value->Shared->Prop} {s:Shared}
set_option maxRecDepth 100000 in
end
section
variable {X:Cx}
end
end L2
namespace Att
open PySem PySem.W PySem.Calls PyProof.Rows
theorem kZ {P:Params} {h:Heap}:∀(ns:List Int) (vs:List Value),WellAll P h vs (ns.map WData.int)->IntsAre vs ns:=by
 intro ns
 induction ns with
 |nil =>
  intro vs w;rw [List.map_nil]at w;cases w;exact .nil
 |cons n ns ih =>
  intro vs w;rw [Zj]at w;cases w with
  |cons a b =>
   cases a;exact .cons _ _ (ih _ b)
theorem sR {l:OpenLaw} {n:Nat} (hn:l.most=some n) {P:Params} {h:Heap} {args:List WData} {vals:List Value}
  (hpre:l.row.toRowW.claim.pre args=true) (hwl:WellAll P h vals args) :
  ∃a vs ns,vals=[Value.ref a]/\args=[WData.list (ns.map WData.int)]/\h.get? a=some { cls:=.type "list",data:=.seq vs.toArray }/\IntsAre vs ns/\ns.length<=n:=by
 have hsh:WShape.hasAll [] args [.list .int]=true:=(pre_splitW hpre).1;have hc:l.pre.holds [] { args:=args }=true:=(pre_splitW hpre).2;obtain ⟨d,r,rfl,h1,h2⟩:=hasAllW_cons hsh;obtain rfl:=hasAllW_nil h2;obtain ⟨xs,rfl,h3⟩:=hasW_list h1;obtain ⟨ns,rfl⟩:=items_int h3;have hlen:ns.length<=n:=by
  unfold OpenLaw.pre at hc;have h4:(WTm.not (.lt (.lit (.int (n:Int))) (.len (.arg 0)))).holds [] { args:=[.list (ns.map .int)] }=true:=by
   have h4:=(holds_andW hc).1;rw [hn]at h4;exact h4
  have h5:=condW_of h4 (w_not (w_lt w_lit (w_len_list (w_arg rfl))));rw [Zc]at h5;refine Nat.le_of_not_lt λq=>?_
  have q':(n:Int)<((ns.length:Nat):Int):=by lia
  first
   | (rw [decide_eq_true q']at h5;exact absurd h5 (by decide))
   | (simp at h5;lia)
 cases hwl with
 |cons w1 w2 =>
  cases w2;cases w1 with
  |list ho hall=>exact ⟨_,_,ns,rfl,rfl,ho,kZ ns _ hall,hlen⟩
theorem sN (l:OpenLaw) (args:List WData):l.row.toRowW.claim.post args (.bool true) args=true :=
 postW_of (r:=l.row.toRowW) (X:=(true == true))
  (show WShape.has [] (.bool true) .bool=true by first | rfl | decide | simp [WShape.has,WShape.arms,WShape.armsAll])
  (show (WTm.eq .res (.lit (.bool true))).value [] { args:=args,res:=some (.bool true),after:=args }=some (.bool (true == true)) from w_eq_bool (w_res rfl) w_lit) rfl
theorem kQ {l:OpenLaw} {n:Nat} {q:Program} {loose:List Str} {XP:(Str->Option Value)->Heap->Prop} {YP:World->Heap->Prop} {d:DefRec}
  (hn:l.most=some n) (hdf:d.params.defaults=[])
  (call:∀(w:World) (s₀ s₁:Shared) (mg mb:Str->Option Value) (fa:Addr) (o:Obj) (pm cd doc:Value) (a:Addr) (vs:List Value) (ns:List Int),
   Ground q loose [] XP w s₀ mg mb s₁.heap->YP w s₁.heap ->
   s₁.heap.get? fa=some o->o.data=.func (docDef d.name d.params d.body d.scope pm cd doc)->s₁.heap.CodeRec cd d.name->mg d.name=some (.ref fa) ->
   s₁.heap.get? a=some { cls:=.type "list",data:=.seq vs.toArray }->IntsAre vs ns->ns.length<=n->s₁.gens=#[] ->
   codeAny (model l.prog w) callerA (.call (.ref fa) ⟨[.ref a],[]⟩) (λr s'=>r=.ok (.ret (.bool true))/\OldK s₁.heap s'.heap/\s'.os=s₁.os/\AllBare s'.gens) s₁) :
  WalkO q loose XP YP l.row.toRowW d [] (λf vs=>PySem.call f vs):=by
 intro w s₀ s₁ mg mb G Y fa o pm cd doc dV kV ho hd hcd hD hmg hg args vals as hpre hlay hrd hwl hlo;obtain rfl:dV=.none:=Dflts.none hD hdf;obtain rfl:kV=.none:=Dflts.noKw hD;obtain ⟨a,vs,ns,rfl,rfl,hobj,hints,hlen⟩:=sR hn hpre hwl;refine enter_call (codeAny_mono (call w s₀ s₁ mg mb fa o pm cd doc a vs ns G Y ho (fd_plain hd) hcd hmg hobj hints hlen hg) λr s' hq=>?_)
 obtain ⟨rfl,h2,h3,h4⟩:=hq;exact ⟨.inl ⟨.bool true,.bool true,[],rfl,λ_=>rfl,.bool true,sN l _,λ_=>⟨List.Pairwise.nil,λ_ hm=>(nomatch hm)⟩⟩,h2,h3,h4⟩
section
variable {prog:Program} {w:World} {A:Around} {E:Value->Shared->Prop} {s:Shared} {K:Frag}
noncomputable def ledger (h:Heap) (L d:Addr):List (Addr×Obj):=(List.range h.objs.size).filterMap λa=>if a=L\/a=d then none else (h.get? a).map λo=>(a,o)
end
end Att
namespace L2
open PySem PySem.Spec PyProof.Rows
theorem ig:∀{vs:List Value} {ns:List Int},IntsAre vs ns->Vals (ns.map V.int) vs
 |_,_,.nil=>.nil
 |_,_,.cons n t h=>.cons ⟨t,rfl⟩ (ig h)
noncomputable def r_ (H:Hp):Prop:=∀b,H b=none\/∃o xs,H b=some (.frz o (.lst xs))
theorem tF {P:Program} {w:World} {K:PySem.W.Frag} {mg mb:Str->Option Value} {CX:CXT} {k:Nat} {fa a:Addr} {fd:FuncData} {x:Str} {sp:Sp} {s₁:Shared} {vs:List Value} {ns:List Int}
  (KX:K.In s₁.heap) (hns:s₁.heap.Ns mainGlobals mg) (hb:s₁.heap.Ns builtinsNs mb) (hbb:∀x:Str,x ≠ "__name__" -> mb x=bootBuiltins x) (hlim:s₁.heap.NoLimit) (hg:s₁.gens=#[])
  (ha:s₁.heap.get? a=some { cls:=.type "list",data:=.seq vs.toArray }) (hi:IntsAre vs ns) (hl:ns.length<=sizeLine) (hr:Room k callerA)
  (F:∀base:Heap,K.In base->base.Ns mainGlobals mg->FnOk P w K mg base CX k fa fd [x] sp) (hbind:∀(s:Shared) (u:Value),BindsTo s fd ⟨[u],[]⟩ [(x,u)])
  (hsp:∀H:Hp,r_ H->SqL K H a (ns.map V.int)->sp [.ref a] H (λv _=>v=.bl true) λ_ _ _=>False)
  (hCX:∀H e s',CX [] H s₁ (λ_ _ _=>False) e s'->False) :
  codeAny (model P w) callerA (.call (.ref fa) ⟨[.ref a],[]⟩) (λr s'=>r=.ok (.ret (.bool true))/\OldK s₁.heap s'.heap/\s'.os=s₁.os/\AllBare s'.gens) s₁:=by
 have rv:=ig hi;have lenV:=hi.length;have core:∀H:Hp,r_ H->SqL K H a (ns.map V.int)->HOk P w H s₁.heap->(∀b,H b≠none->b=a)->(H a≠none->K.lookup a=none) ->
   codeAny (model P w) callerA (.call (.ref fa) ⟨[.ref a],[]⟩) (λr s'=>r=.ok (.ret (.bool true))/\OldK s₁.heap s'.heap/\s'.os=s₁.os/\AllBare s'.gens) s₁:=by
  intro H hO hS hok hA hK;have base_of:∀{b:Addr} {o:Obj},s₁.heap.get? b=some o->H b=none->(kh s₁.heap H).get? b=some o:=λe n=>pF e n
  have noA:∀{b:Addr} {o:Obj} {es:Array DictEntry} {ep:Nat},s₁.heap.get? b=some o->o.data=.dict es ep->H b=none:=fun {b o es ep} e d=>by
   cases q:H b with
   |none=>rfl
   |some u =>
    have e':b=a:=hA b (by rw [q];simp)
    subst e';rw [ha]at e;cases e;have d':Data.seq vs.toArray _=Data.dict es ep:=d;cases d'
  have nsK:∀{b:Addr} {m:Str->Option Value},s₁.heap.Ns b m->(kh s₁.heap H).Ns b m:=fun {b m} ⟨o,es,ep,e,d,r⟩=>⟨o,es,ep,base_of e (noA e d),d,r⟩
  have hKb:K.In (kh s₁.heap H):=λb o e=>base_of (KX b o e) (by
   cases q:H b with
   |none=>rfl
   |some u =>
    have e':b=a:=hA b (by rw [q];simp)
    subst e';rw [hK (by rw [q];simp)]at e;cases e)
  have hM:Mod K mg (kh s₁.heap H):=⟨hKb,nsK hns,⟨mb,nsK hb,hbb⟩,let ⟨mc,h1,h2⟩:=hlim;⟨mc,nsK h1,h2⟩⟩;have e0:Env0 P w K mg (kh s₁.heap H) callerA [] s₁ H:=⟨rfl,hM,λb o e=>qN e,Nat.le_of_eq (mR _ _),trivial,λb hb=>absurd (show b∈([]:List Addr) from hb) (by simp),hok,.of_eq hg⟩
  refine codeAny_mono ((F _ hKb (nsK hns)).run callerA [] s₁ H ⟨[.ref a],[]⟩ [.ref a] [.ref a] _ _ hr e0 (hbind s₁ (.ref a)) (.cons rfl .nil) (hsp H hO hS)) λr s' h=>?_
  cases r with
  |error e=>exact (hCX H e s' h).elim
  |ok fl =>
   cases fl with
   |next=>exact False.elim h
   |brk=>exact False.elim h
   |cont=>exact False.elim h
   |ret u =>
    obtain ⟨v,H',os,bare,un,hok',r',q⟩:=h;have q':v=.bl true:=q;subst q';obtain rfl:u=Value.bool true:=r';refine ⟨rfl,OldK.of_keep λb o e=>?_,os,bare⟩
    cases q:H b with
    |none=>exact un.keep b o e q (by intro z;exact absurd (show b∈([]:List Addr) from z) (by simp)) (by simp)
    |some u =>
     rcases hO b with z | ⟨ob,xs,z⟩
     ·rw [q]at z;cases z
     ·have z2:=un.frzs b ob _ z
      obtain ⟨e1,_⟩:=hok b _ z;obtain ⟨e2,_⟩:=hok' b _ z2;rw [e]at e1;cases e1;exact e2
 cases hk:K.lookup a with
 |some o =>
  have e:=KX a o hk;rw [ha]at e;cases e;refine core (λ_=>none) (λ_=>.inl rfl) (.inr ⟨_,vs.toArray,_,hk,rfl,rfl,rfl,by rw [Zy,lenV];exact hl,by simpa using rv⟩) (λb u z=>by have z':(none:Option HO)=some u:=z;cases z') (λb z=>absurd rfl z) λz=>absurd rfl z
 |none =>
  refine core (λb=>if b=a then some (.frz { cls:=.type "list",data:=.seq vs.toArray } (.lst (ns.map V.int))) else none) (λb=>?_) (.inl (.inr ⟨{ cls:=.type "list",data:=.seq vs.toArray },if_pos rfl⟩)) (λb u z=>?_) (λb z=>?_) λ_=>hk
  ·by_cases hb:b=a
   ·exact .inr ⟨_,_,if_pos hb⟩
   ·exact .inl (if_neg hb)
  ·by_cases hb:b=a
   ·have z':=(if_pos hb).symm.trans z
    cases z';subst hb;exact ⟨ha,by rw [Zc];exact hl,vs,_,rv,ha⟩
   ·have z':=(if_neg hb).symm.trans z
    cases z'
  ·by_cases hb:b=a
   ·exact hb
   ·exact absurd (if_neg hb) z
noncomputable abbrev KOf {K:PySem.W.Frag} {h:Heap} (_:K.In h):PySem.W.Frag:=K
theorem FZ {l:PySem.W.OpenLaw} {n k:Nat} {q:Program} {loose:List Str} {XP:(Str->Option Value)->Heap->Prop} {YP:World->Heap->Prop} {d:DefRec} {K:Params->PySem.W.Frag} {CX:World->CXT} {sp:World->Sp} {x:Str}
  (hn:l.most=some n) (hn2:n<=sizeLine) (hdf:d.params.defaults=[]) (hr:Room k callerA)
  (hY:∀(w:World) (h:Heap),YP w h->(K w.params).In h)
  (F:∀(w:World) (mg:Str->Option Value) (fa:Addr) (h:Heap),(K w.params).In h->h.Ns mainGlobals mg->mg d.name=some (.ref fa) ->
   ∃fd:FuncData,(∀(s:Shared) (u:Value),BindsTo s fd ⟨[u],[]⟩ [(x,u)]) /\
    ∀base:Heap,(K w.params).In base->base.Ns mainGlobals mg->FnOk l.prog w (K w.params) mg base (CX w) k fa fd [x] (sp w))
  (hsp:∀(w:World) (H:Hp) (a:Addr) (ns:List Int),ns.length<=n->r_ H->SqL (K w.params) H a (ns.map V.int)->sp w [.ref a] H (λv _=>v=.bl true) λ_ _ _=>False)
  (hCX:∀(w:World) (H:Hp) (s:Shared) (e:Value) (s':Shared),CX w [] H s (λ_ _ _=>False) e s'->False) :
  PySem.W.WalkO q loose XP YP l.row.toRowW d [] (λf vs=>PySem.call f vs):=by
 refine Att.kQ hn hdf λw s₀ s₁ mg mb fa o pm cd doc a vs ns G Y ho hd hcd hmg hobj hints hlen hg=>?_
 have KX:=hY w _ Y;obtain ⟨fd,hb,hF⟩:=F w mg fa _ KX G.T.g hmg;exact tF KX G.T.g G.T.b G.T.builtins G.T.nolimit hg hobj hints (ZE hlen hn2) hr hF hb (λH hO hS=>hsp w H a ns hlen hO hS) λH e s'=>hCX w H s₁ e s'
noncomputable def aT (s:Stmt):Arguments:=match s with
 |.FunctionDef _ a _ _ _ _ _ _ _ _=>a
 |_=>{ posonlyargs:=[],args:=[],vararg:=none,kwonlyargs:=[],kw_defaults:=[],kwarg:=none,defaults:=[] }
noncomputable def aP (s:Stmt):List Stmt:=match s with
 |.FunctionDef _ _ b _ _ _ _ _ _ _=>b
 |_=>[]
noncomputable def aq (s:Stmt):Scope:=match s with
 |.FunctionDef _ _ _ _ _ _ sc _ _ _=>sc
 |_=>{ kind:=.function,names:=[],isGenerator:=false,isCoroutine:=false }
noncomputable abbrev CX0:CXT:=λ_ _ _ _ _ _=>False
noncomputable abbrev E0:XK:=λ_ _ _=>False
structure Fun (K:PySem.W.Frag) (x qual:Str) (st:Stmt) (f:Addr) (fd:FuncData):Prop where
 ex:∃(oc:Value) (od:Option Addr) (kV doc pm:Value) (an:Option Addr) (cdv ct:Value) (osl:Array (Option Value)),
  fd=PySem.W.fnOf x qual (aT st) (aP st) (aq st) .none kV doc pm an cdv ct/\K.lookup f=some ⟨oc,od,.func fd,osl⟩/\PySem.W.codeIn K cdv qual=true
 kp:PySem.W.keepIn K (.ref f)=true
section
variable {P:Program} {w:World} {K:PySem.W.Frag} {mg:Str->Option Value} {base:Heap}
theorem Fun.ok {x qual:Str} {st:Stmt} {f:Addr} {fd:FuncData} {N ps:List Str} {k:Nat} {sp:Sp} (F:Fun K x qual st f fd) (S:FnScope N ps (aq st)) (len:∀vs H Q E,sp vs H Q E->vs.length=ps.length)
  (hbody:∀(cdv:Value) (A:Around) (outer:List Env) (s:Shared) (H:Hp) (vs:List V) (Q:VK) (E:XK),Room k (A.deeper (envOfC qual (aq st) s.heap.objs.size f cdv))->sp vs H Q E ->
   ∃t,PSs (iQ CX0 P w K mg base N qual (aq st) f cdv A outer s H E).nox (aP st) t/\t { nx:=λ_ H'=>Q .non H',rt:=Q } (start N vs) H):FnOk P w K mg base CX0 (k+1) f fd ps sp:=by
 obtain ⟨oc,od,kV,doc,pm,an,cdv,ct,osl,rfl,lk,hcd⟩:=F.ex;refine yF lk hcd S len λA outer s H vs Q E hr hsp=>?_
 obtain ⟨t,h,q⟩:=hbody cdv A outer s H vs Q E hr hsp;exact ⟨t,h.nox,q⟩
theorem Fun.binds {x qual:Str} {st:Stmt} {f:Addr} {fd:FuncData} {ps:List Str} (F:Fun K x qual st f fd)
  (h:∀(kV doc pm:Value) (an:Option Addr) (cdv ct:Value) (us:List Value),us.length=ps.length->bindArgs (PySem.W.fnOf x qual (aT st) (aP st) (aq st) .none kV doc pm an cdv ct) ⟨us,[]⟩=pure (ps.zip us)):Binds K fd ps []:=by
 obtain ⟨oc,od,kV,doc,pm,an,cdv,ct,osl,rfl,lk,hcd⟩:=F.ex;exact .all (h kV doc pm an cdv ct)
theorem bq {x qual:Str} {st:Stmt} {f:Addr} {oc:Value} {od an:Option Addr} {osl:Array (Option Value)} {kV doc pm cdv ct:Value} (l:K.lookup f=some ⟨oc,od,.func (PySem.W.fnOf x qual (aT st) (aP st) (aq st) .none kV doc pm an cdv ct),osl⟩)
  (c:PySem.W.codeIn K cdv qual=true) (k:PySem.W.keepIn K (.ref f)=true):Fun K x qual st f (PySem.W.fnOf x qual (aT st) (aP st) (aq st) .none kV doc pm an cdv ct):=⟨⟨oc,od,kV,doc,pm,an,cdv,ct,osl,rfl,l,c⟩,k⟩
end
section
variable {X:Cx}
end
noncomputable def aS (H H':Hp):Prop:=∀b o,H b=some o->H' b=some o
theorem aS.refl (H:Hp):aS H H:=λ_ _ h=>h
theorem aS.trans {H H1 H2:Hp} (a:aS H H1) (b:aS H1 H2):aS H H2:=λc o h=>b c o (a c o h)
theorem aS.free {H H':Hp} (e:aS H H') {l:Addr} (h:H' l=Option.none):H l=Option.none:=by
 cases q:H l with
 |none=>rfl
 |some o =>
  rw [e l o q]at h;cases h
theorem aS.seq {K:PySem.W.Frag} {H H':Hp} {a:Addr} {xs:List V} (e:aS H H') (h:SqL K H a xs):SqL K H' a xs:=by
 rcases h with (h | ⟨o,h⟩) | h
 ·exact .inl (.inl (e _ _ h))
 ·exact .inl (.inr ⟨o,e _ _ h⟩)
 ·exact .inr h
end L2
set_option maxHeartbeats 4000000
namespace L2
open PySem PySem.Spec PyProof.Rows
noncomputable def frees (env:Env):List (Str×NameKind)->List (Str×Addr)->List (Str×Addr)
 |[],cs=>cs
 | (n,k) :: r,cs=>if (k == NameKind.free)=true then frees env r ((n,(env.cells.lookup n).getD 0) :: cs) else frees env r cs
theorem kN {env:Env} {x:Str} {c:Addr}:∀(l:List (Str×NameKind)) (cs:List (Str×Addr)),(∀y∈l,y.2=.free->∃c,env.cells.lookup y.1=some c) ->
  (∀c,cs.lookup x=some c->env.cells.lookup x=some c)->(frees env l cs).lookup x=some c->env.cells.lookup x=some c
 |[],cs,_,hc,e=>hc c e
 | (n,k) :: r,cs,hl,hc,e=>by
  unfold frees at e;by_cases hk:(k == NameKind.free)=true
  ·rw [if_pos hk]at e
   obtain ⟨d,hd⟩:=hl (n,k) Zf (by simpa using hk)
   have hd':env.cells.lookup n=some d:=hd;refine kN r _ (λy hy=>hl y (Ze _ hy)) (λc' e'=>?_) e
   rw [List.lookup_cons]at e';cases hx:x == n with
   |true =>
    rw [hx]at e';have hxn:x=n:=by simpa using hx
    rw [hd']at e';rw [hxn,hd'];exact e'
   |false =>
    rw [hx]at e';exact hc c' e'
  ·rw [if_neg hk]at e
   exact kN r cs (λy hy=>hl y (Ze _ hy)) hc e
theorem jl {env:Env} {x:Str}:∀(l:List (Str×NameKind)) (cs:List (Str×Addr)),((x,NameKind.free)∈l\/∃c,cs.lookup x=some c)->∃c,(frees env l cs).lookup x=some c
 |[],cs,h=>by
  rcases h with h | h
  ·cases h
  ·exact h
 | (n,k) :: r,cs,h=>by
  unfold frees;by_cases hk:(k == NameKind.free)=true
  ·rw [if_pos hk]
   refine jl r _ ?_;rcases h with h | ⟨c,h⟩
   ·rcases Zn.mp h with e | e
    ·cases e
     exact .inr ⟨(env.cells.lookup x).getD 0,by rw [List.lookup_cons,beq_self_eq_true]⟩
    ·exact .inl e
   ·refine .inr ?_
    rw [List.lookup_cons];cases hx:x == n with
    |true=>exact ⟨_,rfl⟩
    |false=>exact ⟨c,h⟩
  ·rw [if_neg hk]
   refine jl r _ ?_;rcases h with h | h
   ·rcases Zn.mp h with e | e
    ·cases e
     exact absurd rfl hk
    ·exact .inl e
   ·exact .inr h
theorem rH {env:Env} {x:Str} {k':NameKind}:∀{names:List (Str×NameKind)},((names.map λ(n,k)=>if (k == NameKind.free && env.scope.kind == .function && env.kindOf n == some .cell) then (n,NameKind.cell) else (n,k)).lookup x=some k') ->
  ∃k,names.lookup x=some k/\(k'=k\/(k=.free/\k'=.cell))
 |[],h=>by simp at h
 | (n,k) :: r,h=>by
  rw [Zj]at h
  dsimp only at h
  rw [List.lookup_cons];by_cases hc:(k == NameKind.free && env.scope.kind == .function && env.kindOf n == some .cell)=true
  ·rw [if_pos hc,List.lookup_cons]at h
   cases hx:x == n with
   |true =>
    rw [hx]at h;cases h;have hk:k=.free:=by
     rw [Zu,Zu]at hc
     simpa using hc.1.1
    exact ⟨k,rfl,.inr ⟨hk,rfl⟩⟩
   |false =>
    rw [hx]at h;exact rH h
  ·rw [if_neg hc,List.lookup_cons]at h
   cases hx:x == n with
   |true =>
    rw [hx]at h;cases h;exact ⟨_,rfl,.inl rfl⟩
   |false =>
    rw [hx]at h;exact rH h
theorem jX {env:Env} {x:Str}:∀{names:List (Str×NameKind)},names.lookup x=some .free ->
  (names.map λ(n,k)=>if (k == NameKind.free && env.scope.kind == .function && env.kindOf n == some .cell) then (n,NameKind.cell) else (n,k)).lookup x=some .cell \/
  (names.map λ(n,k)=>if (k == NameKind.free && env.scope.kind == .function && env.kindOf n == some .cell) then (n,NameKind.cell) else (n,k)).lookup x=some .free
 |[],h=>by simp at h
 | (n,k) :: r,h=>by
  rw [Zj]
  dsimp only
  rw [List.lookup_cons]at h;by_cases hc:(k == NameKind.free && env.scope.kind == .function && env.kindOf n == some .cell)=true
  ·rw [if_pos hc,List.lookup_cons]
   cases hx:x == n with
   |true=>exact .inl rfl
   |false =>
    rw [hx]at h;exact jX h
  ·rw [if_neg hc,List.lookup_cons]
   cases hx:x == n with
   |true =>
    rw [hx]at h;cases h;exact .inr rfl
   |false =>
    rw [hx]at h;exact jX h
theorem fV {x:Str} {k:NameKind}:∀{l:List (Str×NameKind)},l.lookup x=some k->(x,k)∈l
 | (n,j) :: r,h=>by
  rw [List.lookup_cons]at h;cases hx:x == n with
  |true =>
   rw [hx]at h;cases h;have:x=n:=by simpa using hx
   rw [this];exact Zf
  |false =>
   rw [hx]at h;exact Ze _ (fV h)
theorem me {scope:Scope} {env:Env} (h:∀x∈scope.names,x.2=.free->∃c,env.cells.lookup x.1=some c):closureFor scope env=pure (frees env scope.names []):=by
 unfold closureFor;have key:∀(l:List (Str×NameKind)) (cs:List (Str×Addr)),(∀x∈l,x.2=.free->∃c,env.cells.lookup x.1=some c) ->
  (forIn l cs λ(x:Str×NameKind) (r:List (Str×Addr))=>if (x.2 == NameKind.free)=true then do let a <-cellOf env x.1;pure (ForInStep.yield ((x.1,a) :: r)) else pure (ForInStep.yield r):Sem (List (Str×Addr)))=pure (frees env l cs):=by
  intro l
  induction l with
  |nil=>intro cs _;rfl
  |cons x r ih =>
   intro cs hx;obtain ⟨n,k⟩:=x;rw [List.forIn_cons]
   dsimp only
   have hr:=λcs=>ih cs λy hy=>hx y (Ze _ hy)
   by_cases hk:(k == NameKind.free)=true
   ·obtain ⟨c,hc⟩:=hx (n,k) Zf (by simpa using hk)
    have hc':env.cells.lookup n=some c:=hc;rw [if_pos hk];unfold frees;rw [if_pos hk];have e1:cellOf env n=pure c:=by unfold cellOf;rw [hc']
    rw [e1,hc',<-hr];rfl
   ·rw [if_neg hk]
    unfold frees;rw [if_neg hk,<-hr];rfl
 have:=key scope.names [] h;simp only [bind_pure];exact this
section
variable {prog:Program} {w:World} {A:Around} {R:Result->Shared->Prop} {s:Shared}
noncomputable def vA (ifs:List Expr) (env:Env):Sem Bool:=forIn ifs true λc r=>if r=true then do let ok <-isTrue c env (eval c env);pure (ForInStep.yield ok) else pure (ForInStep.yield r)
theorem oh {elt tg iter:Expr} {ifs:List Expr} {scope:Scope} {pos:Pos} {it acc:Value} {env:Env} (J:Nat->Shared->Prop)
  (turn:∀n s,J n s->wpAny (model prog w) A (pyNext it) (λr s1=>match r with
   |none=>R (.ok .next) s1
   |some v=>wpAny (model prog w) A (letOwnedTupleGo tg it v) (λ_ s2=>wpAny (model prog w) A (assign tg env v) (λ_ s3=>wpAny (model prog w) A (vA ifs env) (λok s4 =>
     if ok=true then wpAny (model prog w) A (eval elt env) (λx s5=>wpAny (model prog w) A (call (.builtin "list.append") [acc,x]) (λ_ s6=>∃m,m<n/\J m s6) (λ_ _=>False) s5) (λ_ _=>False) s4
     else ∃m,m<n/\J m s4) (λ_ _=>False) s3) (λ_ _=>False) s2) (λ_ _=>False) s1) (λ_ _=>False) s)
  (n:Nat) (h:J n s):codeAny (model prog w) A (.compLoop (.ListComp elt [⟨tg,iter,ifs,0⟩] scope pos) 0 it acc env) R s:=by
 refine codeAny_loop rfl J (λn s hJ=>?_) n h
 have no:∀(P:Value->Shared->Prop) (e:Value) (s':Shared),False->P e s':=λ_ _ _ f=>f.elim
 show wpAny _ A ((compTurn (.ListComp elt [⟨tg,iter,ifs,0⟩] scope pos) 0 it acc env).onRaise (λx=>do noteFrame x env;theTreesLotGoes x)) _ _ s
 refine wpAny_noted ?_;rw [compTurn_list];refine wpAny_bind (wpAny_standAt (wpAny_bind (wpAny_mono (turn n s hJ) (λr s1 h1=>?_) λe s' f=>f.elim)))
 cases r with
 |none=>exact wpAny_pure h1
 |some v =>
  refine wpAny_bind (wpAny_mono h1 (λ_ s2 h2=>?_) λe s' f=>f.elim)
  refine wpAny_bind (wpAny_mono h2 (λ_ s3 h3=>?_) λe s' f=>f.elim)
  refine wpAny_bind (wpAny_mono h3 (λok s4 h4=>?_) λe s' f=>f.elim)
  cases ok with
  |false=>exact wpAny_pure ⟨rfl,h4⟩
  |true =>
   refine wpAny_bind (wpAny_bind (wpAny_mono h4 (λx s5 h5=>?_) λe s' f=>f.elim))
   exact wpAny_bind (wpAny_mono h5 (λ_ s6 h6=>wpAny_pure (wpAny_pure ⟨rfl,h6⟩)) λe s' f=>f.elim)
end
noncomputable def cxB (X:Cx) (N:List Str) (scope:Scope) (s:Shared) (H:Hp) (C:Addr) (ex:List Addr) (pins:List (Addr×Obj)):Cx :=
 { X with N:=N,s₀:=s,H₀:=H,env:=compEnvC scope (frees X.env scope.names []) C X.env,outer:=X.stack,ex:=ex,fn:=λ_=>false,pn:=X.pn++pins,xe:=λ_ _=>False }
noncomputable def kv (X:Cx) (scope:Scope):List (Nat×Str)->Prop
 |[]=>True
 |p :: r=>(X.N[p.1]?=some p.2/\scope.names.lookup p.2=some .free)/\kv X scope r
theorem kv.get {X:Cx} {scope:Scope}:∀{outs:List (Nat×Str)} {j:Nat} {p:Nat×Str},kv X scope outs->outs[j]?=some p->X.N[p.1]?=some p.2/\scope.names.lookup p.2=some .free
 |[],_,_,_,e=>by simp at e
 |q :: r,0,p,h,e=>by
  simp at e
  subst e;exact h.1
 |q :: r,j+1,p,h,e=>kv.get (j:=j) h.2 (by simpa using e)
structure Blk (X:Cx) (sc scope:Scope) (outs:List (Nat×Str)):Prop where
 hsc:X.env.scope=sc
 kind:scope.kind=.function
 loc:∀x∈scope.names,x.2=.local->scope.names.lookup x.1=some .local
 nocell:∀x∈scope.names,x.2≠.cell
 fr:∀x∈scope.names,x.2=.free->sc.names.lookup x.1=some .cell\/sc.names.lookup x.1=some .free
 out:kv X scope outs
noncomputable def slots (k:Nat) (outs:List (Nat×Str)) (σ:St):St:=List.replicate k none++outs.map λp=>(σ[p.1]?).join
noncomputable def gZ:St->St->Prop
 |[],[]=>True
 |none :: r,_ :: r'=>gZ r r'
 |some v :: r,w :: r'=>w=some v/\gZ r r'
 |_,_=>False
theorem gZ.len:∀{σ σ':St},gZ σ σ'->σ.length=σ'.length
 |[],[],_=>rfl
 |none :: r,_ :: r',h=>by
  have:=gZ.len (σ:=r) (σ':=r') h;simp [this]
 |some v :: r,w :: r',h=>by
  have:=gZ.len (σ:=r) (σ':=r') h.2;simp [this]
theorem gZ.get:∀{σ σ':St} {i:Nat} {v:V},gZ σ σ'->σ[i]?=some (some v)->σ'[i]?=some (some v)
 |[],_,_,_,_,e=>by simp at e
 |none :: r,w :: r',0,v,_,e=>by simp at e
 |none :: r,w :: r',i+1,v,h,e=>by
  have:=gZ.get (σ:=r) (σ':=r') (i:=i) (v:=v) h (by simpa using e)
  simpa using this
 |some u :: r,w :: r',0,v,h,e=>by
  simp at e
  rw [h.1];simp [e]
 |some u :: r,w :: r',i+1,v,h,e=>by
  have:=gZ.get (σ:=r) (σ':=r') (i:=i) (v:=v) h.2 (by simpa using e)
  simpa using this
noncomputable def PF (X:Cx) (ifs:List Expr) (t:TT):Prop :=
 ∀(pins:List (Addr×Obj)) (s:Shared) (σ:St) (H:Hp) (Q:Bool->Hp->Prop),Inv X pins σ H s->t σ H Q->wpAny (model X.prog X.w) X.A (vA ifs X.env) (TP X pins σ Q) X.xe s
noncomputable def Gh:TT:=λ_ H Q=>Q true H
theorem Bz {X:Cx}:PF X [] Gh:=λ_ _ _ H _ I h=>wpAny_tests_nil ⟨H,I,h⟩
theorem BF {X:Cx} {c:Expr} {t:TT} (h:PT X c t):PF X [c] t:=λpins s σ H Q I q=>wpAny_tests_one (h pins s σ H Q I q)
noncomputable abbrev Gs (tc:TT) (te:TE) (σ0:St) (D:Addr) (acc:List V) (N:List V->Hp->Prop):St->Hp->Prop:=fun σ2 H3=>gZ σ0 σ2/\tc σ2 H3 λb H4 =>
 if b=true then te σ2 H4 λy H5=>H5 D=some (.lst acc)/\acc.length<sizeLine/\N (acc++[y]) (upd H5 D (.lst (acc++[y]))) else N acc H4
noncomputable def De (J:It) (g:TG) (tc:TT) (te:TE) (σ0:St) (D:Addr) (H1:Hp) (Q:Hp->Prop):Prop :=
 ∃W:Nat->Nat->List V->Hp->Prop,(∃m,W 0 m [] (upd H1 D (.lst [])))/\∀i m acc H',W i m acc H' ->
  (J.stop i H'/\Q H')\/(J.go i H'/\∃N:List V->Hp->Prop,(∀acc' H2,N acc' H2->∃m',m'<m/\W (i+1) m' acc' H2)/\∀x H2,J.yld i H' x H2->g x σ0 H2 (Gs tc te σ0 D acc N))
section
variable {X:Cx} {sc scope:Scope} {own:List Str} {outs:List (Nat×Str)} {elt tg iter:Expr} {ifs:List Expr} {pos:Pos} {g:TG} {tc:TT} {te:TE}
theorem mf (B:Blk X sc scope outs) {pins:List (Addr×Obj)} {σ:St} {H:Hp} {s:Shared} (I:Inv X pins σ H s):∀x∈scope.names,x.2=.free->∃c,X.env.cells.lookup x.1=some c:=λx hx hf=>by
 refine I.ok.has x.1 ?_;show X.env.scope.names.lookup x.1=_\/X.env.scope.names.lookup x.1=_
 rw [B.hsc];exact B.fr x hx hf
theorem xp (B:Blk X sc scope outs) {pins:List (Addr×Obj)} {σ:St} {H:Hp} {s:Shared} {fp:List Addr} (I:Inv X pins σ H s) (f2:∀b∈fp,kS X pins H b) (fo:∀b∈fp,∃o,s.heap.get? b=some o)
  {h1:Heap} {m:Str->Option Value} {tk:Nat} (hn:h1.Ns (s.heap.objs.size+1) m) (old:∀b o,s.heap.get? b=some o->h1.get? b=some o)
  (hD:h1.get? s.heap.objs.size=some { cls:=.type "list",data:=.seq #[] 0 }) :
  Inv (cxB X (own++outs.map (·.2)) scope s H (s.heap.objs.size+1) fp pins) [] (slots own.length outs σ) (upd H s.heap.objs.size (.lst [])) { s with heap:=h1,toks:=tk }:=by
 have bf:=mf B I;have sub:∀x c,(frees X.env scope.names []).lookup x=some c->X.env.cells.lookup x=some c:=λx c e=>kN _ _ bf (λc' e'=>by simp at e') e
 have clt:∀x c,X.env.cells.lookup x=some c->c<s.heap.objs.size:=λx c e=>(let ⟨v,q⟩:=I.cell x c e;q.lt)
 have flt:∀b∈fp,b<s.heap.objs.size:=λb hb=>(let ⟨o,e⟩:=fo b hb;Heap.lt_size e)
 have un:Un (cxB X (own++outs.map (·.2)) scope s H (s.heap.objs.size+1) fp pins).fs (cxB X (own++outs.map (·.2)) scope s H (s.heap.objs.size+1) fp pins).ex H (upd H s.heap.objs.size (.lst [])) s.heap h1:=Un.laid old (Zm _) I.fresh;have hok:HOk X.prog X.w (upd H s.heap.objs.size (.lst [])) h1:=I.hok.laid old (Zm _) ⟨Nat.zero_le _,[],0,.nil,hD⟩;refine ⟨⟨I.ok.mod,B.kind,I.ok.glob,I.ok.blt,Nat.le_succ _,λx y c e1 e2=>I.ok.inj x y c (sub x c e1) (sub y c e2),λx hx=>?_,λx c hf=>?_,I.ok.hd,I.ok.frames,.inl rfl,λb hb=>⟨?_,λx c e=>?_⟩,I.bs,?_,λb o e hb=>?_,λb hb z=>?_,I.stack,I.stkFree⟩,
  rfl,I.bare,un,⟨m,hn,λi x v e1 e2 e3=>?_⟩,λx c e=>?_,?_,λx c e=>?_,λp hp=>?_,hok,?_⟩
 ·obtain ⟨k,e,hk⟩:∃k,scope.names.lookup x=some k/\k=.free:=by
   rcases hx with hx | hx
   ·obtain ⟨k,e,hk⟩:=rH (show ((scope.names.map _).lookup x=some .cell) from hx)
    rcases hk with hk | hk
    ·exact absurd hk.symm (B.nocell _ (fV e))
    ·exact ⟨k,e,hk.1⟩
   ·obtain ⟨k,e,hk⟩:=rH (show ((scope.names.map _).lookup x=some .free) from hx)
    rcases hk with hk | hk
    ·exact ⟨k,e,hk.symm⟩
    ·exact ⟨k,e,hk.1⟩
  subst hk;exact jl _ _ (.inl (fV e))
 ·cases hf
 ·exact Nat.ne_of_lt (Nat.lt_succ_of_lt (flt b hb))
 ·exact (f2 b hb).2.2.2.2.1 x c (sub x c e)
 ·exact ZE I.ok.bsz I.sz
 ·rcases (f2 b hb).2.2.2.1 with z | z
  ·exact I.ok.noex b o e z
  ·exact absurd (ZG (Heap.lt_size e) (ZE I.ok.bsz z)) (Nat.lt_irrefl _)
 ·rcases Zn.mp (I.stkSub b z) with q | q
  ·exact (f2 b hb).2.1 q
  ·exact (f2 b hb).2.2.1 q
 ·
  have hi:own.length<=i:=by
   by_cases hi:own.length<=i
   ·exact hi
   ·have e2':(slots own.length outs σ)[i]?=some (some v):=e2
    unfold slots at e2';rw [List.getElem?_append_left (by simpa using Nat.lt_of_not_le hi),List.getElem?_replicate]at e2'
    split at e2' <;> cases e2'
  have e1':(own++outs.map (·.2))[i]?=some x:=e1;have e2':(slots own.length outs σ)[i]?=some (some v):=e2;unfold slots at e2';rw [List.getElem?_append_right hi,Za]at e1';rw [List.getElem?_append_right (by simpa using hi),List.length_replicate,Za]at e2'
  cases ep:outs[i-own.length]? with
  |none =>
   rw [ep]at e1';cases e1'
  |some p =>
   rw [ep]at e1' e2';have ex:p.2=x:=Zx e1';have ev:(σ[p.1]?).join=some v:=Zx e2';obtain ⟨o1,o2⟩:=B.out.get ep;have es:σ[p.1]?=some (some v):=by
    cases q:σ[p.1]? with
    |none =>
     rw [q]at ev;cases ev
    |some w =>
     rw [q]at ev;have ew:w=some v:=ev;rw [ew]
   rw [ex]at o1 o2;have hk:X.env.scope.names.lookup x=some .cell\/X.env.scope.names.lookup x=some .free:=by
    rw [B.hsc];exact B.fr (x,.free) (fV o2) rfl
   obtain ⟨m0,hn0,hl0⟩:=I.loc;obtain ⟨u,r,l⟩:=hl0 p.1 x v o1 es (hk.elim (λz=>.inr (.inl z)) λz=>.inr (.inr z))
   refine ⟨u,r,.inr ?_⟩;rcases l with ⟨hl,_⟩ | ⟨_,c,ec,hc⟩
   ·have hl':X.env.scope.names.lookup x=some .local:=hl
    rcases hk with z | z <;> (rw [z]at hl';cases hl')
   ·obtain ⟨c',ec'⟩:=jl (env:=X.env) (x:=x) scope.names [] (.inl (fV o2))
    have e3:=sub x c' ec';rw [ec]at e3;cases e3;obtain ⟨oc,q1,q2⟩:=hc;exact ⟨jX o2,c,ec',⟨oc,old _ _ q1,q2⟩⟩
 ·obtain ⟨v,oc,q1,q2⟩:=I.cell x c (sub x c e)
  exact ⟨v,oc,old _ _ q1,q2⟩
 ·show upd H s.heap.objs.size (.lst []) (s.heap.objs.size+1)=none
  rw [aU (Nat.succ_ne_self _)];exact I.hok.fresh (Nat.le_succ _)
 ·rw [aU (Nat.ne_of_lt (clt x c (sub x c e)))]
  exact I.freeC x c (sub x c e)
 ·have hp':p∈X.pn++pins:=by
   have:p∈(X.pn++pins)++[]:=hp
   simpa using this
  obtain ⟨q1,q2,q3,q4,q5⟩:=I.pin p hp';refine ⟨old _ _ q1,?_,Nat.ne_of_lt (Nat.lt_succ_of_lt (Heap.lt_size q1)),λz=>?_,q5⟩
  ·rw [aU (Nat.ne_of_lt (Heap.lt_size q1))]
   exact q2
  ·rcases Zn.mp (I.stkSub p.1 z) with q | q
   ·exact q3 q
   ·exact q4 q
 ·show (slots own.length outs σ).length=(own++outs.map (·.2)).length
  unfold slots;simp
theorem rS (B:Blk X sc scope outs) (hcalm:X.calm=true)
  (hg:∀s H C ex pins,PG (cxB X (own++outs.map (·.2)) scope s H C ex pins) tg g) (hc:∀s H C ex pins,PF (cxB X (own++outs.map (·.2)) scope s H C ex pins) ifs tc) (he:∀s H C ex pins,PE (cxB X (own++outs.map (·.2)) scope s H C ex pins) elt te)
  {pins:List (Addr×Obj)} {σ:St} {H:Hp} {s:Shared} {it:Addr} {fp:List Addr} {tn:Nat->Heap->Prop} {J:It} (I:Inv X pins σ H s) (T:Turn X.prog X.w X.K tg J fp it tn) (st:tn 0 s.heap) (f2:∀b∈fp,kS X pins H b)
  {R0:Addr->Hp->Prop} (hW:∀D,H D=none->De J g tc te (slots own.length outs σ) D H (R0 D)) {RR:Value->Addr->Result->Shared->Prop} {E:Value->Shared->Prop}
  (fin:∀D C H' s' m,Inv X pins σ H' s'->kS X pins H' C->s'.heap.Ns C m->R0 D H'->RR (.ref D) C (.ok .next) s') :
  wpAny (model X.prog X.w) X.A (newList []) (λacc s3=>wpAny (model X.prog X.w) X.A (newFunctionEnv scope X.env.globals (frees X.env scope.names []) [] X.env.qual none .none (some X.env)) (λcenv s4 =>
   codeAny (model X.prog X.w) X.A (.compStart (.ListComp elt [⟨tg,iter,ifs,0⟩] scope pos) 0 (.ref it) acc { cenv with scope:=relabel scope X.env }) (RR acc cenv.locals) s4) E s3) E s:=by
 refine wpAny_newObj_type (wpAny_newFunctionEnv B.nocell (by intro y hy;simp at hy) (λh1 hn1 hs1=>?_) B.kind)
 dsimp only at hn1 hs1 ⊢
 have hz:(s.heap.push { cls:=.type "list",dict:=none,data:=.seq ([]:List Value).toArray }).objs.size=s.heap.objs.size+1:=Heap.size_push ..;rw [hz]at hn1 hs1;simp only [hz];have fo:∀b∈fp,∃o,s.heap.get? b=some o:=λb hb=>(let ⟨o,e,_⟩:=T.obj 0 _ st b hb;⟨o,e⟩)
 have old:∀b o,s.heap.get? b=some o->h1.get? b=some o:=λb o e =>
  hs1.extBut b o (Nat.ne_of_lt (Nat.lt_succ_of_lt (Heap.lt_size e))) (Heap.get?_push_of_some _ (Heap.get?_push_of_some _ e))
 have hD:h1.get? s.heap.objs.size=some { cls:=.type "list",data:=.seq #[] 0 }:=hs1.extBut _ _ (Nat.ne_of_lt (Nat.lt_succ_self _)) (Heap.get?_push_of_some _ (Heap.get?_push_size _ rfl));have I1:=xp (own:=own) (tk:=s.toks+([]:List (Str×Value)).length) B I f2 fo hn1 old hD;have st1:tn 0 h1:=T.keep _ _ _ st λb _ o e=>old b o e
 obtain ⟨W,⟨m0,w0⟩,turn⟩:=hW _ I.fresh;have fpB:∀{H':Hp},(∀b∈fp,H' b=none)->∀b∈fp,kS (cxB X (own++outs.map (·.2)) scope s H (s.heap.objs.size+1) fp pins) [] H' b:=λhn b hb=>by
  obtain ⟨o,eo⟩:=fo b hb;refine ⟨hn b hb,Nat.ne_of_lt (Nat.lt_succ_of_lt (Heap.lt_size eo)),I1.ok.exfs b hb,.inl hb,λx c e=>(I1.ok.exf b hb).2 x c e,λp hp=>?_⟩
  have hp':p∈X.pn++pins:=by
   have:p∈(X.pn++pins)++[]:=hp
   simpa using this
  exact (f2 b hb).2.2.2.2.2 p hp'
 have loop:∀s0:Shared,s0={ s with heap:=h1,toks:=s.toks+([]:List (Str×Value)).length } ->
   codeAny (model X.prog X.w) X.A (.compLoop (.ListComp elt [⟨tg,iter,ifs,0⟩] scope pos) 0 (.ref it) (.ref s.heap.objs.size) (compEnvC scope (frees X.env scope.names []) (s.heap.objs.size+1) X.env)) (RR (.ref s.heap.objs.size) (s.heap.objs.size+1)) s0:=by
  rintro s0 rfl;refine oh (λn s'=>∃i acc H',Inv (cxB X (own++outs.map (·.2)) scope s H (s.heap.objs.size+1) fp pins) [] (slots own.length outs σ) H' s'/\tn i s'.heap/\(∀b∈fp,H' b=none)/\W i n acc H') ?_ m0
   ⟨0,[],_,I1,st1,λb hb=>?_,w0⟩
  ·rintro n s3 ⟨i,acc,H3,I3,st3,fr3,w3⟩
   rcases turn i n acc H3 w3 with ⟨stop,q⟩ | ⟨go,N,hN,step⟩
   ·refine thn (T.done (cxB X (own++outs.map (·.2)) scope s H (s.heap.objs.size+1) fp pins) rfl rfl rfl hcalm i [] s3 _ H3 (λ_ _=>False) I3 (fpB fr3) st3 stop) λr s4 ⟨hr,I4⟩=>?_
    subst hr;have IX:Inv X pins σ H3 s4:=I.call' (ch:=fp) I4.os I4.base I4.hok I4.bare λb hb=>⟨(f2 b hb).2.2.2.1,(f2 b hb).2.1,(f2 b hb).2.2.2.2.1,(f2 b hb).2.2.2.2.2⟩
    obtain ⟨m4,hn4,_⟩:=I4.loc;exact fin _ _ H3 s4 m4 IX (I.fpOk (Nat.le_succ _) I4.free) hn4 q
   ·refine thn (T.item (cxB X (own++outs.map (·.2)) scope s H (s.heap.objs.size+1) fp pins) rfl rfl rfl hcalm i [] s3 _ H3 (λ_ _=>False) I3 (fpB fr3) st3 go) λr s4 ⟨u,hr,h4⟩=>?_
    subst hr;refine thn h4 λ_ s5 ⟨x,H5,I5,r5,y5,st5,fr5⟩=>?_
    have I5':=I5.pinned (fpB fr5) (T.obj _ _ st5);have back:∀{σ6:St} {H6:Hp} {s6:Shared} {acc':List V},Inv (cxB X (own++outs.map (·.2)) scope s H (s.heap.objs.size+1) fp pins) ([]++l7 fp s5.heap) σ6 H6 s6->gZ (slots own.length outs σ) σ6->N acc' H6 ->
      ∃m,m<n/\∃i acc H',Inv (cxB X (own++outs.map (·.2)) scope s H (s.heap.objs.size+1) fp pins) [] (slots own.length outs σ) H' s6/\tn i s6.heap/\(∀b∈fp,H' b=none)/\W i m acc H':=fun {σ6 H6 s6 acc'} I6 hs hn6=>by
     obtain ⟨m',hm,hw⟩:=hN acc' H6 hn6;refine ⟨m',hm,i+1,acc',H6,I6.unpinned.weak hs.len λj v e=>hs.get e,T.keep _ _ _ st5 λb hb o e=>(I6.pin (b,o) (Zp _ (Zp _ (iD hb e)))).1,λb hb=>?_,hw⟩
     obtain ⟨o,e,_⟩:=T.obj _ _ st5 b hb;exact (I6.pin (b,o) (Zp _ (Zp _ (iD hb e)))).2.1
    refine thn (hg s H _ fp pins _ s5 _ H5 x u _ I5' r5 (step x H5 y5)) λ_ s6 ⟨σ6,H6,I6,hs6,q6⟩=>?_
    refine thn (hc s H _ fp pins _ s6 σ6 H6 _ I6 q6) λb s7 ⟨H7,I7,q7⟩=>?_
    cases b with
    |false =>
     exact back I7 hs6 q7
    |true =>
     refine thn (he s H _ fp pins _ s7 σ6 H7 _ I7 q7) λyv s8 ⟨y,H8,I8,r8,hd8,hl8,hw⟩=>?_
     refine thn (nG _ s8 σ6 H8 (.ref s.heap.objs.size) [y] (.ref s.heap.objs.size) [yv] (λ_ H9=>H9=upd H8 s.heap.objs.size (.lst (acc++[y]))) I8 rfl (.cons r8 .nil) ⟨_,acc,y,rfl,rfl,hd8,hl8,rfl⟩) λz s9 ⟨zv,H9,I9,_,q9⟩=>?_
     subst q9;exact back I9 hs6 hw
  ·obtain ⟨o,eo⟩:=fo b hb
   rw [aU (Nat.ne_of_lt (Heap.lt_size eo))];exact (f2 b hb).1
 exact codeAny_compStart_list (loop _ rfl) (T.self X.A 0 _ _ _ st1 (loop _ rfl))
noncomputable def vF (wi:TI) (g:TG) (tc:TT) (te:TE) (k:Nat) (outs:List (Nat×Str)):TE:=fun σ H Q=>wi σ H λJ H1=>∀D,H1 D=none->De J g tc te (slots k outs σ) D H1 λH'=>Q (.ref D) H'
theorem w_ {wi:TI} (own:List Str) (B:Blk X sc scope outs) (hcalm:X.calm=true) (hi:PI X tg iter wi)
  (hg:∀s H C ex pins,PG (cxB X (own++outs.map (·.2)) scope s H C ex pins) tg g) (hc:∀s H C ex pins,PF (cxB X (own++outs.map (·.2)) scope s H C ex pins) ifs tc) (he:∀s H C ex pins,PE (cxB X (own++outs.map (·.2)) scope s H C ex pins) elt te)
  (hs:∀x,foldedSetIterable iter X.env x=pure x:=by intro _;rfl):PE X (.ListComp elt [⟨tg,iter,ifs,0⟩] scope pos) (vF wi g tc te own.length outs):=by
 intro pins s σ H Q I h;rw [eval_ListComp];refine wpAny_comprehension_free (use:=none) rfl hs (me (mf B I)) B.kind B.loc ?_;refine thn (hi pins s σ H _ I h) λv s1 h1=>thn h1 λitv s2 h2=>?_
 obtain ⟨it,fp,tn,J,H2,e,I2,T,st2,f2,hW⟩:=h2;subst e;refine rS (RR:=λacc C=>compPost (model X.prog X.w) X.A X.xe none (EP X pins σ Q) acc C) B hcalm hg hc he I2 T st2 f2 hW ?_
 intro D C H' s' m I' hC hn q;refine ⟨m,hn,λh' hs'=>?_⟩
 obtain ⟨c0,c1,c2,c3,c4,c5⟩:=hC;exact ⟨.ref D,H',I'.turned (t':=s'.toks) (λb o hb e=>(hs'.2 b hb).trans e) c0 c1 c3 c4 c5,rfl,q⟩
theorem xB {wi:TI} {i:Nat} {x:Str} {pos' spos:Pos} (own:List Str) (hN:X.N.Nodup) (hix:X.N[i]?=some x) (hx:Loc X.env.scope x) (B:Blk X sc scope outs) (hcalm:X.calm=true) (hi:PI X tg iter wi)
  (hg:∀s H C ex pins,PG (cxB X (own++outs.map (·.2)) scope s H C ex pins) tg g) (hc:∀s H C ex pins,PF (cxB X (own++outs.map (·.2)) scope s H C ex pins) ifs tc) (he:∀s H C ex pins,PE (cxB X (own++outs.map (·.2)) scope s H C ex pins) elt te)
  (hsw:swapsWith (.ListComp elt [⟨tg,iter,ifs,0⟩] scope pos) (some (.Name x pos')) spos.line X.env=pure true:=by rfl)
  (hs:∀x,foldedSetIterable iter X.env x=pure x:=by intro _;rfl) (hf:X.fn x=true\/X.env.scope.names.lookup x=some .local:=by first | exact .inl rfl | exact .inr rfl | assumption) :
  PS X (.Assign [.Name x pos'] (.ListComp elt [⟨tg,iter,ifs,0⟩] scope pos) spos) (r9 (vF wi g tc te own.length outs) (nh i)):=by
 intro pins s σ H D0 I h;rw [exec_Assign_Name_used _ _ _ _ hsw];refine wpAny_bind (wpAny_standAt (wpAny_bind ?_));show wpAny _ X.A (do let _ <-comprehension (.ListComp elt [⟨tg,iter,ifs,0⟩] scope pos) scope X.env _ (newList []) false (eval iter X.env) (some (assign (.Name x pos') X.env))) _ _ s
 refine wpAny_bind (thn (wpAny_comprehension_free (use:=some (assign (.Name x pos') X.env)) (Q:=λ_ s'=>SP X pins D0 .next s') rfl hs (me (mf B I)) B.kind B.loc ?_) λ_ s' hq=>wpAny_pure (wpAny_pure hq))
 refine thn (hi pins s σ H _ I h) λv s1 h1=>thn h1 λitv s2 h2=>?_
 obtain ⟨it,fp,tn,J,H2,e,I2,T,st2,f2,hW⟩:=h2;subst e;refine rS (RR:=λacc C=>compPost (model X.prog X.w) X.A X.xe (some (assign (.Name x pos') X.env)) (λ_ s'=>SP X pins D0 .next s') acc C) B hcalm hg hc he I2 T st2 f2 hW ?_
 intro D C H' s' m I' hC hn q;obtain ⟨c0,c1,c2,c3,c4,c5⟩:=hC;obtain ⟨oC,es,ep,hoC,hdC,hr⟩:=id hn;have IC:Inv X (pins++[(C,oC)]) σ H' s':=I'.pins_of λp hp=>(Zr.mp hp).elim (λz=>I'.pin p (Zp _ z)) λz=>by
  have ep:p=(C,oC):=by simpa using z
  subst ep;exact ⟨hoC,c0,c1,c2,λv z=>by rw [hdC]at z;cases z⟩
 show wpAny _ X.A (assign (.Name x pos') X.env (.ref D)) _ _ s'
 refine wpAny_assign_Name (gI (v:=.ref D) IC hN hix hx rfl (λs3 I3=>?_) hf)
 have hC3:s3.heap.get? C=some oC:=(I3.pin (C,oC) (Zp _ (Zp _ (by simp)))).1
 refine ⟨m,⟨oC,es,ep,hC3,hdC,hr⟩,λh' hs'=>?_⟩
 exact ⟨_,H',I3.unpinned.turned (t':=s3.toks) (λb o hb e=>(hs'.2 b hb).trans e) c0 c1 c3 c4 c5,q⟩
end
theorem vP {X:Cx} {pins:List (Addr×Obj)} {σ:St} {H:Hp} {s:Shared} {ch:List Addr} {T:Addr} {o:HO} {h':Heap} {t':Nat} (I:Inv X pins σ H s) (hch:∀b∈ch,kS X pins H b) (k:∀b u,b∉ch->s.heap.get? b=some u->h'.get? b=some u)
  (hT:s.heap.objs.size<=T) (new:fW X.prog X.w (upd H T o) h' T o):Inv X pins σ (upd H T o) { s with heap:=h',toks:=t' }:=by
 have hn:H T=none:=I.hok.fresh hT;have nch:∀b u,H b=some u->b∉ch:=λb u e z=>by
  rw [(hch b z).1]at e;cases e
 have lt:∀b u,s.heap.get? b=some u->b≠T:=λb u e=>Nat.ne_of_lt (ZG (Heap.lt_size e) hT)
 refine I.step (g':=s.gens) (d':=s.drawn) (ch:=ch) (λb hb=>?_) (λb u _ _ hc e _=>k b u hc e) (λb u _ _ hc e _=>⟨u.slots,k b u hc e⟩) (λb u _ e n=>by rw [aU (lt b u e)];exact n)
  (λb u hc e=>⟨u,k b u hc e⟩) (λb xs e=>by rw [aU (bj e hn)];exact e) (λb u v e=>by rw [aU (bj e hn)];exact e) (λb ps e=>⟨#[],by rw [aU (bj e hn),e];simp⟩) (λm hm=>?_) (λb u e=>?_) I.bare
 ·obtain ⟨f0,f1,f2,f3,f4,f5⟩:=hch b hb
  exact ⟨f3,f1,f4,f5⟩
 ·obtain ⟨oL,es,ep,ho,r⟩:=hm
  exact ⟨oL,es,ep,k _ oL (λz=>(hch _ z).2.1 rfl) ho,r⟩
 ·by_cases hb:b=T
  ·subst hb
   rw [bU]at e;cases e;exact new
  ·rw [aU hb]at e
   refine (I.hok b u e).stay (λc v hc q=>k c v ?_ q) (λc q=>by rw [aU (bj q hn)];exact q) λc xs q=>by rw [aU (bj q hn)];exact q
   rcases hc with z | z
   ·rw [z]
    exact nch b u e
   ·exact nch c _ z
theorem xm {X:Cx} {pins:List (Addr×Obj)} {σ:St} {H:Hp} {s:Shared} {ch:List Addr} {h':Heap} {t':Nat} (I:Inv X pins σ H s) (hch:∀b∈ch,kS X pins H b) (k:∀b u,b∉ch->s.heap.get? b=some u->h'.get? b=some u) :
  Inv X pins σ H { s with heap:=h',toks:=t' }:=by
 have nch:∀b u,H b=some u->b∉ch:=λb u e z=>by
  rw [(hch b z).1]at e;cases e
 refine I.step (g':=s.gens) (d':=s.drawn) (ch:=ch) (λb hb=>?_) (λb u _ _ hc e _=>k b u hc e) (λb u _ _ hc e _=>⟨u.slots,k b u hc e⟩) (λ_ _ _ _ n=>n)
  (λb u hc e=>⟨u,k b u hc e⟩) (λ_ _ e=>e) (λ_ _ _ e=>e) (λb ps e=>⟨#[],by rw [e];simp⟩) (λm hm=>?_) (λb u e=>?_) I.bare
 ·obtain ⟨f0,f1,f2,f3,f4,f5⟩:=hch b hb
  exact ⟨f3,f1,f4,f5⟩
 ·obtain ⟨oL,es,ep,ho,r⟩:=hm
  exact ⟨oL,es,ep,k _ oL (λz=>(hch _ z).2.1 rfl) ho,r⟩
 ·refine (I.hok b u e).stay (λc v hc q=>k c v ?_ q) (λ_ q=>q) λ_ _ q=>q
  rcases hc with z | z
  ·rw [z]
   exact nch b u e
  ·exact nch c _ z
noncomputable def Ite (K:PySem.W.Frag) (a:Addr):It :=
 ⟨λi H=>∃xs x,SqL K H a xs/\xs[i]?=some x,λi H x H'=>∃T y,H T=none/\x=.ref T/\H'=upd H T (.tup [.int i,y])/\∀xs,SqL K H a xs->xs[i]?=some y,λi H=>∃xs,SqL K H a xs/\xs.length<=i⟩
theorem sH {P:Program} {w:World} {K:PySem.W.Frag} {es:List Expr} {k:Nat} {pos:Pos} (a e it:Addr) (hne:e≠it) :
  Turn P w K (.Tuple es k pos) (Ite K a) [e,it] e (λi h=>(∃old,IsEnum h e it i old)/\h.IsListIter it a i) where
 mem:=by simp
 obj:=λi h st b hb=>by
  obtain ⟨⟨old,he⟩,o,eo,c,d⟩:=st;have hb':b=e\/b=it:=by simpa using hb
  rcases hb' with z | z
  ·subst z
   exact ⟨_,he,λv z=>by cases z⟩
  ·subst z
   exact ⟨o,eo,λv z=>by rw [d]at z;cases z⟩
 keep:=λi h h' st kp=>⟨(let ⟨old,he⟩:=st.1;⟨old,kp e (by simp) _ he⟩),st.2.at λo eo=>kp it (by simp) o eo⟩
 item:=by
  intro X hP hw hK hc i pins s σ H E I hf st hg;subst hP hw hK;obtain ⟨xs,x,hq,hx⟩:=hg;obtain ⟨⟨old,he⟩,hit⟩:=st;obtain ⟨its,rv,p,hz⟩:=I.list hq;obtain ⟨u,hu,ru⟩:=rv.get hx;have elt:e<s.heap.objs.size:=Heap.lt_size he;refine wpAny_pyNext_enum_item he hit p.isList (x:=u) (by simpa using hu) hne λh1 ho hit1 hT hsz hk=>?_
  refine ⟨_,rfl,wpAny_letOwnedTupleGo_enum ho λh2 he2 hs2=>?_⟩
  have kk:∀b v,b∉[e,it]->s.heap.get? b=some v->h2.get? b=some v:=λb v hb q=>by
   have h1':b≠e:=λz=>hb (by simp [z])
   have h2':b≠it:=λz=>hb (by simp [z])
   exact (hs2.2 b h1').trans (hk b v h1' h2' q)
  have hT2:h2.get? s.heap.objs.size=some { cls:=.type "tuple",data:=.seq #[.int i s.toks,u] }:=(hs2.2 _ (Nat.ne_of_gt elt)).trans hT;refine ⟨.ref s.heap.objs.size,upd H s.heap.objs.size (.tup [.int i,x]),vP (s:=s) (h':=h2) (t':=s.toks+1) I hf kk (Zm _) ?_,rfl,⟨_,x,I.fresh,rfl,rfl,λys hy=>by rw [I.list_inj hy hq];exact hx⟩,⟨⟨_,he2⟩,?_⟩,λb hb=>?_⟩
  ·exact ⟨by show 2<=sizeLine;decide,[.int i s.toks,u],.cons ⟨_,rfl⟩ (.cons ru .nil),_,hT2,rfl,_,rfl⟩
  ·exact hit1.at λo eo=>(hs2.2 it (Ne.symm hne)).trans eo
  ·obtain ⟨f0,f1,f2,f3,f4,f5⟩:=hf b hb
   have hb':b=e\/b=it:=by simpa using hb
   obtain ⟨oi,eoi,_⟩:=hit;have:b<s.heap.objs.size:=by
    rcases hb' with z | z
    ·rw [z];exact elt
    ·rw [z];exact Heap.lt_size eoi
   rw [aU (Nat.ne_of_lt this)];exact f0
 done:=by
  intro X hP hw hK hc i pins s σ H E I hf st hg;subst hP hw hK;obtain ⟨xs,hq,hx⟩:=hg;obtain ⟨⟨old,he⟩,hit⟩:=st;obtain ⟨its,rv,p,hz⟩:=I.list hq;have hl:=rv.length;refine wpAny_pyNext_enum_end (I.ok.hd hc) he hit p.isList (by simp;lia) λh1 eb=>⟨rfl,xm (t':=s.toks) I hf λb v hb q=>eb b v (λz=>hb (by simp [z])) q⟩
 self:=λ_ _ _ _ _ st h=>(let ⟨old,he⟩:=st.1;wpAny_pyIter_enum he h)
noncomputable def yc (K:PySem.W.Frag) (ta:TA):TI:=fun σ H R=>ta σ H λvs H1=>∃a,vs=[.ref a]/\(∃xs,SqL K H1 a xs)/\R (Ite K a) H1
theorem kU:bootBuiltins "enumerate" = some (.type "enumerate"):=by decide +kernel
theorem wD {X:Cx} {es:List Expr} {k:Nat} {a:Expr} {ta:TA} {p pos tpos:Pos} (hg:Gl X "enumerate") (hm:X.mg "enumerate" = none) (ha:PA X [a] ta) (hs:starEach [a] X.env=[(false,eval a X.env)]:=by rfl) :
  PI X (.Tuple es k tpos) (.Call (.Name "enumerate" p) [a] [] pos) (yc X.K ta):=by
 intro pins s σ H R I h;refine Call_ (kC I hg hm kU (PyProof.Rows.callWith_type1 (thn (ha pos pins s σ H _ I h) λus s1 ⟨vs,H1,I1,r1,q1⟩=>?_) hs rfl))
 obtain ⟨l,e,⟨xs,hq⟩,q⟩:=q1;subst e;obtain ⟨u,rfl,ru⟩:=Vals.one r1;cases ru;obtain ⟨its,rv,pl,hz⟩:=I1.list hq;refine call_enumerate_list pl.isList λh1 he hit hsz hk=>?_
 refine wpAny_pyIter_enum he ?_;have I2:Inv X pins σ H1 { s1 with heap:=h1 }:=I1.kept (t':=s1.toks) hk
 refine ⟨s1.heap.objs.size+1,[s1.heap.objs.size+1,s1.heap.objs.size],_,Ite X.K l,H1,rfl,I2,sH l _ _ (Nat.succ_ne_self _),⟨⟨_,he⟩,hit⟩,λb hb=>?_,q⟩
 have hb':b=s1.heap.objs.size+1\/b=s1.heap.objs.size:=by simpa using hb
 rcases hb' with z | z
 ·subst z
  exact I1.fpOk (Nat.le_succ _) (I1.hok.fresh (Nat.le_succ _))
 ·subst z
  exact I1.fpOk (Zm _) (I1.hok.fresh (Zm _))
mutual
inductive Rep (K:PySem.W.Frag) (H:Hp):V->PyData->Prop
 |non:Rep K H .non .none
 |bl (b:Bool):Rep K H (.bl b) (.bool b)
 |int (i:Int):Rep K H (.int i) (.int i)
 |str (x:Str):Rep K H (.str x) (.str x)
 |lst {a:Addr} {xs:List V} {ds:List PyData}:SqL K H a xs->RepAll K H xs ds->Rep K H (.ref a) (.list ds)
 |tup {a:Addr} {xs:List V} {ds:List PyData}:SqT K H a xs->RepAll K H xs ds->Rep K H (.ref a) (.tuple ds)
inductive RepAll (K:PySem.W.Frag) (H:Hp):List V->List PyData->Prop
 |nil:RepAll K H [] []
 |cons {v:V} {vs:List V} {d:PyData} {ds:List PyData}:Rep K H v d->RepAll K H vs ds->RepAll K H (v :: vs) (d :: ds)
end
theorem El {K:PySem.W.Frag} {H H':Hp} {a:Addr} {xs:List V} (e:aS H H') (h:SqT K H a xs):SqT K H' a xs:=by
 rcases h with (h | ⟨o,h⟩) | h
 ·exact .inl (.inl (e _ _ h))
 ·exact .inl (.inr ⟨o,e _ _ h⟩)
 ·exact .inr h
mutual
theorem Rep.same {K:PySem.W.Frag} {H H':Hp} (e:aS H H') {v:V} {d:PyData}:Rep K H v d->Rep K H' v d
 |.non=>.non
 |.bl b=>.bl b
 |.int i=>.int i
 |.str x=>.str x
 |.lst h r=>.lst (e.seq h) (RepAll.same e r)
 |.tup h r=>.tup (El e h) (RepAll.same e r)
theorem RepAll.same {K:PySem.W.Frag} {H H':Hp} (e:aS H H') {vs:List V} {ds:List PyData}:RepAll K H vs ds->RepAll K H' vs ds
 |.nil=>.nil
 |.cons h r=>.cons (Rep.same e h) (RepAll.same e r)
end
mutual
theorem Rep.reads {X:Cx} {pins:List (Addr×Obj)} {σ:St} {H:Hp} {s:Shared} (I:Inv X pins σ H s) {v:V} {d:PyData}:∀{u:Value},Rep X.K H v d->RelV v u->∃as,Reads s.heap u d as
 |_,.non,r=>by
  cases r;exact ⟨_,.none⟩
 |_,.bl b,r=>by
  cases r;exact ⟨_,.bool b⟩
 |_,.int i,r=>by
  obtain ⟨t,rfl⟩:=r;exact ⟨_,.int i t⟩
 |_,.str x,r=>by
  obtain ⟨t,rfl⟩:=r;exact ⟨_,.str x t⟩
 |_,.lst h ra,r=>by
  cases r;obtain ⟨its,rv,pl,hz⟩:=I.list h;obtain ⟨as,ha⟩:=RepAll.reads I ra rv;obtain ⟨o,e,c,n,dd⟩:=pl.isList;exact ⟨_,.list e c dd (by simpa using ha)⟩
 |_,.tup h ra,r=>by
  cases r;obtain ⟨its,rv,pl,hz⟩:=I.tuple h;obtain ⟨as,ha⟩:=RepAll.reads I ra rv;obtain ⟨o,e,c,n,dd⟩:=(show s.heap.IsTuple _ its.toArray from pl)
  exact ⟨_,.tuple e c dd (by simpa using ha)⟩
theorem RepAll.reads {X:Cx} {pins:List (Addr×Obj)} {σ:St} {H:Hp} {s:Shared} (I:Inv X pins σ H s) {vs:List V} {ds:List PyData}:∀{us:List Value},RepAll X.K H vs ds->Vals vs us->∃as,ReadsAll s.heap us ds as
 |_,.nil,.nil=>⟨_,.nil⟩
 |_,.cons h r,.cons q t=>by
  obtain ⟨as,ha⟩:=Rep.reads I h q;obtain ⟨bs,hb⟩:=RepAll.reads I r t;exact ⟨_,.cons ha hb⟩
end
noncomputable def Cs (K:PySem.W.Frag):R2:=λx y H Q=>∃d e,Rep K H x d/\Rep K H y e/\SeqAt.shaped d=true/\SeqAt.shaped e=true/\Q (.bl (PyData.eqv d e)) H
noncomputable def Cn (K:PySem.W.Frag):R2:=λx y H Q=>∃d e,Rep K H x d/\Rep K H y e/\SeqAt.shaped d=true/\SeqAt.shaped e=true/\Q (.bl (!PyData.eqv d e)) H
theorem Bc {X:Cx} (hu:X.A.units+64<cLine):OpR X (compareOp .Eq) (Cs X.K):=by
 intro pins s σ H x y v u Q I rx ry h;obtain ⟨d,e,h1,h2,s1,s2,q⟩:=h;obtain ⟨as,r1⟩:=h1.reads I rx;obtain ⟨bs,r2⟩:=h2.reads I ry;exact eq_dataH r1 r2 s1 s2 hu ⟨.bl _,H,I,rfl,q⟩
theorem zw {X:Cx} (hu:X.A.units+64<cLine):OpR X (compareOp .NotEq) (Cn X.K):=by
 intro pins s σ H x y v u Q I rx ry h;obtain ⟨d,e,h1,h2,s1,s2,q⟩:=h;obtain ⟨as,r1⟩:=h1.reads I rx;obtain ⟨bs,r2⟩:=h2.reads I ry;exact ne_dataH r1 r2 s1 s2 hu ⟨.bl _,H,I,rfl,q⟩
theorem d8:bootBuiltins "isinstance" = some (.builtin "isinstance"):=by decide +kernel
theorem sF {X:Cx} (hc:X.calm=true):dW X (.builtin "max") (λxs H Q=>∃(a:Addr) (ns:List Int),xs=[.ref a]/\SqL X.K H a (ns.map V.int)/\0<ns.length/\∀M,M∈ns->(∀z,z∈ns->z<=M)->Q (.int M) H):=by
 intro pins s σ H xs us Q I r h;obtain ⟨a,ns,rfl,hq,hl,q⟩:=h;obtain ⟨u,rfl,ru⟩:=Vals.one r;cases ru;obtain ⟨its,rv,pl,hz⟩:=I.list hq;have hi:IntsAre its ns:=intsAre_of rv;obtain ⟨ys,e⟩:=hi.allInts.items;have hns:ns=ys.toList.map (·.1):=by
  rw [<-hi.numsOf,<-nums_intItems,<-e]
 have hsz:0<ys.size:=by
  have h3:=hl;rw [hns,Zc,Array.length_toList]at h3;exact h3
 have hL:=pl.isList;rw [e]at hL;refine max_intList (I.ok.hd hc) hL hsz λv h' tk hv hk=>?_
 obtain ⟨t,rfl⟩:=intItems_at hv;obtain ⟨h1,h2⟩:=argBest_gt (numAt ys) (ys.size-1);refine ⟨.int _,H,I.kept hk,⟨t,rfl⟩,q _ ?_ λz hzz=>?_⟩
 ·rw [hns,numAt_eq]
  exact getD_mem (by rw [Zc,Array.length_toList];lia)
 ·rw [hns]at hzz
  obtain ⟨j,hj,rfl⟩:=mem_getD hzz;rw [Zc,Array.length_toList]at hj;rw [<-numAt_eq];exact h2 j (by lia)
section
variable {g:TG} {tc:TT} {te:TE} {σ0:St} {D:Addr} {H1:Hp} {Q:Hp->Prop}
end
structure Def (K:PySem.W.Frag) (mg:Str->Option Value) (x:Str) (st:Stmt) (ps:List Str) (f:Addr) (fd:FuncData):Prop where
 F:Fun K x x st f fd
 g:mg x=some (.ref f)
 b:Binds K fd ps []
theorem aS.upd {H H':Hp} {a:Addr} {o:HO} (e:aS H H') (h:H a=none):aS H (L2.upd H' a o):=λb u q=>by
 rw [aU (bj q h)];exact e b u q
section
variable {X:Cx}
noncomputable def FN (K:PySem.W.Frag):List V->Hp->VK->Prop:=λxs H Q=>∃p ys,xs=[.ref p]/\(SqL K H p ys\/SqT K H p ys)/\∀l,H l=none->Q (.ref l) (upd H l (.lst ys))
theorem m_ (K:PySem.W.Frag) (h:X.K=K):dW X (.type "list") (FN K):=by
 subst h;exact oP
noncomputable def yK (K:PySem.W.Frag):List V->Hp->VK->Prop:=λxs H Q=>∃(a:Addr) (ns:List Int),xs=[.ref a]/\SqL K H a (ns.map V.int)/\0<ns.length/\∀M,M∈ns->(∀z,z∈ns->z<=M)->Q (.int M) H
theorem nD (K:PySem.W.Frag) (h:X.K=K) (hc:X.calm=true):dW X (.builtin "max") (yK K):=by
 subst h;exact sF hc
end
end L2
namespace L2
open PySem PySem.Spec PyProof.Rows
section
variable {κ:Type} [DecidableEq κ]
end
section
variable {P:Program} {w:World} {H:Hp} {h:Heap} {a:Addr}
end
section
variable {X:Cx} {pins:List (Addr×Obj)} {σ:St} {H:Hp} {s:Shared} {a:Addr} {y v:V} {u r:Value} {o:Option V} {A:Around} {E:Value->Shared->Prop}
end
section
variable {X:Cx} {pins:List (Addr×Obj)} {σ:St} {H:Hp} {s:Shared} {a:Addr} {kvs:List (Key×V)} {k:Key} {u:Value} {A:Around} {E:Value->Shared->Prop}
end
section
variable {X:Cx} {o i e value:Expr} {pos pos' tpos:Pos} {td ty tv:TE}
end
section
variable {X:Cx} {pos:Pos}
end
end L2
namespace L3
open PySem L2 PySem.Spec PyProof.Rows
noncomputable abbrev St:=L2.St
noncomputable def RdK (K:PySem.W.Frag) (H:Hp) (a:Addr) (xs:List V):Prop :=
 Rd H a (.lst xs)\/∃(its:Array Value) (n:Nat),K.lookup a=some { cls:=.type "list",data:=.seq its n }/\its.size<=sizeLine/\Vals xs its.toList
theorem RdK.of {K:PySem.W.Frag} {H:Hp} {a:Addr} {xs:List V} (h:H a=some (.lst xs)):RdK K H a xs:=.inl (.inl h)
theorem RdK.sq {K:PySem.W.Frag} {H:Hp} {a:Addr} {xs:List V} (h:RdK K H a xs):SqL K H a xs:=by
 rcases h with h | ⟨its,n,hk,hz,r⟩
 ·exact .inl h
 ·exact .inr ⟨_,its,n,hk,rfl,rfl,rfl,hz,r⟩
theorem RdK.same {K:PySem.W.Frag} {H H':Hp} (e:aS H H') {a:Addr} {xs:List V} (h:RdK K H a xs):RdK K H' a xs:=by
 rcases h with (h | ⟨o,h⟩) | h
 ·exact .inl (.inl (e _ _ h))
 ·exact .inl (.inr ⟨o,e _ _ h⟩)
 ·exact .inr h
theorem RdK.obj {X:Cx} {pins:List (Addr×Obj)} {σ:St} {H:Hp} {s:Shared} {a:Addr} {xs:List V} (I:Inv X pins σ H s) (h:RdK X.K H a xs) :
  xs.length<=sizeLine/\∃(its:List Value) (n:Nat),Vals xs its/\xs.length=its.length/\s.heap.get? a=some { cls:=.type "list",data:=.seq its.toArray n }:=by
 rcases h with h | ⟨its,n,hk,hz,r⟩
 ·obtain ⟨z,its,n,r,e⟩:=h.ok I.hok
  exact ⟨z,its,n,r,r.length,e⟩
 ·have e:=r.length
  have e':=e;simp only [Array.length_toList]at e';exact ⟨by lia,its.toList,n,r,e,by simpa using I.kIn a _ hk⟩
end L3
namespace L3
open PySem L2
inductive OD where
 |sh (d:PyData)
 |ol (xs:List OD)
 |ot (xs:List OD)
 |od (kvs:List (Key×PyData))
noncomputable def kD:Key->PyData
 |.inl i=>.int i
 |.inr x=>.str x
noncomputable def dD (kvs:List (Key×PyData)):PyData:=.dict (kvs.map λp=>(kD p.1,p.2))
mutual
noncomputable def OD.er:OD->PyData
 |.sh d=>d
 |.ol xs=>.list (OD.ers xs)
 |.ot xs=>.tuple (OD.ers xs)
 |.od kvs=>dD kvs
noncomputable def OD.ers:List OD->List PyData
 |[]=>[]
 |x :: xs=>x.er :: OD.ers xs
end
theorem lp:∀xs:List OD,OD.ers xs=xs.map OD.er
 |[]=>rfl
 |x :: xs=>by rw [OD.ers,Zj,lp xs]
theorem iU (d:PyData):(OD.sh d).er=d:=by rw [OD.er]
theorem yx (xs:List OD):(OD.ol xs).er=.list (xs.map OD.er):=by rw [OD.er,lp]
theorem CU (xs:List OD):(OD.ot xs).er=.tuple (xs.map OD.er):=by rw [OD.er,lp]
theorem dw (ds:List PyData):(ds.map OD.sh).map OD.er=ds:=by
 rw [Zi];have:(OD.er ∘ OD.sh)=id:=funext λd=>iU d
 rw [this,List.map_id]
inductive R (α:Type) where
 |ok (a:α)
 |ex (c:Str)
 |bad
noncomputable def R.bind {α β:Type} (r:R α) (f:α->R β):R β:=match r with
 |.ok a=>f a
 |.ex c=>.ex c
 |.bad=>.bad
theorem a9 {α β:Type} (a:α) (f:α->R β):(R.ok a).bind f=f a:=rfl
noncomputable abbrev Env:=List (Option OD)
noncomputable abbrev Fe:=Env->R OD
noncomputable abbrev Fa:=Env->R (List OD)
noncomputable abbrev Ft:=Env->R Bool
noncomputable abbrev Fn:=List PyData->R OD
inductive Out where
 |nx (ρ:Env)
 |rt (x:OD)
 |bk (ρ:Env)
 |ct (ρ:Env)
noncomputable abbrev Fs:=Env->R Out
noncomputable abbrev Fi:=Env->R (List PyData)
noncomputable abbrev Fg:=OD->Env->R Env
noncomputable def BIG:Nat:=10000000
noncomputable def flat:PyData->Bool
 |.none=>true
 |.bool _=>true
 |.int _=>true
 |.str _=>true
 |_=>false
noncomputable def af (i:Nat):Fe:=fun ρ=>match ρ[i]? with
 |some (some (.sh d))=>.ok (.sh d)
 |_=>.bad
noncomputable def eC (d:PyData):Fe:=λ_=>.ok (.sh d)
noncomputable def eOp (g:PyData->PyData->R OD) (a b:Fe):Fe:=fun ρ=>(a ρ).bind λx=>(b ρ).bind λy=>g x.er y.er
noncomputable def eUn (g:PyData->R OD) (a:Fe):Fe:=fun ρ=>(a ρ).bind λx=>g x.er
noncomputable def truth:PyData->R Bool
 |.bool b=>.ok b
 |_=>.bad
noncomputable def aB (a:Fe):Ft:=fun ρ=>(a ρ).bind λx=>truth x.er
noncomputable def jC (a b:Ft):Ft:=fun ρ=>(a ρ).bind λc=>if c=true then b ρ else .ok false
noncomputable def f_ (a b:Ft):Ft:=fun ρ=>(a ρ).bind λc=>if c=true then .ok true else b ρ
noncomputable def ej (a:Ft):Ft:=fun ρ=>(a ρ).bind λc=>.ok (!c)
noncomputable def pT (a b:Fe):Fe:=fun ρ=>(a ρ).bind λx=>(truth x.er).bind λc=>if c=true then b ρ else .ok (.sh (.bool false))
noncomputable def eOr (a b:Fe):Fe:=fun ρ=>(a ρ).bind λx=>(truth x.er).bind λc=>if c=true then .ok (.sh (.bool true)) else b ρ
noncomputable def vH (a:Fe):Fe:=fun ρ=>(a ρ).bind λx=>(truth x.er).bind λc=>.ok (.sh (.bool (!c)))
noncomputable def eIf (t:Ft) (a b:Fe):Fe:=fun ρ=>(t ρ).bind λc=>if c=true then a ρ else b ρ
noncomputable def aF:Fa:=λ_=>.ok []
noncomputable def aj (a:Fe) (r:Fa):Fa:=fun ρ=>(a ρ).bind λx=>(r ρ).bind λxs=>.ok (x :: xs)
noncomputable def shs:List OD->Option (List PyData)
 |[]=>some []
 |.sh d :: r=>match shs r with
  |some ds=>some (d :: ds)
  |none=>none
 |_ :: _=>none
noncomputable def mkT (xs:List OD):OD:=match shs xs with
 |some ds=>.sh (.tuple ds)
 |none=>.ot xs
noncomputable def j9 (a:Fa):Fe:=fun ρ=>(a ρ).bind λxs=>if xs.length<=BIG then .ok (mkT xs) else .bad
noncomputable def eSh (a:Fe):Fe:=fun ρ=>(a ρ).bind λx=>.ok (.sh x.er)
noncomputable def fM (a:Fa):Fe:=fun ρ=>(a ρ).bind λxs=>if xs.length<=BIG then .ok (.ol xs) else .bad
noncomputable def aR (f:Fn) (a:Fa):Fe:=fun ρ=>(a ρ).bind λxs=>f (xs.map OD.er)
noncomputable def eB (g:List PyData->R OD) (a:Fa):Fe:=fun ρ=>(a ρ).bind λxs=>g (xs.map OD.er)
noncomputable def erase (ρ:Env):Env:=ρ.map λo=>o.map λx=>OD.sh x.er
noncomputable def k7 (a:Fe):Fe:=fun ρ=>(a (erase ρ)).bind λx=>if flat x.er=true then .ok (.sh x.er) else .bad
noncomputable def ye (a:Fe):Fe:=fun ρ=>(a (erase ρ)).bind λx=>match x with
 |.ol xs=>if xs.all (λy=>flat y.er)=true then .ok (.ol (xs.map λy=>.sh y.er)) else .bad
 |_=>.bad
noncomputable def wL (a:Ft):Ft:=fun ρ=>a (erase ρ)
noncomputable abbrev Fo:=Env->R (Option Int)
noncomputable def fX:Fo:=λ_=>.ok none
noncomputable def bM (a:Fe):Fo:=fun ρ=>(a ρ).bind λx=>match x.er with
 |.int i=>.ok (some i)
 |_=>.bad
noncomputable def eSl (g:PyData->Option Int->Option Int->R OD) (a:Fe) (l h:Fo):Fe:=fun ρ=>(a ρ).bind λx=>(l ρ).bind λi=>(h ρ).bind λj=>g x.er i j
noncomputable def pI (a:Fe):Fi:=fun ρ=>(a ρ).bind λx=>match x.er with
 |.list ds=>.ok ds
 |_=>.bad
noncomputable def iTp (a:Fe):Fi:=fun ρ=>(a ρ).bind λx=>match x.er with
 |.tuple ds=>.ok ds
 |_=>.bad
noncomputable def jt (lo:Int) (n:Nat):List PyData:=(List.range n).map λk:Nat=>PyData.int (lo+k)
noncomputable def bb (i:Int):Bool:=decide (-(2 ^ 62)<=i) && decide (i<2 ^ 62)
noncomputable def iR1 (a:Fe):Fi:=fun ρ=>(a ρ).bind λx=>match x.er with
 |.int j=>if bb j=true then .ok (jt 0 j.toNat) else .bad
 |_=>.bad
noncomputable def iR2 (a b:Fe):Fi:=fun ρ=>(a ρ).bind λx=>(b ρ).bind λy=>match x.er,y.er with
 |.int i,.int j=>if (bb i && bb j)=true then .ok (jt i (j-i).toNat) else .bad
 |_,_=>.bad
noncomputable def jz (ds:List PyData):List PyData:=ds.zipIdx.map λp=>PyData.tuple [.int (p.2:Nat),p.1]
noncomputable def yP (ds es:List PyData):List PyData:=(ds.zip es).map λp=>PyData.tuple [p.1,p.2]
noncomputable def iEn (a:Fe):Fi:=fun ρ=>(a ρ).bind λx=>match x.er with
 |.list ds=>.ok (jz ds)
 |_=>.bad
noncomputable def iZp (a b:Fe):Fi:=fun ρ=>(a ρ).bind λx=>(b ρ).bind λy=>match x.er,y.er with
 |.list ds,.list es=>.ok (yP ds es)
 |_,_=>.bad
noncomputable def gNm (i:Nat):Fg:=λx ρ=>.ok (ρ.set i (some x))
noncomputable abbrev Fgs:=List OD->Env->R Env
noncomputable def nA:Fgs:=λxs ρ=>match xs with
 |[]=>.ok ρ
 |_=>.bad
noncomputable def ic (g:Fg) (r:Fgs):Fgs:=λxs ρ=>match xs with
 |x :: xs=>(g x ρ).bind fun ρ'=>r xs ρ'
 |[]=>.bad
noncomputable def gTp (n:Nat) (r:Fgs):Fg:=λx ρ=>match x with
 |.ot xs=>if xs.length=n then r xs ρ else .bad
 |.sh (.tuple ds)=>if ds.length=n then r (ds.map OD.sh) ρ else .bad
 |_=>.bad
noncomputable def kL:Option (Option OD)->Option OD
 |some (some (.sh d))=>some (.sh d)
 |_=>none
noncomputable def sl3 (k:Nat) (outs:List Nat) (ρ:Env):Env:=List.replicate k none++outs.map λi=>kL ρ[i]?
noncomputable def nT {α:Type}:R α->R α
 |.ok a=>.ok a
 |_=>.bad
noncomputable def e8 (g:Fg) (t:Ft) (el:Fe) (ρ0:Env):List PyData->List OD->R (List OD)
 |[],acc=>.ok acc
 |d :: ds,acc=>(nT (g (.sh d) ρ0)).bind fun ρ=>(nT (t ρ)).bind λb=>if b=true then (nT (el ρ)).bind λy=>if acc.length<BIG then e8 g t el ρ0 ds (acc++[y]) else .bad else e8 g t el ρ0 ds acc
noncomputable def gc (it:Fi) (g:Fg) (t:Ft) (el:Fe) (k:Nat) (outs:List Nat):Fe:=fun ρ=>(it ρ).bind λds=>(e8 g t el (sl3 k outs ρ) ds []).bind λxs=>.ok (.ol xs)
noncomputable def o9:Ft:=λ_=>.ok true
noncomputable def sNx:Fs:=fun ρ=>.ok (.nx ρ)
noncomputable def aI (a b:Fs):Fs:=fun ρ=>(a ρ).bind λo=>match o with
 |.nx ρ'=>b ρ'
 |o=>.ok o
noncomputable def so (a:Fe) (g:Fg):Fs:=fun ρ=>(a ρ).bind λx=>(g x ρ).bind fun ρ'=>.ok (.nx ρ')
noncomputable def aY (i:Nat) (a:Fe):Fs:=fun ρ=>(a ρ).bind λx=>.ok (.nx (ρ.set i (some x)))
noncomputable def i7 (a:Fe):Fs:=fun ρ=>(a ρ).bind λ_=>.ok (.nx ρ)
noncomputable def ba (a:Fe):Fs:=fun ρ=>(a ρ).bind λx=>.ok (.rt x)
noncomputable def Di:Fs:=λ_=>.ok (.rt (.sh .none))
noncomputable def kl (i:Nat):Fs:=fun ρ=>match ρ[i]? with
 |some (some x)=>.ok (.rt x)
 |_=>.bad
noncomputable def sIf (t:Ft) (a b:Fs):Fs:=fun ρ=>(t ρ).bind λc=>if c=true then a ρ else b ρ
noncomputable def sBk:Fs:=fun ρ=>.ok (.bk ρ)
noncomputable def sCt:Fs:=fun ρ=>.ok (.ct ρ)
noncomputable def kH:Fs:=λ_=>.bad
noncomputable def uf (i:Nat) (ρ:Env):Env:=match ρ[i]? with
 |some (some x)=>ρ.set i (some (.sh x.er))
 |_=>ρ
noncomputable def uq (i:Nat) (a:Fs):Fs:=fun ρ=>a (uf i ρ)
noncomputable def si (i:Nat) (g:PyData->PyData->R OD) (a:Fe):Fs:=fun ρ=>match ρ[i]? with
 |some (some (.sh d))=>(a ρ).bind λy=>(g d y.er).bind λz=>.ok (.nx (ρ.set i (some z)))
 |_=>.bad
noncomputable def ju (i:Nat) (a:Fe):Fs:=fun ρ=>match ρ[i]? with
 |some (some (.ol xs))=>(a ρ).bind λy=>if xs.length<BIG then .ok (.nx (ρ.set i (some (.ol (xs++[y]))))) else .bad
 |_=>.bad
noncomputable def FW (i:Nat):Fs:=fun ρ=>match ρ[i]? with
 |some (some (.ol xs))=>.ok (.nx (ρ.set i (some (.ol xs.reverse))))
 |_=>.bad
noncomputable def Dy (i:Nat):Fs:=fun ρ=>match ρ[i]? with
 |some (some (.ol xs))=>.ok (.nx (ρ.set i (some (.ol []))))
 |_=>.bad
noncomputable def ET (i:Nat) (g:Fg):Fs:=fun ρ=>match ρ[i]? with
 |some (some (.ol xs))=>match xs.getLast? with
  |some (.sh d)=>(g (.sh d) (ρ.set i (some (.ol xs.dropLast)))).bind fun ρ'=>.ok (.nx ρ')
  |_=>.bad
 |_=>.bad
noncomputable def DQ (i:Nat) (a:Fe):Fs:=fun ρ=>match ρ[i]? with
 |some (some (.ol xs))=>(a ρ).bind λy=>match y with
  |.ol ys=>if xs.length+ys.length<=BIG then .ok (.nx (ρ.set i (some (.ol (xs++ys))))) else .bad
  |_=>.bad
 |_=>.bad
noncomputable def E_ (i:Nat) (k:Fe) (a:Fe):Fs:=fun ρ=>match ρ[i]? with
 |some (some (.ol xs))=>(a ρ).bind λy=>(k ρ).bind λz=>match z.er with
  |.int q=>match ixN xs.length q with
   |some j=>.ok (.nx (ρ.set i (some (.ol (xs.set j y)))))
   |none=>.bad
  |_=>.bad
 |_=>.bad
noncomputable def bG (g:Fg) (b:Fs):List PyData->Env->R Out
 |[],ρ=>.ok (.nx ρ)
 |d :: ds,ρ=>(g (.sh d) ρ).bind fun ρ1=>(b ρ1).bind λo=>match o with
  |.nx ρ2=>bG g b ds ρ2
  |.ct ρ2=>bG g b ds ρ2
  |.bk ρ2=>.ok (.nx ρ2)
  |.rt x=>.ok (.rt x)
noncomputable def jM (it:Fi) (g:Fg) (b:Fs):Fs:=fun ρ=>(it ρ).bind λds=>bG g b ds ρ
noncomputable def bw (t:Ft) (b:Fs):Nat->Env->R Out
 |0,_=>.bad
 |n+1,ρ=>(t ρ).bind λc=>if c=true then (b ρ).bind λo=>match o with
  |.nx ρ2=>bw t b n ρ2
  |.ct ρ2=>bw t b n ρ2
  |.bk ρ2=>.ok (.nx ρ2)
  |.rt x=>.ok (.rt x) else .ok (.nx ρ)
open Classical in
noncomputable def cM (t:Ft) (b:Fs):Fs:=fun ρ=>if h:∃n,bw t b n ρ≠.bad then bw t b h.choose ρ else .bad
noncomputable def kg (n:Nat) (ds:List PyData):Env:=(ds.map λd=>some (OD.sh d))++List.replicate (n-ds.length) none
noncomputable def bx (np n:Nat) (b:Fs):Fn:=λds=>if ds.length=np then (b (kg n ds)).bind λo=>match o with
 |.rt x=>.ok x
 |.nx _=>.ok (.sh .none)
 |_=>.bad else .bad
mutual
inductive Rep (K:PySem.W.Frag) (H:Hp):V->PyData->Prop
 |non:Rep K H .non .none
 |bl (b:Bool):Rep K H (.bl b) (.bool b)
 |int (i:Int):Rep K H (.int i) (.int i)
 |str (x:Str):Rep K H (.str x) (.str x)
 |lst {a:Addr} {xs:List V} {ds:List PyData}:RdK K H a xs->RepAll K H xs ds->Rep K H (.ref a) (.list ds)
 |tup {a:Addr} {xs:List V} {ds:List PyData}:H a=some (.tup xs)->RepAll K H xs ds->Rep K H (.ref a) (.tuple ds)
 |dct {a:Addr} {kvs:List (Key×V)} {ds:List (Key×PyData)}:H a=some (.dK kvs)->kvs.map (·.1)=ds.map (·.1)->RepAll K H (kvs.map (·.2)) (ds.map (·.2))->Rep K H (.ref a) (dD ds)
inductive RepAll (K:PySem.W.Frag) (H:Hp):List V->List PyData->Prop
 |nil:RepAll K H [] []
 |cons {v:V} {vs:List V} {d:PyData} {ds:List PyData}:Rep K H v d->RepAll K H vs ds->RepAll K H (v :: vs) (d :: ds)
end
mutual
theorem Rep.same {K:PySem.W.Frag} {H H':Hp} (e:aS H H') {v:V} {d:PyData}:Rep K H v d->Rep K H' v d
 |.non=>.non
 |.bl b=>.bl b
 |.int i=>.int i
 |.str x=>.str x
 |.lst h r=>.lst (h.same e) (RepAll.same e r)
 |.tup h r=>.tup (e _ _ h) (RepAll.same e r)
 |.dct h k r=>.dct (e _ _ h) k (RepAll.same e r)
theorem RepAll.same {K:PySem.W.Frag} {H H':Hp} (e:aS H H') {vs:List V} {ds:List PyData}:RepAll K H vs ds->RepAll K H' vs ds
 |.nil=>.nil
 |.cons h r=>.cons (Rep.same e h) (RepAll.same e r)
end
mutual
inductive Own (K:PySem.W.Frag) (F H:Hp):V->OD->List Addr->Prop
 |sh {v:V} {d:PyData}:Rep K F v d->Own K F H v (.sh d) []
 |ol {a:Addr} {vs:List V} {xs:List OD} {f:List Addr}:H a=some (.lst vs)->OwnL K F H vs xs f->Own K F H (.ref a) (.ol xs) (a :: f)
 |ot {a:Addr} {vs:List V} {xs:List OD} {f:List Addr}:H a=some (.tup vs)->OwnL K F H vs xs f->Own K F H (.ref a) (.ot xs) (a :: f)
 |od {a:Addr} {kvs:List (Key×V)} {ds:List (Key×PyData)}:H a=some (.dK kvs)->kvs.map (·.1)=ds.map (·.1)->RepAll K F (kvs.map (·.2)) (ds.map (·.2))->Own K F H (.ref a) (.od ds) [a]
inductive OwnL (K:PySem.W.Frag) (F H:Hp):List V->List OD->List Addr->Prop
 |nil:OwnL K F H [] [] []
 |cons {v:V} {x:OD} {f:List Addr} {vs:List V} {xs:List OD} {g:List Addr}:Own K F H v x f->OwnL K F H vs xs g->OwnL K F H (v :: vs) (x :: xs) (f++g)
end
section
variable {K:PySem.W.Frag} {F H F' H':Hp}
mutual
theorem Own.mono (e:aS F F') {v:V} {x:OD} {f:List Addr}:(∀a∈f,∀o,H a=some o->H' a=some o)->Own K F H v x f->Own K F' H' v x f
 |_,.sh r=>.sh (r.same e)
 |k,.ol h r=>.ol (k _ Zf _ h) (OwnL.mono e (λa m=>k a (Ze _ m)) r)
 |k,.ot h r=>.ot (k _ Zf _ h) (OwnL.mono e (λa m=>k a (Ze _ m)) r)
 |k,.od h q r=>.od (k _ Zf _ h) q (RepAll.same e r)
theorem OwnL.mono (e:aS F F') {v:List V} {x:List OD} {f:List Addr}:(∀a∈f,∀o,H a=some o->H' a=some o)->OwnL K F H v x f->OwnL K F' H' v x f
 |_,.nil=>.nil
 |k,.cons h r=>.cons (Own.mono e (λa m=>k a (Zv _ m)) h) (OwnL.mono e (λa m=>k a (Zp _ m)) r)
end
mutual
theorem Own.dom {v:V} {x:OD} {f:List Addr}:Own K F H v x f->∀a∈f,∃o,H a=some o
 |.sh _,a,m=>by cases m
 |.ol h r,a,m=>by
  rcases Zn.mp m with rfl | m
  ·exact ⟨_,h⟩
  ·exact OwnL.dom r a m
 |.ot h r,a,m=>by
  rcases Zn.mp m with rfl | m
  ·exact ⟨_,h⟩
  ·exact OwnL.dom r a m
 |.od h q r,a,m=>by
  rcases Zn.mp m with rfl | m
  ·exact ⟨_,h⟩
  ·cases m
theorem OwnL.dom {v:List V} {x:List OD} {f:List Addr}:OwnL K F H v x f->∀a∈f,∃o,H a=some o
 |.nil,a,m=>by cases m
 |.cons h r,a,m=>by
  rcases Zr.mp m with m | m
  ·exact Own.dom h a m
  ·exact OwnL.dom r a m
end
mutual
theorem Own.frz (e:aS F F') {v:V} {x:OD} {f:List Addr}:(∀a∈f,∀o,H a=some o->F' a=some o)->Own K F H v x f->Rep K F' v x.er
 |_,.sh r=>by rw [iU];exact r.same e
 |k,.ol h r=>by rw [OD.er];exact .lst (RdK.of (k _ Zf _ h)) (OwnL.frz e (λa m=>k a (Ze _ m)) r)
 |k,.ot h r=>by rw [OD.er];exact .tup (k _ Zf _ h) (OwnL.frz e (λa m=>k a (Ze _ m)) r)
 |k,.od h q r=>by rw [OD.er];exact .dct (k _ Zf _ h) q (r.same e)
theorem OwnL.frz (e:aS F F') {v:List V} {x:List OD} {f:List Addr}:(∀a∈f,∀o,H a=some o->F' a=some o)->OwnL K F H v x f->RepAll K F' v (OD.ers x)
 |_,.nil=>by rw [OD.ers];exact .nil
 |k,.cons h r=>by rw [OD.ers];exact .cons (Own.frz e (λa m=>k a (Zv _ m)) h) (OwnL.frz e (λa m=>k a (Zp _ m)) r)
end
theorem OwnL.len {v:List V} {x:List OD} {f:List Addr} (o:OwnL K F H v x f):v.length=x.length:=by
 induction x generalizing v f with
 |nil=>cases o;rfl
 |cons a r ih =>
  cases o with
  |cons h t=>exact congrArg (·+1) (ih t)
theorem OwnL.app {v w:List V} {x y:List OD} {f g:List Addr} (o:OwnL K F H v x f) (q:OwnL K F H w y g):OwnL K F H (v++w) (x++y) (f++g):=by
 induction x generalizing v f with
 |nil=>cases o;exact q
 |cons a r ih =>
  cases o with
  |cons h t =>
   rw [List.cons_append,List.cons_append,ZB];exact .cons h (ih t)
theorem OwnL.shs:∀{v:List V} {ds:List PyData},RepAll K F v ds->OwnL K F H v (ds.map OD.sh) []
 |_,_,.nil=>.nil
 |_,_,.cons h r=>.cons (f:=[]) (.sh h) (OwnL.shs r)
theorem RepAll.len:∀{v:List V} {ds:List PyData},RepAll K F v ds->v.length=ds.length
 |_,_,.nil=>rfl
 |_,_,.cons _ r=>by rw [Zq,Zq,RepAll.len r]
theorem RepAll.get:∀{v:List V} {ds:List PyData} {i:Nat} {d:PyData},RepAll K F v ds->ds[i]?=some d->∃x,v[i]?=some x/\Rep K F x d
 |_,_,_,_,.nil,e=>by simp at e
 |_,_,0,_,.cons h _,e=>by
  simp at e
  subst e;exact ⟨_,rfl,h⟩
 |_,_,i+1,_,.cons _ r,e=>by
  obtain ⟨x,h1,h2⟩:=RepAll.get (i:=i) r (by simpa using e)
  exact ⟨x,by simpa using h1,h2⟩
theorem RepAll.app:∀{v w:List V} {ds es:List PyData},RepAll K F v ds->RepAll K F w es->RepAll K F (v++w) (ds++es)
 |_,_,_,_,.nil,q=>q
 |_,_,_,_,.cons h r,q=>.cons h (RepAll.app r q)
theorem RepAll.take:∀{v:List V} {ds:List PyData} (n:Nat),RepAll K F v ds->RepAll K F (v.take n) (ds.take n)
 |_,_,0,_=>by rw [List.take_zero,List.take_zero];exact .nil
 |_,_,_+1,.nil=>.nil
 |_,_,n+1,.cons h r=>.cons h (RepAll.take n r)
theorem RepAll.drop:∀{v:List V} {ds:List PyData} (n:Nat),RepAll K F v ds->RepAll K F (v.drop n) (ds.drop n)
 |_,_,0,r=>r
 |_,_,_+1,.nil=>.nil
 |_,_,n+1,.cons h r=>RepAll.drop n r
theorem RepAll.toInts:∀{v:List V} {ns:List Int},RepAll K F v (ns.map PyData.int)->v=ns.map V.int
 |_,[],.nil=>rfl
 |_,n :: ns,.cons h r=>by
  cases h;rw [RepAll.toInts r];rfl
theorem RepAll.ofInts:∀(ns:List Int),RepAll K F (ns.map V.int) (ns.map PyData.int)
 |[]=>.nil
 |n :: ns=>.cons (.int n) (RepAll.ofInts ns)
end
structure Ext (F H F' H':Hp):Prop where
 ff:aS F F'
 hh:aS H H'
 fh:aS F' H'
 nw:∀a,H a≠none->F a=none->F' a=none
theorem d7 {α:Type} {o:Option α} {x:α} (h:o=some x):o≠none:=by
 rw [h];exact Option.some_ne_none x
theorem _root_.L2.aS.dom {H H':Hp} (e:aS H H') {a:Addr} (h:H a≠none):H' a≠none:=by
 cases q:H a with
 |none=>exact absurd q h
 |some o=>exact d7 (e a o q)
section
variable {F H F1 H1 F2 H2:Hp}
theorem Ext.refl (h:aS F H):Ext F H F H:=⟨aS.refl _,aS.refl _,h,λ_ _ z=>z⟩
theorem Ext.trans (a:Ext F H F1 H1) (b:Ext F1 H1 F2 H2):Ext F H F2 H2:=⟨a.ff.trans b.ff,a.hh.trans b.hh,b.fh,λx h n=>b.nw x (a.hh.dom h) (a.nw x h n)⟩
theorem Ext.alloc {p:Addr} {o:HO} (h:aS F H) (hp:H p=none):Ext F H F (upd H p o) :=
 ⟨aS.refl _,(aS.refl H).upd hp,(aS.upd h (h.free hp)),λ_ _ z=>z⟩
theorem Ext.allocF {p:Addr} {o:HO} (h:aS F H) (hp:H p=none):Ext F H (upd F p o) (upd H p o):=by
 refine ⟨(aS.refl F).upd (h.free hp),(aS.refl H).upd hp,λb u q=>?_,λa ha n=>?_⟩
 ·by_cases e:b=p
  ·subst e
   rw [bU]at q ⊢;exact q
  ·rw [aU e]at q ⊢
   exact h b u q
 ·have e:a≠p:=by
   rintro rfl;exact ha hp
  rw [aU e];exact n
end
structure Res (K:PySem.W.Frag) (F H:Hp) (v:V) (x:OD) (f:List Addr):Prop where
 own:Own K F H v x f
 nd:f.Nodup
 fr:∀a∈f,F a=none
structure ResL (K:PySem.W.Frag) (F H:Hp) (v:List V) (x:List OD) (f:List Addr):Prop where
 own:OwnL K F H v x f
 nd:f.Nodup
 fr:∀a∈f,F a=none
open Classical in
noncomputable def kY (F H:Hp) (f:List Addr):Hp:=λa=>if a∈f then H a else F a
theorem lq {F H:Hp} {f:List Addr} {a:Addr} (h:a∈f):kY F H f a=H a:=by unfold kY;rw [if_pos h]
theorem iW {F H:Hp} {f:List Addr} {a:Addr} (h:a∉f):kY F H f a=F a:=by unfold kY;rw [if_neg h]
section
variable {K:PySem.W.Frag} {F H F' H' F1 H1:Hp} {v:V} {x:OD} {f:List Addr} {vs:List V} {xs:List OD}
theorem ji (n:∀a∈f,F a=none):aS F (kY F H f):=λa o q=>by
 rw [iW]
 ·exact q
 ·intro m
  rw [n a m]at q;cases q
theorem rM (h:aS F H):aS (kY F H f) H:=λa o q=>by
 by_cases m:a∈f
 ·rw [lq m]at q
  exact q
 ·rw [iW m]at q
  exact h a o q
theorem Res.ext (r:Res K F H v x f) (e:Ext F H F' H'):Res K F' H' v x f :=
 ⟨r.own.mono e.ff λa _ o q=>e.hh a o q,r.nd,λa m=>e.nw a (let ⟨_,q⟩:=r.own.dom a m;d7 q) (r.fr a m)⟩
theorem ResL.ext (r:ResL K F H vs xs f) (e:Ext F H F' H'):ResL K F' H' vs xs f :=
 ⟨r.own.mono e.ff λa _ o q=>e.hh a o q,r.nd,λa m=>e.nw a (let ⟨_,q⟩:=r.own.dom a m;d7 q) (r.fr a m)⟩
theorem qU (e:Ext F H F1 H1) (n:∀a∈f,F1 a=none) (w:∀a∈f,H a=none):Ext F H (kY F1 H1 f) H1 :=
 ⟨e.ff.trans (ji n),e.hh,rM e.fh,λa h z=>by
  have m:a∉f:=λm=>h (w a m)
  rw [iW m];exact e.nw a h z⟩
theorem Res.frz (e:Ext F H F1 H1) (r:Res K F1 H1 v x f) (w:∀a∈f,H a=none):∃G,Ext F H G H1/\Rep K G v x.er :=
 ⟨kY F1 H1 f,qU e r.fr w,r.own.frz (ji r.fr) λa m o q=>by rw [lq m];exact q⟩
theorem ResL.frz (e:Ext F H F1 H1) (r:ResL K F1 H1 vs xs f) (w:∀a∈f,H a=none):∃G,Ext F H G H1/\RepAll K G vs (xs.map OD.er) :=
 ⟨kY F1 H1 f,qU e r.fr w,by rw [<-lp];exact r.own.frz (ji r.fr) λa m o q=>by rw [lq m];exact q⟩
theorem Res.sh {d:PyData} (r:Rep K F v d):Res K F H v (.sh d) []:=⟨.sh r,List.nodup_nil,λ_ m=>by cases m⟩
theorem ResL.nil:ResL K F H [] [] []:=⟨.nil,List.nodup_nil,λ_ m=>by cases m⟩
theorem ResL.cons {f1:List Addr} (r:Res K F H v x f1) (q:ResL K F H vs xs f) (d:∀a∈f1,a∉f):ResL K F H (v :: vs) (x :: xs) (f1++f) :=
 ⟨.cons r.own q.own,ZI.mpr ⟨r.nd,q.nd,λa m b n e=>d a m (e▸n)⟩,λa m=>(Zr.mp m).elim (r.fr a) (q.fr a)⟩
end
inductive OwnS (K:PySem.W.Frag) (F H:Hp):St->Env->List Addr->Prop
 |nil:OwnS K F H [] [] []
 |no {v:Option V} {σ:St} {ρ:Env} {g:List Addr}:OwnS K F H σ ρ g->OwnS K F H (v :: σ) (none :: ρ) g
 |yes {v:V} {x:OD} {f:List Addr} {σ:St} {ρ:Env} {g:List Addr}:Own K F H v x f->OwnS K F H σ ρ g->OwnS K F H (some v :: σ) (some x :: ρ) (f++g)
section
variable {K:PySem.W.Frag} {F H F' H':Hp}
theorem OwnS.mono (e:aS F F') {σ:St} {ρ:Env} {g:List Addr} (k:∀a∈g,∀o,H a=some o->H' a=some o) (S:OwnS K F H σ ρ g):OwnS K F' H' σ ρ g:=by
 induction S with
 |nil=>exact .nil
 |no r ih=>exact .no (ih k)
 |yes h r ih=>exact .yes (h.mono e λa m=>k a (Zv _ m)) (ih λa m=>k a (Zp _ m))
theorem OwnS.dom {σ:St} {ρ:Env} {g:List Addr} (S:OwnS K F H σ ρ g):∀a∈g,∃o,H a=some o:=by
 induction S with
 |nil=>exact λa m=>by cases m
 |no r ih=>exact ih
 |yes h r ih=>exact λa m=>(Zr.mp m).elim (h.dom a) (ih a)
theorem OwnS.at {σ:St} {ρ:Env} {g:List Addr} (S:OwnS K F H σ ρ g):∀{i:Nat} {x:OD},ρ[i]?=some (some x) ->
  ∃v f g1 g2,σ[i]?=some (some v)/\Own K F H v x f/\g=g1++(f++g2)/\∀(F' H':Hp),aS F F'->(∀a∈g1++g2,∀o,H a=some o->H' a=some o)->∀v' x' f',Own K F' H' v' x' f'->OwnS K F' H' (σ.set i (some v')) (ρ.set i (some x')) (g1++(f'++g2)):=by
 induction S with
 |nil=>intro i x e;simp at e
 |no r ih =>
  intro i x e;cases i with
  |zero=>simp at e
  |succ i =>
   obtain ⟨v,f,g1,g2,h1,h2,h3,h4⟩:=ih (i:=i) (by simpa using e)
   exact ⟨v,f,g1,g2,by simpa using h1,h2,h3,λF' H' s k v' x' f' o=>.no (h4 F' H' s k v' x' f' o)⟩
 |@yes v0 x0 f0 σ0 ρ0 g0 h r ih =>
  intro i x e;cases i with
  |zero =>
   simp at e
   subst e;exact ⟨_,f0,[],g0,rfl,h,rfl,λF' H' s k v' x' f' o=>OwnS.yes (f:=f') (g:=g0) o (r.mono s k)⟩
  |succ i =>
   obtain ⟨v,f,g1,g2,h1,h2,h3,h4⟩:=ih (i:=i) (by simpa using e)
   refine ⟨v,f,f0++g1,g2,by simpa using h1,h2,by rw [h3,ZB],λF' H' s k v' x' f' o=>?_⟩
   rw [ZB];exact .yes (h.mono s λa m=>k a (Zv _ (Zv _ m))) (h4 F' H' s (λa m=>k a (by simp at m ⊢;rcases m with m | m <;> simp [m])) v' x' f' o)
theorem OwnS.put {σ:St} {ρ:Env} {g:List Addr} (S:OwnS K F H σ ρ g):∀{i:Nat},i<ρ.length ->
  ∃f g1 g2,g=g1++(f++g2)/\∀(F' H':Hp),aS F F'->(∀a∈g1++g2,∀o,H a=some o->H' a=some o)->∀v' x' f',Own K F' H' v' x' f'->OwnS K F' H' (σ.set i (some v')) (ρ.set i (some x')) (g1++(f'++g2)):=by
 induction S with
 |nil=>intro i e;simp at e
 |@no v0 σ0 ρ0 g0 r ih =>
  intro i e;cases i with
  |zero=>exact ⟨[],[],g0,rfl,λF' H' s k v' x' f' o=>OwnS.yes (f:=f') (g:=g0) o (r.mono s k)⟩
  |succ i =>
   obtain ⟨f,g1,g2,h3,h4⟩:=ih (i:=i) (by simpa using e)
   exact ⟨f,g1,g2,h3,λF' H' s k v' x' f' o=>.no (h4 F' H' s k v' x' f' o)⟩
 |@yes v0 x0 f0 σ0 ρ0 g0 h r ih =>
  intro i e;cases i with
  |zero=>exact ⟨f0,[],g0,rfl,λF' H' s k v' x' f' o=>OwnS.yes (f:=f') (g:=g0) o (r.mono s k)⟩
  |succ i =>
   obtain ⟨f,g1,g2,h3,h4⟩:=ih (i:=i) (by simpa using e)
   refine ⟨f,f0++g1,g2,by rw [h3,ZB],λF' H' s k v' x' f' o=>?_⟩
   rw [ZB];exact .yes (h.mono s λa m=>k a (Zv _ (Zv _ m))) (h4 F' H' s (λa m=>k a (by simp at m ⊢;rcases m with m | m <;> simp [m])) v' x' f' o)
theorem OwnS.erase (e:aS F H) {σ:St} {ρ:Env} {g:List Addr} (S:OwnS K F H σ ρ g):OwnS K H H σ (L3.erase ρ) []:=by
 induction S with
 |nil=>exact .nil
 |no r ih=>exact .no ih
 |yes h r ih=>exact .yes (f:=[]) (.sh (h.frz e λ_ _ _ q=>q)) ih
theorem OwnS.len {σ:St} {ρ:Env} {g:List Addr} (S:OwnS K F H σ ρ g):σ.length=ρ.length:=by
 induction S with
 |nil=>rfl
 |no r ih=>exact congrArg (·+1) ih
 |yes h r ih=>exact congrArg (·+1) ih
end
structure Stt (K:PySem.W.Frag) (n:Nat) (F H:Hp) (σ:St) (ρ:Env) (fp:List Addr):Prop where
 same:aS F H
 own:OwnS K F H σ ρ fp
 nd:fp.Nodup
 fr:∀a∈fp,F a=none
 len:ρ.length=n
structure Stp (F H:Hp) (fp:List Addr) (F' H':Hp) (fp':List Addr):Prop where
 ff:aS F F'
 keep:∀a o,H a=some o->a∉fp->H' a=some o
 new:∀a∈fp',a∈fp\/H a=none
 nw:∀a,H a≠none->a∉fp->F a=none->F' a=none
section
variable {K:PySem.W.Frag} {n:Nat} {F H F' H' F1 H1 F2 H2:Hp} {σ:St} {ρ:Env} {fp fp1 fp2:List Addr}
theorem Stt.ext (s:Stt K n F H σ ρ fp) (e:Ext F H F' H'):Stt K n F' H' σ ρ fp :=
 ⟨e.fh,s.own.mono e.ff λa _ o q=>e.hh a o q,s.nd,λa m=>e.nw a (let ⟨_,q⟩:=s.own.dom a m;d7 q) (s.fr a m),s.len⟩
theorem Stt.erase (s:Stt K n F H σ ρ fp):Stt K n H H σ (L3.erase ρ) [] :=
 ⟨aS.refl _,s.own.erase s.same,List.nodup_nil,(λ_ m=>by cases m),(by unfold L3.erase;rw [Zc];exact s.len)⟩
theorem Stp.refl:Stp F H fp F H fp:=⟨aS.refl _,λ_ _ h _=>h,λ_ m=>.inl m,λ_ _ _ z=>z⟩
theorem Ext.stp (e:Ext F H F' H'):Stp F H fp F' H' fp:=⟨e.ff,λa o h _=>e.hh a o h,λ_ m=>.inl m,λa h _ z=>e.nw a h z⟩
theorem Stp.out (s:Stp F H fp F1 H1 fp1) {a:Addr} (h:H a≠none) (m:a∉fp):a∉fp1:=λq=>(s.new a q).elim m h
theorem Stp.trans (s:Stp F H fp F1 H1 fp1) (t:Stp F1 H1 fp1 F2 H2 fp2):Stp F H fp F2 H2 fp2 where
 ff:=s.ff.trans t.ff
 keep a o h m:=t.keep a o (s.keep a o h m) (s.out (d7 h) m)
 new a m:=(t.new a m).elim (s.new a) λz=>by
  by_cases q:a∈fp
  ·exact .inl q
  ·refine .inr ?_
   cases w:H a with
   |none=>rfl
   |some o =>
    rw [s.keep a o w q]at z;cases z
 nw a h m z:=t.nw a (by
  cases w:H a with
  |none=>exact absurd w h
  |some o=>exact d7 (s.keep a o w m)) (s.out h m) (s.nw a h m z)
theorem Stt.set (s:Stt K n F H σ ρ fp) {i:Nat} (hi:i<n) {v:V} {x:OD} {fx:List Addr} (r:Res K F H v x fx) (d:∀a∈fx,a∉fp) :
  ∃fp',Stt K n F H (σ.set i (some v)) (ρ.set i (some x)) fp'/\∀a∈fp',a∈fp\/a∈fx:=by
 obtain ⟨f,g1,g2,e,k⟩:=s.own.put (i:=i) (by rw [s.len];exact hi)
 subst e;have nd:=s.nd;have sub:∀a∈g1++(fx++g2),a∈g1++(f++g2)\/a∈fx:=λa m=>by
  simp only [Zr]at m ⊢;rcases m with m | m | m
  ·exact .inl (.inl m)
  ·exact .inr m
  ·exact .inl (.inr (.inr m))
 refine ⟨g1++(fx++g2),⟨s.same,k F H (aS.refl _) (λ_ _ _ q=>q) v x fx r.own,?_,λa m=>(sub a m).elim (s.fr a) (r.fr a),by rw [ZH];exact s.len⟩,sub⟩
 simp only [ZI,Zr]at nd d ⊢;obtain ⟨n1,⟨n2,n3,n4⟩,n5⟩:=nd;refine ⟨n1,⟨r.nd,n3,λa ha b hb e=>d a ha (.inr (.inr (e▸hb)))⟩,λa ha b hb e=>?_⟩
 rcases hb with hb | hb
 ·exact d b hb (.inl (e▸ha))
 ·exact n5 a ha b (.inr hb) e
end
end L3
namespace L3
open PySem L2
structure Mx where
 K:PySem.W.Frag
 mg:Str->Option Value
 E:XK
noncomputable def XOk (M:Mx) (c:Str) (H:Hp) (fp:List Addr):Prop:=∃cv,M.mg c=some cv/\∀od H',(∀a o,H a=some o->a∉fp->H' a=some o)->M.E cv od H'
noncomputable def aM (M:Mx) (H:Hp) (fp:List Addr) {α:Type} (P:α->Prop):R α->Prop
 |.ok a=>P a
 |.ex c=>XOk M c H fp
 |.bad=>False
noncomputable def OkE (M:Mx) (F H:Hp) (Q:VK) (x:OD):Prop:=∀v F' H' fx,Ext F H F' H'->Res M.K F' H' v x fx->(∀a∈fx,H a=none)->Q v H'
noncomputable def OkL (M:Mx) (F H:Hp) (Q:List V->Hp->Prop) (x:List OD):Prop:=∀v F' H' fx,Ext F H F' H'->ResL M.K F' H' v x fx->(∀a∈fx,H a=none)->Q v H'
noncomputable def OkH (F H:Hp) {α:Type} (Q:α->Hp->Prop) (x:α):Prop:=∀F' H',Ext F H F' H'->Q x H'
section
variable {M:Mx} {F H F1 H1 F2 H2:Hp} {fp fp1:List Addr} {α β:Type} {P P':α->Prop} {r:R α}
theorem aM.bind {P:β->Prop} {g:α->R β} (h:aM M H fp P (r.bind g)):aM M H fp (λa=>aM M H fp P (g a)) r:=by
 cases r with
 |ok a=>exact h
 |ex c=>exact h
 |bad=>exact h
theorem aM.mono (h:aM M H fp P r) (k:∀a,P a->P' a):aM M H fp P' r:=by
 cases r with
 |ok a=>exact k a h
 |ex c=>exact h
 |bad=>exact h
theorem XOk.stp (s:Stp F H fp F1 H1 fp1) {c:Str} (h:XOk M c H fp):XOk M c H1 fp1 :=
 let ⟨cv,e,k⟩:=h
 ⟨cv,e,λod H' q=>k od H' λa o z m=>q a o (s.keep a o z m) (s.out (d7 z) m)⟩
theorem aM.stp (s:Stp F H fp F1 H1 fp1) (h:aM M H fp P r):aM M H1 fp1 P r:=by
 cases r with
 |ok a=>exact h
 |ex c=>exact XOk.stp s h
 |bad=>exact h
theorem aM.ext (e:Ext F H F1 H1) (h:aM M H fp P r):aM M H1 fp P r:=h.stp e.stp
theorem aM.nofp (h:aM M H fp P r):aM M H [] P r:=by
 cases r with
 |ok a=>exact h
 |ex c =>
  obtain ⟨cv,e,k⟩:=h;exact ⟨cv,e,λod H' q=>k od H' λa o z _=>q a o z (by simp)⟩
 |bad=>exact h
theorem OkE.pre {Q:VK} {x:OD} (e:Ext F H F1 H1) (h:OkE M F H Q x):OkE M F1 H1 Q x:=λv F' H' fx e' r w=>h v F' H' fx (e.trans e') r λa m=>e.hh.free (w a m)
theorem OkH.pre {Q:α->Hp->Prop} {x:α} (e:Ext F H F1 H1) (h:OkH F H Q x):OkH F1 H1 Q x:=λF' H' e'=>h F' H' (e.trans e')
theorem OkE.val {Q:VK} {d:PyData} {v:V} (s:aS F H) (h:OkE M F H Q (.sh d)) (r:Rep M.K F v d):Q v H:=h v F H [] (Ext.refl s) (Res.sh r) λ_ m=>by cases m
theorem OkE.lst {Q:VK} {xs:List OD} {vs:List V} {f:List Addr} {p:Addr} (s:aS F H) (h:OkE M F1 H1 Q (.ol xs)) (e:Ext F1 H1 F H) (r:ResL M.K F H vs xs f) (w:∀a∈f,H1 a=none) (hp:H p=none):Q (.ref p) (upd H p (.lst vs)):=by
 have np:p∉f:=λm=>by
  obtain ⟨o,q⟩:=r.own.dom p m;rw [hp]at q;cases q
 refine h (.ref p) F _ (p :: f) (e.trans (Ext.alloc s hp)) ⟨.ol bU (r.own.mono (aS.refl _) λa m o q=>?_),List.nodup_cons.mpr ⟨np,r.nd⟩,λa m=>?_⟩ λa m=>?_
 ·rw [aU (bj q hp)]
  exact q
 ·rcases Zn.mp m with rfl | m
  ·exact s.free hp
  ·exact r.fr a m
 ·rcases Zn.mp m with rfl | m
  ·exact e.hh.free hp
  ·exact w a m
theorem OkE.tup {Q:VK} {xs:List OD} {vs:List V} {f:List Addr} {p:Addr} (s:aS F H) (h:OkE M F1 H1 Q (.ot xs)) (e:Ext F1 H1 F H) (r:ResL M.K F H vs xs f) (w:∀a∈f,H1 a=none) (hp:H p=none):Q (.ref p) (upd H p (.tup vs)):=by
 have np:p∉f:=λm=>by
  obtain ⟨o,q⟩:=r.own.dom p m;rw [hp]at q;cases q
 refine h (.ref p) F _ (p :: f) (e.trans (Ext.alloc s hp)) ⟨.ot bU (r.own.mono (aS.refl _) λa m o q=>?_),List.nodup_cons.mpr ⟨np,r.nd⟩,λa m=>?_⟩ λa m=>?_
 ·rw [aU (bj q hp)]
  exact q
 ·rcases Zn.mp m with rfl | m
  ·exact s.free hp
  ·exact r.fr a m
 ·rcases Zn.mp m with rfl | m
  ·exact e.hh.free hp
  ·exact w a m
theorem OkE.lstD {Q:VK} {ds:List PyData} {vs:List V} {p:Addr} (s:aS F H) (h:OkE M F H Q (.ol (ds.map OD.sh))) (r:RepAll M.K F vs ds) (hp:H p=none):Q (.ref p) (upd H p (.lst vs)) :=
 OkE.lst s h (Ext.refl s) ⟨OwnL.shs r,List.nodup_nil,λ_ m=>by cases m⟩ (λ_ m=>by cases m) hp
theorem OkE.tupF {Q:VK} {ds:List PyData} {vs:List V} {p:Addr} (s:aS F H) (h:OkE M F1 H1 Q (.sh (.tuple ds))) (e:Ext F1 H1 F H) (r:RepAll M.K F vs ds) (hp:H p=none):Q (.ref p) (upd H p (.tup vs)) :=
 h (.ref p) (upd F p (.tup vs)) _ [] (e.trans (Ext.allocF s hp)) (Res.sh (.tup bU (r.same ((aS.refl F).upd (s.free hp))))) λ_ m=>by cases m
theorem OwnL.of_shs {K:PySem.W.Frag} {vs:List V} {xs:List OD} {f:List Addr} {ds:List PyData} (o:OwnL K F H vs xs f) (e:L3.shs xs=some ds):f=[]/\RepAll K F vs ds:=by
 induction xs generalizing vs f ds with
 |nil =>
  cases o;unfold L3.shs at e;cases e;exact ⟨rfl,.nil⟩
 |cons a0 r0 ih0 =>
 cases o with
 |cons h0 r =>
  have ih:=λds=>ih0 (ds:=ds) r
  cases h0 with
  |sh h =>
   unfold L3.shs at e;split at e
   ·rename_i es q
    cases e;obtain ⟨rfl,k⟩:=ih _ q;exact ⟨rfl,.cons h k⟩
   ·cases e
  |ol _ _ =>
   unfold L3.shs at e;cases e
  |ot _ _ =>
   unfold L3.shs at e;cases e
  |od _ _ _ =>
   unfold L3.shs at e;cases e
end
noncomputable def tD (M:Mx) (n:Nat) (f:Fe):TE:=fun σ H Q=>∃F ρ fp,Stt M.K n F H σ ρ fp/\aM M H fp (OkE M F H Q) (f ρ)
noncomputable def tA (M:Mx) (n:Nat) (f:Fa):TA:=fun σ H Q=>∃F ρ fp,Stt M.K n F H σ ρ fp/\aM M H fp (OkL M F H Q) (f ρ)
noncomputable def tT (M:Mx) (n:Nat) (f:Ft):TT:=fun σ H Q=>∃F ρ fp,Stt M.K n F H σ ρ fp/\aM M H fp (OkH F H Q) (f ρ)
noncomputable def tO (M:Mx) (n:Nat) (f:Fo):TO:=fun σ H Q=>∃F ρ fp,Stt M.K n F H σ ρ fp/\aM M H fp (OkH F H Q) (f ρ)
noncomputable def Ok2 (M:Mx) (r:R2) (g:PyData->PyData->R OD):Prop:=∀(x y:V) (dx dy:PyData) (F H:Hp) (fp:List Addr) (Q:VK),aS F H->Rep M.K F x dx->Rep M.K F y dy->aM M H fp (OkE M F H Q) (g dx dy)->r x y H Q
noncomputable def Ok1 (M:Mx) (r:V->Hp->VK->Prop) (g:PyData->R OD):Prop:=∀(x:V) (dx:PyData) (F H:Hp) (fp:List Addr) (Q:VK),aS F H->Rep M.K F x dx->aM M H fp (OkE M F H Q) (g dx)->r x H Q
noncomputable def OkC (M:Mx) (r:List V->Hp->VK->Prop) (g:List PyData->R OD):Prop:=∀(x:List V) (dx:List PyData) (F H:Hp) (fp:List Addr) (Q:VK),aS F H->RepAll M.K F x dx->aM M H fp (OkE M F H Q) (g dx)->r x H Q
noncomputable def OkS (M:Mx) (r:V->Option Int->Option Int->Hp->VK->Prop) (g:PyData->Option Int->Option Int->R OD):Prop:=∀(x:V) (i j:Option Int) (dx:PyData) (F H:Hp) (fp:List Addr) (Q:VK),aS F H->Rep M.K F x dx->aM M H fp (OkE M F H Q) (g dx i j)->r x i j H Q
section
variable {M:Mx} {n:Nat} {σ:St} {H:Hp} {Q:VK} {QB:Bool->Hp->Prop} {fa fb:Fe} {ta tb:Ft}
theorem CD {i:Nat} (h:tD M n (af i) σ H Q):i8 i σ H Q:=by
 obtain ⟨F,ρ,fp,S,p⟩:=h;unfold af at p;split at p
 ·rename_i d e
  obtain ⟨v,f,g1,g2,h1,h2,h3,h4⟩:=S.own.at e;cases h2 with
  |sh r=>exact ⟨v,h1,OkE.val S.same p r⟩
 ·exact p.elim
theorem d_c {v:V} {d:PyData} (hr:∀K F,Rep K F v d) (h:tD M n (eC d) σ H Q):tC v σ H Q:=by
 obtain ⟨F,ρ,fp,S,p⟩:=h;exact OkE.val S.same p (hr _ _)
theorem wZ {r:R2} {g:PyData->PyData->R OD} (hg:Ok2 M r g) (h:tD M n (eOp g fa fb) σ H Q):tOp r (tD M n fa) (tD M n fb) σ H Q:=by
 obtain ⟨F,ρ,fp,S,p⟩:=h;refine ⟨F,ρ,fp,S,(aM.bind p).mono λx px v F1 H1 fx e1 r1 w1=>?_⟩
 obtain ⟨G1,d1,k1⟩:=r1.frz e1 w1;refine ⟨G1,ρ,fp,S.ext d1,((aM.bind px).ext d1).mono λy py v2 F2 H2 fy e2 r2 w2=>?_⟩
 obtain ⟨G2,d2,k2⟩:=r2.frz e2 w2;exact hg v v2 x.er y.er G2 H2 fp Q d2.fh (k1.same d2.ff) k2 ((py.ext (d1.trans d2)).mono λz hz=>hz.pre (d1.trans d2))
theorem GB {r:V->Hp->VK->Prop} {g:PyData->R OD} (hg:Ok1 M r g) (h:tD M n (eUn g fa) σ H Q):tUn r (tD M n fa) σ H Q:=by
 obtain ⟨F,ρ,fp,S,p⟩:=h;refine ⟨F,ρ,fp,S,(aM.bind p).mono λx px v F1 H1 fx e1 r1 w1=>?_⟩
 obtain ⟨G1,d1,k1⟩:=r1.frz e1 w1;exact hg v x.er G1 H1 fp Q d1.fh k1 ((px.ext d1).mono λz hz=>hz.pre d1)
theorem km {K:PySem.W.Frag} {F:Hp} {v:V} {d:PyData} {fp:List Addr} {P:Bool->Prop} (k:Rep K F v d) (p:aM M H fp P (truth d)):∃b,v=.bl b/\P b:=by
 cases d with
 |bool b =>
  cases k;exact ⟨b,rfl,p⟩
 |none=>exact p.elim
 |int _=>exact p.elim
 |str _=>exact p.elim
 |list _=>exact p.elim
 |tuple _=>exact p.elim
 |dict _=>exact p.elim
theorem uB (h:tT M n (aB fa) σ H QB):yl (tD M n fa) σ H QB:=by
 obtain ⟨F,ρ,fp,S,p⟩:=h;refine ⟨F,ρ,fp,S,(aM.bind p).mono λx px v F1 H1 fx e1 r1 w1=>?_⟩
 obtain ⟨G1,d1,k1⟩:=r1.frz e1 w1;obtain ⟨b,rfl,q⟩:=km k1 px;exact ⟨b,rfl,q G1 H1 d1⟩
theorem d_b (h:tT M n (aB fa) σ H QB):tB (tD M n fa) σ H QB:=uB h
theorem z_ (h:tT M n (jC ta tb) σ H QB):CN (tT M n ta) (tT M n tb) σ H QB:=by
 obtain ⟨F,ρ,fp,S,p⟩:=h;refine ⟨F,ρ,fp,S,(aM.bind p).mono λc pc F1 H1 e1=>?_⟩
 cases c with
 |true =>
  rw [if_pos rfl]at pc ⊢;exact ⟨F1,ρ,fp,S.ext e1,(pc.ext e1).mono λb hb=>hb.pre e1⟩
 |false =>
  rw [if_neg Zl]at pc ⊢;exact pc F1 H1 e1
theorem Fy (h:tT M n (f_ ta tb) σ H QB):tOr (tT M n ta) (tT M n tb) σ H QB:=by
 obtain ⟨F,ρ,fp,S,p⟩:=h;refine ⟨F,ρ,fp,S,(aM.bind p).mono λc pc F1 H1 e1=>?_⟩
 cases c with
 |true =>
  rw [if_pos rfl]at pc ⊢;exact pc F1 H1 e1
 |false =>
  rw [if_neg Zl]at pc ⊢;exact ⟨F1,ρ,fp,S.ext e1,(pc.ext e1).mono λb hb=>hb.pre e1⟩
theorem zL (h:tT M n (ej ta) σ H QB):Ex (tT M n ta) σ H QB:=by
 obtain ⟨F,ρ,fp,S,p⟩:=h;exact ⟨F,ρ,fp,S,(aM.bind p).mono λc pc F1 H1 e1=>pc F1 H1 e1⟩
theorem CM (h:tD M n (pT fa fb) σ H Q):yA (tD M n fa) (tD M n fb) σ H Q:=by
 obtain ⟨F,ρ,fp,S,p⟩:=h;refine ⟨F,ρ,fp,S,(aM.bind p).mono λx px v F1 H1 fx e1 r1 w1=>?_⟩
 obtain ⟨G1,d1,k1⟩:=r1.frz e1 w1;obtain ⟨b,rfl,q⟩:=km k1 (aM.bind px);refine ⟨b,rfl,?_⟩;cases b with
 |true =>
  rw [if_pos rfl]at q ⊢;exact ⟨G1,ρ,fp,S.ext d1,(q.ext d1).mono λz hz=>hz.pre d1⟩
 |false =>
  rw [if_neg Zl]at q ⊢;exact OkE.val d1.fh (OkE.pre d1 q) (.bl _)
theorem GD (h:tD M n (eOr fa fb) σ H Q):Dt (tD M n fa) (tD M n fb) σ H Q:=by
 obtain ⟨F,ρ,fp,S,p⟩:=h;refine ⟨F,ρ,fp,S,(aM.bind p).mono λx px v F1 H1 fx e1 r1 w1=>?_⟩
 obtain ⟨G1,d1,k1⟩:=r1.frz e1 w1;obtain ⟨b,rfl,q⟩:=km k1 (aM.bind px);refine ⟨b,rfl,?_⟩;cases b with
 |true =>
  rw [if_pos rfl]at q ⊢;exact OkE.val d1.fh (OkE.pre d1 q) (.bl _)
 |false =>
  rw [if_neg Zl]at q ⊢;exact ⟨G1,ρ,fp,S.ext d1,(q.ext d1).mono λz hz=>hz.pre d1⟩
theorem DJ (h:tD M n (vH fa) σ H Q):yy (tD M n fa) σ H Q:=by
 obtain ⟨F,ρ,fp,S,p⟩:=h;refine ⟨F,ρ,fp,S,(aM.bind p).mono λx px v F1 H1 fx e1 r1 w1=>?_⟩
 obtain ⟨G1,d1,k1⟩:=r1.frz e1 w1;obtain ⟨b,rfl,q⟩:=km k1 (aM.bind px);exact ⟨b,rfl,OkE.val d1.fh (OkE.pre d1 q) (.bl _)⟩
theorem F9 (h:tD M n (eIf ta fa fb) σ H Q):tIf (tT M n ta) (tD M n fa) (tD M n fb) σ H Q:=by
 obtain ⟨F,ρ,fp,S,p⟩:=h;refine ⟨F,ρ,fp,S,(aM.bind p).mono λc pc F1 H1 e1=>?_⟩
 cases c with
 |true =>
  rw [if_pos rfl]at pc ⊢;exact ⟨F1,ρ,fp,S.ext e1,(pc.ext e1).mono λb hb=>hb.pre e1⟩
 |false =>
  rw [if_neg Zl]at pc ⊢;exact ⟨F1,ρ,fp,S.ext e1,(pc.ext e1).mono λb hb=>hb.pre e1⟩
theorem mK (h:tD M n (eSh fa) σ H Q):tD M n fa σ H Q:=by
 obtain ⟨F,ρ,fp,S,p⟩:=h;refine ⟨F,ρ,fp,S,(aM.bind p).mono λx px v F1 H1 fx e1 r1 w1=>?_⟩
 obtain ⟨G1,d1,k1⟩:=r1.frz e1 w1;exact OkE.val d1.fh (OkE.pre d1 px) k1
theorem uo {K:PySem.W.Frag} {F G:Hp} {v:V} {d:PyData} (h:flat d=true) (r:Rep K F v d):Rep K G v d:=by
 cases r with
 |non=>exact .non
 |bl b=>exact .bl b
 |int i=>exact .int i
 |str x=>exact .str x
 |lst _ _=>cases h
 |tup _ _=>cases h
 |dct _ _ _=>cases h
theorem Et (h:tD M n (k7 fa) σ H Q):tD M n fa σ H Q:=by
 obtain ⟨F,ρ,fp,S,p⟩:=h;refine ⟨H,erase ρ,[],S.erase,(aM.bind p).nofp.mono λx px v F1 H1 fx e1 r1 w1=>?_⟩
 by_cases hf:flat x.er=true
 ·rw [if_pos hf]at px
  obtain ⟨G1,d1,k1⟩:=r1.frz e1 w1;exact px v F H1 [] ⟨aS.refl _,d1.hh,S.same.trans d1.hh,λ_ _ z=>z⟩ (Res.sh (uo hf k1)) λ_ m=>by cases m
 ·rw [if_neg hf]at px
  exact px.elim
theorem BY (h:tT M n (wL ta) σ H QB):tT M n ta σ H QB:=by
 obtain ⟨F,ρ,fp,S,p⟩:=h;refine ⟨H,erase ρ,[],S.erase,(show aM M H fp _ (ta (erase ρ)) from p).nofp.mono λb pb F1 H1 e1=>?_⟩
 exact pb F H1 ⟨aS.refl _,e1.hh,S.same.trans e1.hh,λ_ _ z=>z⟩
variable {QL:List V->Hp->Prop} {al:Fa}
theorem AV (h:tA M n aF σ H QL):qs σ H QL:=by
 obtain ⟨F,ρ,fp,S,p⟩:=h;exact p [] F H [] (Ext.refl S.same) ResL.nil λ_ m=>by cases m
theorem vX (h:tA M n (aj fa al) σ H QL):iM (tD M n fa) (tA M n al) σ H QL:=by
 obtain ⟨F,ρ,fp,S,p⟩:=h;refine ⟨F,ρ,fp,S,(aM.bind p).mono λx px v F1 H1 fx e1 r1 w1=>?_⟩
 refine ⟨F1,ρ,fp,S.ext e1,((aM.bind px).ext e1).mono λxs pxs vs F2 H2 fxs e2 r2 w2=>?_⟩
 refine pxs (v :: vs) F2 H2 (fx++fxs) (e1.trans e2) (ResL.cons (r1.ext e2) r2 λa m q=>?_) λa m=>?_
 ·obtain ⟨o,z⟩:=r1.own.dom a m
  rw [w2 a q]at z;cases z
 ·rcases Zr.mp m with m | m
  ·exact w1 a m
  ·exact e1.hh.free (w2 a m)
theorem ia {k:Nat} (h:k<=BIG):k<=sizeLine:=ZE h (by decide)
theorem uF {k:Nat} (h:k<BIG):k<sizeLine:=ZG h (by decide)
theorem FJ (h:tD M n (fM al) σ H Q):DU (tA M n al) σ H Q:=by
 obtain ⟨F,ρ,fp,S,p⟩:=h;refine ⟨F,ρ,fp,S,(aM.bind p).mono λxs px vs F1 H1 fx e1 r1 w1=>?_⟩
 by_cases hl:xs.length<=BIG
 ·rw [if_pos hl]at px
  exact ⟨by rw [r1.own.len];exact ia hl,λa ha=>OkE.lst e1.fh px e1 r1 w1 ha⟩
 ·rw [if_neg hl]at px
  exact px.elim
theorem DX (h:tD M n (j9 al) σ H Q):CT (tA M n al) σ H Q:=by
 obtain ⟨F,ρ,fp,S,p⟩:=h;refine ⟨F,ρ,fp,S,(aM.bind p).mono λxs px vs F1 H1 fx e1 r1 w1=>?_⟩
 by_cases hl:xs.length<=BIG
 ·rw [if_pos hl]at px
  refine ⟨by rw [r1.own.len];exact ia hl,λa ha=>?_⟩
  unfold mkT at px;split at px
  ·rename_i ds q
   obtain ⟨_,k⟩:=OwnL.of_shs r1.own q;exact OkE.tupF e1.fh px e1 k ha
  ·exact OkE.tup e1.fh px e1 r1 w1 ha
 ·rw [if_neg hl]at px
  exact px.elim
noncomputable def sp3 (K:PySem.W.Frag) (mg:Str->Option Value) (f:Fn):Sp:=λvs H Q E=>∃F ds,aS F H/\RepAll K F vs ds/\aM ⟨K,mg,E⟩ H [] (OkE ⟨K,mg,E⟩ F H Q) (f ds)
theorem zQ {f:Fn} (h:tD M n (aR f al) σ H Q):qL (sp3 M.K M.mg f) [] M.E (tA M n al) σ H Q:=by
 obtain ⟨F,ρ,fp,S,p⟩:=h;refine ⟨F,ρ,fp,S,(aM.bind p).mono λxs px vs F1 H1 fx e1 r1 w1=>?_⟩
 obtain ⟨G1,d1,k1⟩:=r1.frz e1 w1;rw [Zw];exact ⟨G1,xs.map OD.er,d1.fh,k1,(px.ext d1).nofp.mono λz hz=>hz.pre d1⟩
theorem CV {r:List V->Hp->VK->Prop} {g:List PyData->R OD} (hg:OkC M r g) (h:tD M n (eB g al) σ H Q):tCB r (tA M n al) σ H Q:=by
 obtain ⟨F,ρ,fp,S,p⟩:=h;refine ⟨F,ρ,fp,S,(aM.bind p).mono λxs px vs F1 H1 fx e1 r1 w1=>?_⟩
 obtain ⟨G1,d1,k1⟩:=r1.frz e1 w1;exact hg vs (xs.map OD.er) G1 H1 fp Q d1.fh k1 ((px.ext d1).mono λz hz=>hz.pre d1)
variable {QO:Option Int->Hp->Prop} {lo hi:Fo}
theorem wo (h:tO M n fX σ H QO):qC σ H QO:=by
 obtain ⟨F,ρ,fp,S,p⟩:=h;exact p F H (Ext.refl S.same)
theorem w9 (h:tO M n (bM fa) σ H QO):yq (tD M n fa) σ H QO:=by
 obtain ⟨F,ρ,fp,S,p⟩:=h;refine ⟨F,ρ,fp,S,(aM.bind p).mono λx px v F1 H1 fx e1 r1 w1=>?_⟩
 obtain ⟨G1,d1,k1⟩:=r1.frz e1 w1;generalize x.er=d at px k1
 cases d with
 |int i =>
  cases k1;exact ⟨i,rfl,px G1 H1 d1⟩
 |none=>exact px.elim
 |bool _=>exact px.elim
 |str _=>exact px.elim
 |list _=>exact px.elim
 |tuple _=>exact px.elim
 |dict _=>exact px.elim
theorem GG {r:V->Option Int->Option Int->Hp->VK->Prop} {g:PyData->Option Int->Option Int->R OD} (hg:OkS M r g) (h:tD M n (eSl g fa lo hi) σ H Q):tSl r (tD M n fa) (tO M n lo) (tO M n hi) σ H Q:=by
 obtain ⟨F,ρ,fp,S,p⟩:=h;refine ⟨F,ρ,fp,S,(aM.bind p).mono λx px v F1 H1 fx e1 r1 w1=>?_⟩
 obtain ⟨G1,d1,k1⟩:=r1.frz e1 w1;refine ⟨G1,ρ,fp,S.ext d1,((aM.bind px).ext d1).mono λi pi F2 H2 e2=>?_⟩
 refine ⟨F2,ρ,fp,(S.ext d1).ext e2,((aM.bind pi).ext (d1.trans e2)).mono λj pj F3 H3 e3=>?_⟩
 have e:=(d1.trans e2).trans e3;exact hg v i j x.er F3 H3 fp Q e3.fh ((k1.same e2.ff).same e3.ff) ((pj.ext e).mono λz hz=>hz.pre e)
end
noncomputable def iu (M:Mx) (n:Nat) (F H:Hp) (fp:List Addr) (D:Ends):Out->Prop
 |.nx ρ=>∀σ' F' H' fp',Stt M.K n F' H' σ' ρ fp'->Stp F H fp F' H' fp'->D.nx σ' H'
 |.bk ρ=>∀σ' F' H' fp',Stt M.K n F' H' σ' ρ fp'->Stp F H fp F' H' fp'->D.bk σ' H'
 |.ct ρ=>∀σ' F' H' fp',Stt M.K n F' H' σ' ρ fp'->Stp F H fp F' H' fp'->D.ct σ' H'
 |.rt x=>∀v F' H' fx,aS F' H'->Res M.K F' H' v x fx->Stp F H fp F' H' fx->D.rt v H'
noncomputable def tS (M:Mx) (n:Nat) (f:Fs):TS:=λD σ H=>∃F ρ fp,Stt M.K n F H σ ρ fp/\aM M H fp (iu M n F H fp D) (f ρ)
noncomputable def OkG (M:Mx) (n:Nat) (is:List Nat) (F H:Hp) (fp:List Addr) (σ:St) (Q:St->Hp->Prop) (ρ:Env):Prop :=
 ∀σ' F' H' fp',Stt M.K n F' H' σ' ρ fp'->Stp F H fp F' H' fp'->(∀j,j∉is->σ'[j]?=σ[j]?)->Q σ' H'
noncomputable def tG (M:Mx) (n:Nat) (is:List Nat) (f:Fg):TG:=λv σ H Q=>∃F ρ fp x fx,Stt M.K n F H σ ρ fp/\Res M.K F H v x fx/\(∀a∈fx,a∉fp)/\aM M H (fp++fx) (OkG M n is F H (fp++fx) σ Q) (f x ρ)
noncomputable def tGs (M:Mx) (n:Nat) (is:List Nat) (f:Fgs):TGs:=λvs σ H Q=>∃F ρ fp xs fx,Stt M.K n F H σ ρ fp/\ResL M.K F H vs xs fx/\(∀a∈fx,a∉fp)/\aM M H (fp++fx) (OkG M n is F H (fp++fx) σ Q) (f xs ρ)
section
variable {M:Mx} {n:Nat} {F H F1 H1 F2 H2:Hp} {fp fp1 fp2:List Addr} {σ:St} {ρ:Env} {D:Ends}
theorem iu.stp (s:Stp F H fp F1 H1 fp1) {o:Out} (h:iu M n F H fp D o):iu M n F1 H1 fp1 D o:=by
 cases o with
 |nx ρ=>exact fun σ' F' H' fp' a b=>h σ' F' H' fp' a (s.trans b)
 |bk ρ=>exact fun σ' F' H' fp' a b=>h σ' F' H' fp' a (s.trans b)
 |ct ρ=>exact fun σ' F' H' fp' a b=>h σ' F' H' fp' a (s.trans b)
 |rt x=>exact λv F' H' fx a b c=>h v F' H' fx a b (s.trans c)
theorem PostS.stp (s:Stp F H fp F1 H1 fp1) {r:R Out} (h:aM M H fp (iu M n F H fp D) r):aM M H1 fp1 (iu M n F1 H1 fp1 D) r:=(h.stp s).mono λo ho=>ho.stp s
theorem Ext.stpN {fx:List Addr} (e:Ext F H F1 H1) (w:∀a∈fx,H a=none):Stp F H fp F1 H1 (fp++fx) :=
 ⟨e.ff,λa o h _=>e.hh a o h,λa m=>(Zr.mp m).elim .inl λm=>.inr (w a m),λa h _ z=>e.nw a h z⟩
theorem Stp.sub (s:Stp F H fp F1 H1 fp1) (h:∀a∈fp2,a∈fp1):Stp F H fp F1 H1 fp2:=⟨s.ff,s.keep,λa m=>s.new a (h a m),s.nw⟩
theorem Ak (h:tS M n sNx D σ H):xY D σ H:=by
 obtain ⟨F,ρ,fp,S,p⟩:=h;exact p σ F H fp S Stp.refl
theorem EM {f g:Fs} (h:tS M n (aI f g) D σ H):xI (tS M n f) (tS M n g) D σ H:=by
 obtain ⟨F,ρ,fp,S,p⟩:=h;refine ⟨F,ρ,fp,S,(aM.bind p).mono λo po=>?_⟩
 cases o with
 |nx ρ1=>exact fun σ' F' H' fp' S' st=>⟨F',ρ1,fp',S',PostS.stp st po⟩
 |bk ρ=>exact po
 |ct ρ=>exact po
 |rt x=>exact po
theorem FV (h:tS M n kH D σ H):ug D σ H:=by
 obtain ⟨F,ρ,fp,S,p⟩:=h;exact p
theorem GF {t:Ft} {f g:Fs} (h:tS M n (sIf t f g) D σ H):DB (tT M n t) (tS M n f) (tS M n g) D σ H:=by
 obtain ⟨F,ρ,fp,S,p⟩:=h;refine ⟨F,ρ,fp,S,(aM.bind p).mono λc pc F1 H1 e1=>?_⟩
 cases c with
 |true =>
  rw [if_pos rfl]at pc ⊢;exact ⟨F1,ρ,fp,S.ext e1,PostS.stp e1.stp pc⟩
 |false =>
  rw [if_neg Zl]at pc ⊢;exact ⟨F1,ρ,fp,S.ext e1,PostS.stp e1.stp pc⟩
theorem AW {a:Fe} (h:tS M n (i7 a) D σ H):mS (tD M n a) D σ H:=by
 obtain ⟨F,ρ,fp,S,p⟩:=h;exact ⟨F,ρ,fp,S,(aM.bind p).mono λx px v F1 H1 fx e1 r1 w1=>px σ F1 H1 fp (S.ext e1) e1.stp⟩
theorem Dd {a:Fe} (h:tS M n (ba a) D σ H):sY (tD M n a) D σ H:=by
 obtain ⟨F,ρ,fp,S,p⟩:=h;exact ⟨F,ρ,fp,S,(aM.bind p).mono λx px v F1 H1 fx e1 r1 w1=>px v F1 H1 fx e1.fh r1 ((e1.stpN w1).sub λa m=>Zp _ m)⟩
theorem AF {i:Nat} (h:tS M n (kl i) D σ H):sY (i8 i) D σ H:=by
 obtain ⟨F,ρ,fp,S,p⟩:=h;unfold kl at p;split at p
 ·rename_i x e
  obtain ⟨v,f,g1,g2,h1,h2,rfl,h4⟩:=S.own.at e;have sub:∀a∈f,a∈g1++(f++g2):=λa m=>Zp _ (Zv _ m)
  refine ⟨v,h1,p v F H f S.same ⟨h2,?_,λa m=>S.fr a (sub a m)⟩ (Stp.refl.sub sub)⟩
  have nd:=S.nd;simp only [ZI]at nd;exact nd.2.1.1
 ·exact p.elim
theorem x8 {a:Fe} {is:List Nat} {g:Fg} (h:tS M n (so a g) D σ H):r9 (tD M n a) (tG M n is g) D σ H:=by
 obtain ⟨F,ρ,fp,S,p⟩:=h;refine ⟨F,ρ,fp,S,(aM.bind p).mono λx px v F1 H1 fx e1 r1 w1=>?_⟩
 have st:=e1.stpN (fp:=fp) w1;refine ⟨F1,ρ,fp,x,fx,S.ext e1,r1,λa m q=>?_,((aM.bind px).stp st).mono fun ρ' hρ σ' F' H' fp' S' s' _=>hρ σ' F' H' fp' S' (st.trans s')⟩
 obtain ⟨o,z⟩:=S.own.dom a q;rw [w1 a m]at z;cases z
theorem vx {i:Nat} (hi:i<n) {v:V} {Q:St->Hp->Prop} (h:tG M n [i] (gNm i) v σ H Q):nh i v σ H Q:=by
 obtain ⟨F,ρ,fp,x,fx,S,r,d,p⟩:=h;obtain ⟨fp',S',sub⟩:=S.set hi r d;refine p _ F H fp' S' ⟨aS.refl _,λ_ _ h _=>h,λa m=>.inl (Zr.mpr (sub a m)),λ_ _ _ z=>z⟩ λj hj=>?_
 have hne:i≠j:=by
  rintro rfl;exact hj (by simp)
 rw [List.getElem?_set_ne hne]
theorem DM {vs:List V} {Q:St->Hp->Prop} (h:tGs M n [] nA vs σ H Q):EO vs σ H Q:=by
 obtain ⟨F,ρ,fp,xs,fx,S,r,d,p⟩:=h;cases xs with
 |nil =>
  cases r.own with
  |nil=>exact ⟨rfl,p σ F H fp S (Stp.refl.sub λa m=>Zv _ m) λ_ _=>rfl⟩
 |cons x xs=>exact p.elim
theorem BH {vs:List V} {is js:List Nat} {g:Fg} {gs:Fgs} {Q:St->Hp->Prop} (h:tGs M n (is++js) (ic g gs) vs σ H Q):yB (tG M n is g) (tGs M n js gs) vs σ H Q:=by
 obtain ⟨F,ρ,fp,xs,fx,S,r,d,p⟩:=h;cases xs with
 |nil=>exact p.elim
 |cons x xs =>
  obtain ⟨ro,rn,rf⟩:=r;cases ro with
  |@cons v _ f vs _ g' h1 h2 =>
   have nd:=rn;simp only [ZI]at nd;refine ⟨v,vs,rfl,F,ρ,fp,x,f,S,⟨h1,nd.1,λa m=>rf a (Zv _ m)⟩,λa m=>d a (Zv _ m),?_⟩
   have p':aM M H (fp++(f++g')) _ ((g x ρ).bind fun ρ'=>gs xs ρ'):=p
   have s0:Stp F H (fp++(f++g')) F H (fp++f):=Stp.refl.sub λa m=>by
    simp only [Zr]at m ⊢;rcases m with m | m
    ·exact .inl m
    ·exact .inr (.inl m)
   refine ((aM.bind p').stp s0).mono fun ρ1 p1 σ1 F1 H1 fp1 S1 s1 t1=>?_
   have gd:∀a∈g',a∉fp++f:=λa m q=>by
    rcases Zr.mp q with q | q
    ·exact d a (Zp _ m) q
    ·exact nd.2.2 a q a m rfl
   have hd:∀a∈g',H a≠none:=λa m=>let ⟨_,q⟩:=h2.dom a m;d7 q
   have k1:∀a∈g',∀o,H a=some o->H1 a=some o:=λa m o q=>s1.keep a o q (gd a m)
   have out:∀a∈g',a∉fp1:=λa m=>s1.out (hd a m) (gd a m)
   have s2:Stp F H (fp++(f++g')) F1 H1 (fp1++g'):=⟨s1.ff,λa o q m=>s1.keep a o q (λz=>m (by simp only [Zr]at z ⊢;rcases z with z | z <;> simp [z])),λa m=>by
    rcases Zr.mp m with m | m
    ·rcases s1.new a m with z | z
     ·exact .inl (by simp only [Zr]at z ⊢;rcases z with z | z <;> simp [z])
     ·exact .inr z
    ·exact .inl (by simp [m]),λa q m z=>s1.nw a q (λw=>m (by simp only [Zr]at w ⊢;rcases w with w | w <;> simp [w])) z⟩
   refine ⟨F1,ρ1,fp1,xs,g',S1,⟨h2.mono s1.ff k1,nd.2.1,λa m=>s1.nw a (hd a m) (gd a m) (rf a (Zp _ m))⟩,out,(p1.stp s2).mono fun ρ' hρ σ' F' H' fp' S' s' t'=>hρ σ' F' H' fp' S' (s2.trans s') λj hj=>?_⟩
   have hj1:j∉is:=λz=>hj (Zv _ z)
   have hj2:j∉js:=λz=>hj (Zp _ z)
   rw [t' j hj2,t1 j hj1]
theorem FR {k:Nat} {v:V} {is:List Nat} {gs:Fgs} {Q:St->Hp->Prop} (h:tG M n is (gTp k gs) v σ H Q):ER M.K k (tGs M n is gs) v σ H Q:=by
 obtain ⟨F,ρ,fp,x,fx,S,r,d,p⟩:=h;unfold gTp at p;split at p
 ·rename_i xs
  obtain ⟨ro,rn,rf⟩:=r;cases ro with
  |@ot a vs _ f h1 h2 =>
   by_cases hl:xs.length=k
   ·rw [if_pos hl]at p
    have nd:=List.nodup_cons.mp rn;have s0:Stp F H (fp++(a :: f)) F H (fp++f):=Stp.refl.sub λb m=>by
     simp only [Zr,Zn]at m ⊢;rcases m with m | m <;> simp [m]
    exact ⟨a,vs,rfl,SqT.of h1,by rw [h2.len];exact hl,F,ρ,fp,xs,f,S,⟨h2,nd.2,λb m=>rf b (Ze _ m)⟩,λb m=>d b (Ze _ m),(p.stp s0).mono fun ρ' hρ σ' F' H' fp' S' s' t'=>hρ σ' F' H' fp' S' (s0.trans s') t'⟩
   ·rw [if_neg hl]at p
    exact p.elim
 ·rename_i ds
  obtain ⟨ro,rn,rf⟩:=r;cases ro with
  |sh q =>
   by_cases hl:ds.length=k
   ·rw [if_pos hl]at p
    cases q with
    |@tup a vs _ h1 h2 =>
     exact ⟨a,vs,rfl,SqT.of (S.same _ _ h1),by rw [RepAll.len h2];exact hl,F,ρ,fp,ds.map OD.sh,[],S,⟨OwnL.shs h2,List.nodup_nil,λ_ m=>by cases m⟩,(λ_ m=>by cases m),p⟩
   ·rw [if_neg hl]at p
    exact p.elim
 ·exact p.elim
theorem x6 {a:Fe} {i:Nat} (hi:i<n) (h:tS M n (aY i a) D σ H):r9 (tD M n a) (nh i) D σ H:=by
 have h':tS M n (so a (gNm i)) D σ H:=h;obtain ⟨F,ρ,fp,S,p⟩:=x8 (is:=[i]) h';exact ⟨F,ρ,fp,S,p.mono λx px v F1 H1 fx e1 r1 w1=>vx hi (px v F1 H1 fx e1 r1 w1)⟩
theorem Ei {f:Fs} {i:Nat} (h:tS M n (uq i f) D σ H):tS M n f D σ H:=by
 obtain ⟨F,ρ,fp,S,p⟩:=h;unfold uq uf at p;split at p
 ·rename_i x e
  obtain ⟨v,f,g1,g2,h1,h2,rfl,h4⟩:=S.own.at e;have ff:∀a∈f,F a=none:=λa m=>S.fr a (Zp _ (Zv _ m))
  have o:=h4 (kY F H f) H (ji ff) (λ_ _ _ q=>q) v (.sh x.er) [] (.sh (h2.frz (ji ff) λa m o q=>by rw [lq m];exact q))
  have hs:σ.set i (some v)=σ:=by
   apply List.ext_getElem?
   intro j;by_cases hj:i=j
   ·subst hj
    rw [h1,List.getElem?_set_self (Zb.mp h1).1]
   ·rw [List.getElem?_set_ne hj]
  rw [hs]at o;have nd:=S.nd;simp only [ZI,Zr]at nd;obtain ⟨n1,⟨n2,n3,n4⟩,n5⟩:=nd;have sub:∀a∈g1++([]++g2),a∈g1++(f++g2)/\a∉f:=λa m=>by
   simp only [List.nil_append,Zr]at m ⊢;rcases m with m | m
   ·exact ⟨.inl m,λz=>n5 a m a (.inl z) rfl⟩
   ·exact ⟨.inr (.inr m),λz=>n4 a z a m rfl⟩
  have st:Stp F H (g1++(f++g2)) (kY F H f) H (g1++([]++g2)):=⟨ji ff,λ_ _ h _=>h,λa m=>.inl (sub a m).1,λa h m z=>by
   rw [iW λw=>m (Zp _ (Zv _ w))]
   exact z⟩
  refine ⟨kY F H f,_,_,⟨rM S.same,o,?_,λa m=>?_,by rw [ZH];exact S.len⟩,PostS.stp st p⟩
  ·simp only [List.nil_append,ZI]
   exact ⟨n1,n3,λa ha b hb=>n5 a ha b (.inr hb)⟩
  ·rw [iW (sub a m).2]
   exact S.fr a (sub a m).1
 ·exact ⟨F,ρ,fp,S,p⟩
end
noncomputable def Walks (K:PySem.W.Frag) (F:Hp) (J:It) (ds:List PyData):Prop:=∀i G H,aS F G->aS G H ->
 (∀d,ds[i]?=some d->J.go i H/\∀x H',J.yld i H x H'->∃G',Ext G H G' H'/\Rep K G' x d)/\(ds.length<=i->J.stop i H)
noncomputable def OkI (K:PySem.W.Frag) (F H:Hp) (R:It->Hp->Prop) (ds:List PyData):Prop:=∀J F' H',Ext F H F' H'->Walks K F' J ds->R J H'
noncomputable def tI (M:Mx) (n:Nat) (f:Fi):TI:=fun σ H R=>∃F ρ fp,Stt M.K n F H σ ρ fp/\aM M H fp (OkI M.K F H R) (f ρ)
section
variable {M:Mx} {n:Nat} {F H:Hp} {σ:St} {D:Ends} {R':It->Hp->Prop}
theorem zu {a:Fe} (h:tI M n (pI a) σ H R'):x5 M.K (tD M n a) σ H R':=by
 obtain ⟨F,ρ,fp,S,p⟩:=h;refine ⟨F,ρ,fp,S,(aM.bind p).mono λx px v F1 H1 fx e1 r1 w1=>?_⟩
 obtain ⟨G1,d1,k1⟩:=r1.frz e1 w1;generalize x.er=d at px k1
 cases k1 with
 |@lst a vs ds h1 h2 =>
  refine ⟨a,rfl,⟨vs,(h1.same d1.fh).sq⟩,px _ G1 H1 d1 λi G H' s1 s2=>?_⟩
  have hq:=(h1.same (s1.trans s2)).sq;refine ⟨λd hd=>?_,λhl=>⟨vs,hq,by rw [RepAll.len h2];exact hl⟩⟩
  obtain ⟨u,hu,ru⟩:=RepAll.get h2 hd;refine ⟨⟨vs,u,hq,hu⟩,λx H2 y=>?_⟩
  obtain ⟨rfl,y⟩:=y;have hx:=y vs hq;rw [hu]at hx;cases hx;exact ⟨G,Ext.refl s2,ru.same s1⟩
 |non=>exact px.elim
 |bl _=>exact px.elim
 |int _=>exact px.elim
 |str _=>exact px.elim
 |dct _ _ _=>exact px.elim
 |tup _ _=>exact px.elim
theorem lE {K:PySem.W.Frag} (lo:Int) (k:Nat):Walks K F (Itr lo k) (jt lo k):=by
 intro i G H s1 s2;unfold jt;refine ⟨λd hd=>?_,λhl=>(show k<=i by simpa using hl)⟩
 rw [Za]at hd;obtain ⟨j,hj,rfl⟩:=Zo.mp hd;obtain ⟨h1,h2⟩:=Zb.mp hj;have h3:i=j:=by simpa using h2
 subst h3;refine ⟨(show i<k by simpa using h1),λx H' y=>?_⟩
 obtain ⟨rfl,rfl⟩:=y;exact ⟨G,Ext.refl s2,.int _⟩
theorem fY {i:Int}:bb i=true ↔ -(2 ^ 62)<=i/\i<2 ^ 62:=by
 unfold bb;rw [Zu,decide_eq_true_eq,decide_eq_true_eq]
theorem GP {a:Fe} (h:tI M n (iR1 a) σ H R'):x_ (tA M n (aj a aF)) σ H R':=by
 obtain ⟨F,ρ,fp,S,p⟩:=h;refine ⟨F,ρ,fp,S,?_⟩;have p1:=aM.bind p;show aM M H fp _ ((a ρ).bind λx=>R.ok [x])
 cases ha:a ρ with
 |bad=>rw [ha]at p1;exact p1
 |ex c=>rw [ha]at p1;exact p1
 |ok x =>
  rw [ha]at p1;intro vs F1 H1 fx e1 r1 w1;obtain ⟨G1,d1,k1⟩:=r1.frz e1 w1;cases k1 with
  |@cons v _ _ _ k1 k2 =>
   cases k2;have p2:aM M H fp (OkI M.K F H R') (match x.er with | .int j=>if bb j=true then .ok (jt 0 j.toNat) else .bad | _=>.bad):=p1
   generalize x.er=d at p2 k1
   cases k1 with
   |int j =>
    by_cases hs:bb j=true
    ·have hs':=fY.mp hs
     have p3:aM M H fp (OkI M.K F H R') (if bb j=true then .ok (jt 0 j.toNat) else .bad):=p2
     rw [if_pos hs]at p3;exact ⟨j,rfl,hs'.1,hs'.2,p3 _ G1 H1 d1 (lE _ _)⟩
    ·have p3:aM M H fp (OkI M.K F H R') (if bb j=true then .ok (jt 0 j.toNat) else .bad):=p2
     rw [if_neg hs]at p3;exact p3.elim
   |non=>exact p2.elim
   |bl _=>exact p2.elim
   |str _=>exact p2.elim
   |dct _ _ _=>exact p2.elim
   |lst _ _=>exact p2.elim
   |tup _ _=>exact p2.elim
theorem uX {a b:Fe} {g:PyData->PyData->R (List PyData)} {ρ:Env} {fp:List Addr} {QL:List V->Hp->Prop}
  (p:aM M H fp (OkI M.K F H R') ((a ρ).bind λx=>(b ρ).bind λy=>g x.er y.er))
  (k:∀v w dx dy G H1,Ext F H G H1->Rep M.K G v dx->Rep M.K G w dy->aM M H fp (OkI M.K F H R') (g dx dy)->QL [v,w] H1) :
  aM M H fp (OkL M F H QL) (aj a (aj b aF) ρ):=by
 show aM M H fp _ ((a ρ).bind λx=>((b ρ).bind λy=>R.ok [y]).bind λxs=>R.ok (x :: xs))
 have p1:=aM.bind p;cases ha:a ρ with
 |bad=>rw [ha]at p1;exact p1
 |ex c=>rw [ha]at p1;exact p1
 |ok x =>
  rw [ha]at p1;have p2:aM M H fp _ (b ρ):=aM.bind p1;show aM M H fp _ (((b ρ).bind λy=>R.ok [y]).bind λxs=>R.ok (x :: xs))
  cases hb:b ρ with
  |bad=>rw [hb]at p2;exact p2
  |ex c=>rw [hb]at p2;exact p2
  |ok y =>
   rw [hb]at p2;intro vs F1 H1 fx e1 r1 w1;obtain ⟨G1,d1,k1⟩:=r1.frz e1 w1;cases k1 with
   |@cons v _ _ _ k1 k2 =>
    cases k2 with
    |@cons w _ _ _ k2 k3 =>
     cases k3;exact k v w x.er y.er G1 H1 d1 k1 k2 p2
noncomputable def r2F (x y:PyData):R (List PyData):=match x,y with
 |.int i,.int j=>if (bb i && bb j)=true then .ok (jt i (j-i).toNat) else .bad
 |_,_=>.bad
theorem F6 {a b:Fe} (h:tI M n (iR2 a b) σ H R'):yG (tA M n (aj a (aj b aF))) σ H R':=by
 obtain ⟨F,ρ,fp,S,p⟩:=h;refine ⟨F,ρ,fp,S,uX (g:=r2F) (by unfold iR2 at p;exact p) λv w dx dy G H1 e rv rw' q=>?_⟩
 unfold r2F at q;split at q
 ·rename_i i j
  cases rv;cases rw';by_cases hs:(bb i && bb j)=true
  ·rw [if_pos hs]at q
   rw [Zu]at hs;have h1:=fY.mp hs.1;have h2:=fY.mp hs.2;exact ⟨i,j,rfl,⟨h1.1,h1.2,h2.1,h2.2⟩,q _ G H1 e (lE _ _)⟩
  ·rw [if_neg hs]at q
   exact q.elim
 ·exact q.elim
theorem mT {ds:List PyData} {i:Nat} {d:PyData} (h:(jz ds)[i]?=some d):∃e,ds[i]?=some e/\d=.tuple [.int i,e]:=by
 unfold jz at h;rw [Za]at h;obtain ⟨p,hp,rfl⟩:=Zo.mp h;rw [List.getElem?_zipIdx]at hp;obtain ⟨e,he,rfl⟩:=Zo.mp hp;exact ⟨e,he,by simp⟩
theorem BP {a:Fe} (h:tI M n (iEn a) σ H R'):yc M.K (tA M n (aj a aF)) σ H R':=by
 obtain ⟨F,ρ,fp,S,p⟩:=h;refine ⟨F,ρ,fp,S,?_⟩;have p1:=aM.bind p;show aM M H fp _ ((a ρ).bind λx=>R.ok [x])
 cases ha:a ρ with
 |bad=>rw [ha]at p1;exact p1
 |ex c=>rw [ha]at p1;exact p1
 |ok x =>
  rw [ha]at p1;intro vs F1 H1 fx e1 r1 w1;obtain ⟨G1,d1,k1⟩:=r1.frz e1 w1;cases k1 with
  |@cons v _ _ _ k1 k2 =>
   cases k2;have p2:aM M H fp (OkI M.K F H R') (match x.er with | .list ds=>.ok (jz ds) | _=>.bad):=p1
   generalize x.er=d at p2 k1
   cases k1 with
   |@lst a vs ds h1 h2 =>
    have p3:OkI M.K F H R' (jz ds):=p2;refine ⟨a,rfl,⟨vs,(h1.same d1.fh).sq⟩,p3 _ G1 H1 d1 λi G H' s1 s2=>?_⟩
    have hq:=(h1.same (s1.trans s2)).sq;refine ⟨λd hd=>?_,λhl=>⟨vs,hq,by rw [RepAll.len h2];unfold jz at hl;simpa using hl⟩⟩
    obtain ⟨e,he,rfl⟩:=mT hd;obtain ⟨u,hu,ru⟩:=RepAll.get h2 he;refine ⟨⟨vs,u,hq,hu⟩,λx H2 y=>?_⟩
    obtain ⟨T,z,hT,rfl,rfl,hz⟩:=y;have hx:=hz vs hq;rw [hu]at hx;cases hx;exact ⟨upd G T _,Ext.allocF s2 hT,.tup bU (.cons (.int _) (.cons ((ru.same s1).same ((aS.refl G).upd (s2.free hT))) .nil))⟩
   |int j=>exact p2.elim
   |non=>exact p2.elim
   |bl _=>exact p2.elim
   |str _=>exact p2.elim
   |dct _ _ _=>exact p2.elim
   |tup _ _=>exact p2.elim
noncomputable def DH (x y:PyData):R (List PyData):=match x,y with
 |.list ds,.list es=>.ok (yP ds es)
 |_,_=>.bad
theorem DK {it:Fi} {is:List Nat} {g:Fg} {b:Fs} (h:tS M n (jM it g b) D σ H):Dc (tI M n it) (tG M n is g) (tS M n b) D σ H:=by
 obtain ⟨F,ρ,fp,S,p⟩:=h;refine ⟨F,ρ,fp,S,(aM.bind p).mono λds pd J F1 H1 e1 wk=>?_⟩
 refine ⟨λi m σ' H'=>m=ds.length-i/\i<=ds.length/\∃F' ρ' fp',Stt M.K n F' H' σ' ρ' fp'/\aS F1 F'/\aM M H' fp' (iu M n F' H' fp' D) (bG g b (ds.drop i) ρ'),⟨ds.length,by simp,Nat.zero_le _,F1,ρ,fp,S.ext e1,aS.refl _,PostS.stp e1.stp pd⟩,?_⟩
 rintro i m σ' H' ⟨rfl,hi,F',ρ',fp',S',s',p'⟩;obtain ⟨w1,w2⟩:=wk i F' H' s' S'.same;by_cases hlt:i<ds.length
 ·obtain ⟨d,hd⟩:∃d,ds[i]?=some d:=⟨ds[i],by simp [hlt]⟩
  obtain ⟨g1,g2⟩:=w1 d hd;have e:ds.drop i=d :: ds.drop (i+1):=by
   rw [List.drop_eq_getElem_cons hlt];congr 1
   have:=(Zb.mp hd).2;exact this
  rw [e]at p';refine .inr ⟨g1,fun σ2 H2=>∃F2 ρ2 fp2,Stt M.K n F2 H2 σ2 ρ2 fp2/\aS F1 F2/\aM M H2 fp2 (iu M n F2 H2 fp2 D) (bG g b (ds.drop (i+1)) ρ2),fun σ2 H2 q=>⟨ds.length-(i+1),by lia,rfl,hlt,q⟩,λx H2 y=>?_⟩
  obtain ⟨G2,e2,rx⟩:=g2 x H2 y;have p2:aM M H' fp' _ ((g (.sh d) ρ').bind fun ρ1=>(b ρ1).bind λo=>match o with
   |.nx ρ2=>bG g b (ds.drop (i+1)) ρ2
   |.ct ρ2=>bG g b (ds.drop (i+1)) ρ2
   |.bk ρ2=>.ok (.nx ρ2)
   |.rt x=>.ok (.rt x)):=p'
  have st:Stp F' H' fp' G2 H2 (fp'++[]):=by
   rw [Zw];exact e2.stp
  refine ⟨G2,ρ',fp',.sh d,[],S'.ext e2,Res.sh rx,(λ_ m=>by cases m),((aM.bind p2).stp st).mono fun ρ1 p1 σ3 F3 H3 fp3 S3 s3 _=>?_⟩
  have s4:=st.trans s3;refine ⟨F3,ρ1,fp3,S3,((aM.bind p1).stp s4).mono λo po=>?_⟩
  cases o with
  |nx ρ2=>exact fun σ5 F5 H5 fp5 S5 s5=>⟨F5,ρ2,fp5,S5,(s'.trans s4.ff).trans s5.ff,PostS.stp (s4.trans s5) po⟩
  |ct ρ2=>exact fun σ5 F5 H5 fp5 S5 s5=>⟨F5,ρ2,fp5,S5,(s'.trans s4.ff).trans s5.ff,PostS.stp (s4.trans s5) po⟩
  |bk ρ2=>exact fun σ5 F5 H5 fp5 S5 s5=>po σ5 F5 H5 fp5 S5 (s4.trans s5)
  |rt x=>exact λv F5 H5 fx a r s5=>po v F5 H5 fx a r (s4.trans s5)
 ·have e:i=ds.length:=by lia
  subst e;refine .inl ⟨w2 (Zm _),?_⟩;rw [List.drop_length]at p';exact p' σ' F' H' fp' S' Stp.refl
theorem xA {t:Ft} {b:Fs} (h:tS M n (cM t b) D σ H):ql (tT M n t) (tS M n b) D σ H:=by
 obtain ⟨F,ρ,fp,S,p⟩:=h;unfold cM at p;split at p
 ·rename_i hn
  refine ⟨λm σ' H'=>∃F' ρ' fp',Stt M.K n F' H' σ' ρ' fp'/\aM M H' fp' (iu M n F' H' fp' D) (bw t b m ρ'),⟨_,F,ρ,fp,S,p⟩,?_⟩
  rintro m σ' H' ⟨F',ρ',fp',S',p'⟩;cases m with
  |zero=>exact p'.elim
  |succ m =>
   have p2:aM M H' fp' _ ((t ρ').bind λc=>if c=true then (b ρ').bind λo=>match o with
    |.nx ρ2=>bw t b m ρ2
    |.ct ρ2=>bw t b m ρ2
    |.bk ρ2=>.ok (.nx ρ2)
    |.rt x=>.ok (.rt x) else .ok (.nx ρ')):=p'
   refine ⟨F',ρ',fp',S',(aM.bind p2).mono λc pc F1 H1 e1=>?_⟩
   cases c with
   |true =>
    rw [if_pos rfl]at pc ⊢;refine ⟨fun σ2 H2=>∃F2 ρ2 fp2,Stt M.K n F2 H2 σ2 ρ2 fp2/\aM M H2 fp2 (iu M n F2 H2 fp2 D) (bw t b m ρ2),fun σ2 H2 q=>⟨m,Nat.lt_succ_self _,q⟩,F1,ρ',fp',S'.ext e1,((aM.bind pc).ext e1).mono λo po=>?_⟩
    cases o with
    |nx ρ2=>exact fun σ5 F5 H5 fp5 S5 s5=>⟨F5,ρ2,fp5,S5,PostS.stp (e1.stp.trans s5) po⟩
    |ct ρ2=>exact fun σ5 F5 H5 fp5 S5 s5=>⟨F5,ρ2,fp5,S5,PostS.stp (e1.stp.trans s5) po⟩
    |bk ρ2=>exact fun σ5 F5 H5 fp5 S5 s5=>po σ5 F5 H5 fp5 S5 (e1.stp.trans s5)
    |rt x=>exact λv F5 H5 fx a r s5=>po v F5 H5 fx a r (e1.stp.trans s5)
   |false =>
    rw [if_neg Zl]at pc ⊢;exact pc σ' F1 H1 fp' (S'.ext e1) e1.stp
 ·exact p.elim
end
section
variable {M:Mx} {n:Nat} {F H F1 H1:Hp} {σ:St} {ρ:Env} {fp:List Addr} {D:Ends} {K:PySem.W.Frag}
theorem OwnS.nones {K:PySem.W.Frag}:∀(k:Nat) {σ:St} {ρ:Env} {g:List Addr},OwnS K F H σ ρ g->OwnS K F H (List.replicate k none++σ) (List.replicate k none++ρ) g
 |0,_,_,_,h=>h
 |k+1,_,_,_,h=>by
  rw [List.replicate_succ,List.replicate_succ];exact .no (OwnS.nones k h)
theorem OwnS.one (S:OwnS K F H σ ρ fp) (i:Nat):∃f,(∀a∈f,a∈fp)/\(fp.Nodup->f.Nodup)/\∀{σ':St} {ρ':Env} {g:List Addr},OwnS K F H σ' ρ' g->OwnS K F H ((σ[i]?).join :: σ') ((ρ[i]?).join :: ρ') (f++g):=by
 cases e:ρ[i]? with
 |none=>exact ⟨[],(λ_ m=>by cases m),λ_=>List.nodup_nil,λh=>.no h⟩
 |some o =>
  cases o with
  |none=>exact ⟨[],(λ_ m=>by cases m),λ_=>List.nodup_nil,λh=>.no h⟩
  |some x =>
   obtain ⟨v,f,g1,g2,h1,h2,rfl,h4⟩:=S.at e;refine ⟨f,λa m=>Zp _ (Zv _ m),λnd=>?_,λh=>?_⟩
   ·simp only [ZI]at nd
    exact nd.2.1.1
   ·rw [h1]
    exact .yes h2 h
noncomputable def shE (ρ:Env):Env:=ρ.map λo=>match o with
 |some (.sh d)=>some (.sh d)
 |_=>none
theorem OwnS.shE {σ:St} {ρ:Env} {g:List Addr} (S:OwnS K F H σ ρ g):OwnS K F H σ (L3.shE ρ) []:=by
 induction S with
 |nil=>exact .nil
 |no r ih=>exact .no ih
 |yes h r ih =>
  cases h with
  |sh h=>exact .yes (f:=[]) (.sh h) ih
  |ol _ _=>exact .no ih
  |ot _ _=>exact .no ih
  |od _ _ _=>exact .no ih
theorem OwnS.pick3:∀(is:List Nat) {σ:St} {ρ:Env},OwnS K F H σ ρ []->OwnS K F H (is.map λi=>(σ[i]?).join) (is.map λi=>(ρ[i]?).join) []
 |[],_,_,_=>.nil
 |i :: is,_,_,S=>by
  obtain ⟨f,h1,_,h3⟩:=S.one i;have hf:f=[]:=by
   cases f with
   |nil=>rfl
   |cons a f=>exact absurd (h1 a Zf) (by simp)
  subst hf;exact h3 (OwnS.pick3 is S)
theorem pY:∀(k:Nat) {σ0 σ2:St},σ2.length=k+σ0.length->(∀j,k<=j->σ2[j]?=(List.replicate k none++σ0)[j]?)->gZ (List.replicate k none++σ0) σ2
 |0,σ0,σ2,hl,h=>by
  have e:σ2=σ0:=List.ext_getElem? λj=>by simpa using h j (Nat.zero_le _)
  subst e;show gZ σ2 σ2
  clear h hl
  induction σ2 with
  |nil=>trivial
  |cons x r ih =>
   cases x with
   |none=>exact ih
   |some v=>exact ⟨rfl,ih⟩
 |k+1,σ0,[],hl,h=>by simp at hl;lia
 |k+1,σ0,x :: σ2,hl,h=>by
  rw [List.replicate_succ];refine pY k (by simp at hl;lia) λj hj=>?_
  have:=h (j+1) (by lia)
  simpa [List.replicate_succ]using this
theorem qK (ρ:Env):∀(is:List Nat),(is.map λi=>((shE ρ)[i]?).join)=is.map λi=>kL ρ[i]?
 |[]=>rfl
 |i :: is=>by
  rw [Zj,Zj,qK ρ is];congr 1
  unfold shE;rw [Za];cases ρ[i]? with
  |none=>rfl
  |some o =>
   cases o with
   |none=>rfl
   |some x=>cases x <;> rfl
theorem Stt.block (S:Stt K n F H σ ρ fp) (k:Nat) (outs:List (Nat×Str)):Stt K (k+outs.length) F H (slots k outs σ) (sl3 k (outs.map (·.1)) ρ) []:=by
 refine ⟨S.same,?_,List.nodup_nil,(λ_ m=>by cases m),by unfold sl3;simp⟩
 have h:=OwnS.nones k (OwnS.pick3 (outs.map (·.1)) S.own.shE);rw [qK,Zi]at h;exact h
theorem nY {α:Type} {r:R α} {P:α->Prop} {β:Type} {g:α->R β} {PP:β->Prop} (p:aM M H fp PP ((nT r).bind g)):∃a,r=.ok a/\aM M H fp PP (g a):=by
 cases r with
 |ok a=>exact ⟨a,rfl,p⟩
 |ex c=>exact p.elim
 |bad=>exact p.elim
theorem vQ {it:Fi} {g:Fg} {t:Ft} {el:Fe} {k:Nat} {is:List Nat} {outs:List (Nat×Str)} {Q:VK} (hk:∀j∈is,j<k) (h:tD M n (gc it g t el k (outs.map (·.1))) σ H Q) :
  vF (tI M n it) (tG M (k+outs.length) is g) (tT M (k+outs.length) t) (tD M (k+outs.length) el) k outs σ H Q:=by
 obtain ⟨F,ρ,fp,S,p⟩:=h;refine ⟨F,ρ,fp,S,(aM.bind p).mono λds pd J F1 H1 e1 wk D hD=>?_⟩
 have SB:=(S.ext e1).block k outs;have fD:F1 D=none:=e1.fh.free hD;refine ⟨λi m acc H'=>m=ds.length-i/\i<=ds.length/\∃F' xs fx,H' D=some (.lst acc)/\F' D=none/\Ext F1 H1 F' H'/\ResL M.K F' H' acc xs fx/\(∀a∈fx,H1 a=none/\a≠D) /\
  aM M H fp (OkE M F H Q) ((e8 g t el (sl3 k (outs.map (·.1)) ρ) (ds.drop i) xs).bind λxs=>.ok (.ol xs)),⟨ds.length,by simp,Nat.zero_le _,F1,[],[],bU,fD,Ext.alloc e1.fh hD,ResL.nil,(λ_ m=>by cases m),pd⟩,?_⟩
 rintro i m acc H' ⟨rfl,hi,F',xs,fx,hacc,fD',e',rx,wx,p'⟩;have S':=SB.ext e';obtain ⟨w1,w2⟩:=wk i F' H' e'.ff e'.fh;by_cases hlt:i<ds.length
 ·obtain ⟨d,hd⟩:∃d,ds[i]?=some d:=⟨ds[i],by simp [hlt]⟩
  obtain ⟨g1,g2⟩:=w1 d hd;have e:ds.drop i=d :: ds.drop (i+1):=by
   rw [List.drop_eq_getElem_cons hlt];congr 1
   exact (Zb.mp hd).2
  rw [e]at p';have p2:aM M H fp (OkE M F H Q) (((nT (g (.sh d) (sl3 k (outs.map (·.1)) ρ))).bind fun ρ1=>(nT (t ρ1)).bind λb=>if b=true then (nT (el ρ1)).bind λy=>if xs.length<BIG then e8 g t el (sl3 k (outs.map (·.1)) ρ) (ds.drop (i+1)) (xs++[y]) else .bad else e8 g t el (sl3 k (outs.map (·.1)) ρ) (ds.drop (i+1)) xs).bind λxs=>.ok (.ol xs)):=p'
  have assoc:∀{α β γ:Type} (r:R α) (f:α->R β) (h:β->R γ),(r.bind f).bind h=r.bind λa=>(f a).bind h:=λr f h=>by cases r <;> rfl
  rw [assoc]at p2;obtain ⟨ρ1,hρ1,p3⟩:=nY (P:=λ_=>True) p2
  rw [assoc]at p3;obtain ⟨b,hb,p4⟩:=nY (P:=λ_=>True) p3
  refine .inr ⟨g1,λacc' H2=>∃F2 xs2 fx2,H2 D=some (.lst acc')/\F2 D=none/\Ext F1 H1 F2 H2/\ResL M.K F2 H2 acc' xs2 fx2/\(∀a∈fx2,H1 a=none/\a≠D) /\
   aM M H fp (OkE M F H Q) ((e8 g t el (sl3 k (outs.map (·.1)) ρ) (ds.drop (i+1)) xs2).bind λxs=>.ok (.ol xs)),λacc' H2 q=>⟨ds.length-(i+1),by lia,rfl,hlt,q⟩,λx H2 y=>?_⟩
  obtain ⟨G2,e2,rx2⟩:=g2 x H2 y;refine ⟨G2,sl3 k (outs.map (·.1)) ρ,[],.sh d,[],S'.ext e2,Res.sh rx2,(λ_ m=>by cases m),?_⟩
  rw [hρ1];intro σ3 F3 H3 fp3 S3 s3 t3;have e3:Ext G2 H2 F3 H3:=⟨s3.ff,λa o q=>s3.keep a o q (by simp),S3.same,λa q z=>s3.nw a q (by simp) z⟩
  refine ⟨pY k (by rw [S3.own.len,S3.len];simp) λj hj=>t3 j λz=>by have:=hk j z;lia,F3,ρ1,fp3,S3,?_⟩
  rw [hb];intro F4 H4 e4;have e24:Ext F' H' F4 H4:=(e2.trans e3).trans e4;cases b with
  |true =>
   rw [if_pos rfl]at p4 ⊢;rw [assoc]at p4;obtain ⟨y,hy,p5⟩:=nY (P:=λ_=>True) p4
   refine ⟨F4,ρ1,fp3,S3.ext e4,?_⟩;rw [hy];intro v F5 H5 fy e5 r5 w5;by_cases hl:xs.length<BIG
   ·rw [if_pos hl]at p5
    have e25:=e24.trans e5;have hD5:H5 D=some (.lst acc):=e25.hh _ _ hacc;have fD5:F5 D=none:=e25.nw D (d7 hacc) fD';have yD:∀a∈fy,a≠D:=λa m=>by
     rintro rfl;have:=e24.hh _ _ hacc;rw [w5 _ m]at this;cases this
    have rx5:=rx.ext e25;refine ⟨hD5,by rw [rx.own.len];exact uF hl,F5,xs++[y],fx++fy,bU,fD5,⟨e'.ff.trans e25.ff,λa o q=>?_,λa o q=>?_,λa q z=>e25.nw a (e'.hh.dom q) (e'.nw a q z)⟩,⟨?_,?_,?_⟩,?_,p5⟩
    ·rw [aU (bj q hD)]
     exact e25.hh _ _ (e'.hh _ _ q)
    ·rw [aU (bj q fD5)]
     exact e5.fh _ _ q
    ·have q1:OwnL M.K F5 (upd H5 D (.lst (acc++[v]))) acc xs fx:=rx5.own.mono (aS.refl _) λa m o q=>by
      rw [aU (wx a m).2];exact q
     have q2:Own M.K F5 (upd H5 D (.lst (acc++[v]))) v y fy:=r5.own.mono (aS.refl _) λa m o q=>by
      rw [aU (yD a m)];exact q
     have q3:=OwnL.app q1 (OwnL.cons q2 .nil);rw [Zw]at q3;exact q3
    ·refine ZI.mpr ⟨rx.nd,r5.nd,λa m b m' z=>?_⟩
     subst z;obtain ⟨o,q⟩:=rx.own.dom a m;have:=e24.hh _ _ q;rw [w5 a m']at this;cases this
    ·intro a m
     rcases Zr.mp m with m | m
     ·exact rx5.fr a m
     ·exact r5.fr a m
    ·intro a m
     rcases Zr.mp m with m | m
     ·exact wx a m
     ·exact ⟨(e'.trans e24).hh.free (w5 a m),yD a m⟩
   ·rw [if_neg hl]at p5
    exact p5.elim
  |false =>
   rw [if_neg Zl]at p4 ⊢;exact ⟨F4,xs,fx,e24.hh _ _ hacc,e24.nw D (d7 hacc) fD',e'.trans e24,rx.ext e24,wx,p4⟩
 ·have e:i=ds.length:=by lia
  subst e;rw [List.drop_length]at p';have q:OkE M F H Q (.ol xs):=p';refine .inl ⟨w2 (Zm _),q (.ref D) F' H' (D :: fx) (e1.trans e') ⟨.ol hacc rx.own,List.nodup_cons.mpr ⟨λm=>(wx D m).2 rfl,rx.nd⟩,λa m=>?_⟩ λa m=>?_⟩
  ·rcases Zn.mp m with rfl | m
   ·exact fD'
   ·exact rx.fr a m
  ·rcases Zn.mp m with rfl | m
   ·exact e1.hh.free hD
   ·exact e1.hh.free (wx a m).1
end
section
variable {M:Mx} {n:Nat} {F H F1 H1:Hp} {σ:St} {ρ:Env} {fp:List Addr} {D:Ends} {K:PySem.W.Frag}
theorem qh {p f q f':List Addr} (h:(p++(f++q)).Nodup) (h':f'.Nodup) (s:∀c∈f',c∈f\/c∉p++(f++q)):(p++(f'++q)).Nodup:=by
 simp only [ZI,Zr]at h s ⊢;obtain ⟨n1,⟨n2,n3,n4⟩,n5⟩:=h;refine ⟨n1,⟨h',n3,λa ha b hb e=>?_⟩,λa ha b hb e=>?_⟩
 ·subst e
  rcases s a ha with z | z
  ·exact n4 a z a hb rfl
  ·exact z (.inr (.inr hb))
 ·subst e
  rcases hb with hb | hb
  ·rcases s a hb with z | z
   ·exact n5 a ha a (.inl z) rfl
   ·exact z (.inl ha)
  ·exact n5 a ha a (.inr hb) rfl
theorem uP {σ:St} {i:Nat} {v:V} (h1:σ[i]?=some (some v)):σ.set i (some v)=σ:=by
 apply List.ext_getElem?
 intro j;by_cases hj:i=j
 ·subst hj
  rw [h1,List.getElem?_set_self (Zb.mp h1).1]
 ·rw [List.getElem?_set_ne hj]
theorem Stt.write (S:Stt K n F H σ ρ fp) {i:Nat} {xs:List OD} (hx:ρ[i]?=some (some (.ol xs))) :
  ∃a vs f,σ[i]?=some (some (.ref a))/\H a=some (.lst vs)/\OwnL K F H vs xs f/\f.Nodup/\(∀b∈f,F b=none) /\
   ∀F1 H1 vs' xs' f',Ext F H F1 H1->OwnL K F1 H1 vs' xs' f'->f'.Nodup->(∀b∈f',b∈f\/H b=none)->(∀b∈f',F1 b=none) ->
    ∃fp',Stt K n F1 (upd H1 a (.lst vs')) σ (ρ.set i (some (.ol xs'))) fp'/\Stp F H fp F1 (upd H1 a (.lst vs')) fp'/\(∀b∈fp',b∈fp\/b∈f'):=by
 obtain ⟨v,f0,g1,g2,h1,h2,rfl,h4⟩:=S.own.at hx;cases h2 with
 |@ol a vs _ f ha hv =>
  have nd:=S.nd;have nd':=nd;simp only [ZI,Zr,List.cons_append,List.nodup_cons,Zn]at nd';obtain ⟨n1,⟨na,n2,n3,n4⟩,n5⟩:=nd';refine ⟨a,vs,f,h1,ha,hv,n2,λb m=>S.fr b (by simp [m]),λF1 H1 vs' xs' f' e o nf sub ff=>?_⟩
  have fa:F1 a=none:=e.nw a (d7 ha) (S.fr a (by simp))
  have hne:∀b∈f',b≠a:=λb m=>by
   rintro rfl;rcases sub b m with z | z
   ·exact na (.inl z)
   ·rw [ha]at z
    cases z
  have hs:∀c∈f',c∈f\/c∉(g1++[a])++(f++g2):=λc m=>by
   rcases sub c m with z | z
   ·exact .inl z
   ·refine .inr λw=>?_
    obtain ⟨o,q⟩:=S.own.dom c (by simp at w ⊢;exact w)
    rw [z]at q;cases q
  have nd2:=qh (p:=g1++[a]) (f:=f) (q:=g2) (f':=f') (by simpa using nd) nf hs
  have own:=h4 F1 (upd H1 a (.lst vs')) e.ff (λb m o q=>by
   have:b≠a:=by
    rintro rfl;rcases Zr.mp m with m | m
    ·exact n5 b m b (.inl rfl) rfl
    ·exact na (.inr m)
   rw [aU this];exact e.hh _ _ q) (.ref a) (.ol xs') (a :: f') (.ol bU (o.mono (aS.refl _) λb m o q=>by rw [aU (hne b m)];exact q))
  rw [uP h1]at own;have frs:∀b∈g1++(a :: f++g2),F1 b=none:=λb m=>let ⟨_,q⟩:=S.own.dom b m;e.nw b (d7 q) (S.fr b m)
  refine ⟨g1++(a :: f'++g2),⟨?_,own,by simpa using nd2,λb m=>?_,by rw [ZH];exact S.len⟩,⟨e.ff,λb o q m=>?_,λb m=>?_,λb q m z=>e.nw b q z⟩,λb m=>?_⟩
  ·intro b o q
   rw [aU (bj q fa)];exact e.fh _ _ q
  ·simp only [Zr,Zn]at m
   rcases m with m | (rfl | m) | m
   ·exact frs b (by simp [m])
   ·exact fa
   ·exact ff b m
   ·exact frs b (by simp [m])
  ·have:b≠a:=by
    rintro rfl;exact m (by simp)
   rw [aU this];exact e.hh _ _ q
  ·simp only [Zr,Zn]at m ⊢
   rcases m with m | (m | m) | m
   ·exact .inl (.inl m)
   ·exact .inl (.inr (.inl (.inl m)))
   ·rcases sub b m with z | z
    ·exact .inl (.inr (.inl (.inr z)))
    ·exact .inr z
   ·exact .inl (.inr (.inr m))
  ·simp only [Zr,Zn]at m ⊢
   rcases m with m | (m | m) | m <;> simp [m]
theorem OwnL.snoc {vs:List V} {xs:List OD} {f g:List Addr} {v:V} {y:OD} (h:OwnL K F H vs xs f) (o:Own K F H v y g):OwnL K F H (vs++[v]) (xs++[y]) (f++g):=by
 have:=OwnL.app h (OwnL.cons o .nil);rw [Zw]at this;exact this
theorem D_ {i:Nat} {a:Fe} (h:tS M n (ju i a) D σ H):mS (tBM M.K "list" qI (i8 i) (iM (tD M n a) qs)) D σ H:=by
 obtain ⟨F,ρ,fp,S,p⟩:=h;unfold ju at p;split at p
 ·rename_i xs e
  obtain ⟨l,vs,f,h1,h2,h3,nf,ff,wr⟩:=S.write e;refine ⟨_,h1,.inl ⟨rfl,vs,SqL.of h2⟩,F,ρ,fp,S,(aM.bind p).mono λy py v F1 H1 fy e1 r1 w1=>?_⟩
  by_cases hl:xs.length<BIG
  ·rw [if_pos hl]at py
   refine ⟨l,vs,v,rfl,rfl,e1.hh _ _ h2,by rw [h3.len];exact uF hl,?_⟩
   have o:OwnL M.K F1 H1 (vs++[v]) (xs++[y]) (f++fy):=(h3.mono e1.ff λb _ o q=>e1.hh _ _ q).snoc r1.own
   obtain ⟨fp',S',st,_⟩:=wr F1 H1 _ _ _ e1 o (ZI.mpr ⟨nf,r1.nd,λb m c m' z=>by
    subst z;obtain ⟨o,q⟩:=h3.dom b m;rw [w1 b m']at q;cases q⟩) (λb m=>(Zr.mp m).elim .inl λm=>.inr (w1 b m)) (λb m=>(Zr.mp m).elim (λm=>let ⟨_,q⟩:=h3.dom b m;e1.nw b (d7 q) (ff b m)) (r1.fr b))
   exact py σ F1 _ fp' S' st
  ·rw [if_neg hl]at py
   exact py.elim
 ·exact p.elim
theorem Cq {i:Nat} {g:PyData->PyData->R OD} {ti:TIp} {a:Fe} (hi:i<n) (hg:Ok2 M ti g) (h:tS M n (si i g a) D σ H):wB i (tD M n a) ti D σ H:=by
 obtain ⟨F,ρ,fp,S,p⟩:=h;unfold si at p;split at p
 ·rename_i d e
  obtain ⟨v,f,g1,g2,h1,h2,h3,h4⟩:=S.own.at e;cases h2 with
  |sh r =>
   refine ⟨v,h1,F,ρ,fp,S,(aM.bind p).mono λy py w F1 H1 fy e1 r1 w1=>?_⟩
   obtain ⟨G1,d1,k1⟩:=r1.frz e1 w1;refine hg v w d y.er G1 H1 fp _ d1.fh (r.same d1.ff) k1 ((aM.ext d1 (aM.bind py)).mono λz pz u F2 H2 fz e2 r2 w2=>?_)
   have e12:=d1.trans e2;obtain ⟨fp',S',sub⟩:=(S.ext e12).set hi r2 λb m q=>by
    obtain ⟨o,z⟩:=S.own.dom b q;rw [d1.hh.free (w2 b m)]at z;cases z
   exact pz _ F2 H2 fp' S' ⟨e12.ff,λb o q _=>e12.hh _ _ q,λb m=>(sub b m).elim .inl λm=>.inr (d1.hh.free (w2 b m)),λb q _ z=>e12.nw b q z⟩
 ·exact p.elim
end
end L3
namespace L3
open PySem L2 PySem.Spec PyProof.Rows
noncomputable def DE (M:Mx) (X:Cx) (e:Expr) (f:Fe):Prop:=X.K=M.K->X.mg=M.mg->PE X e (tD M X.N.length f)
noncomputable def DT (M:Mx) (X:Cx) (e:Expr) (f:Ft):Prop:=X.K=M.K->X.mg=M.mg->PT X e (tT M X.N.length f)
noncomputable def DW (M:Mx) (X:Cx) (e:Expr) (f:Ft):Prop:=X.K=M.K->X.mg=M.mg->PW X e (tT M X.N.length f)
noncomputable def DA (M:Mx) (X:Cx) (e:List Expr) (f:Fa):Prop:=X.K=M.K->X.mg=M.mg->PA X e (tA M X.N.length f)
noncomputable def DO (M:Mx) (X:Cx) (e:Option Expr) (f:Fo):Prop:=X.K=M.K->X.mg=M.mg->PO X e (tO M X.N.length f)
noncomputable def DI (M:Mx) (X:Cx) (tg e:Expr) (f:Fi):Prop:=X.K=M.K->X.mg=M.mg->PI X tg e (tI M X.N.length f)
noncomputable def DG (M:Mx) (X:Cx) (tg:Expr) (is:List Nat) (f:Fg):Prop:=X.K=M.K->X.mg=M.mg->PG X tg (tG M X.N.length is f)
noncomputable def DGs (M:Mx) (X:Cx) (tg:List Expr) (is:List Nat) (f:Fgs):Prop:=X.K=M.K->X.mg=M.mg->PGs X tg (tGs M X.N.length is f)
noncomputable def DF (M:Mx) (X:Cx) (e:List Expr) (f:Ft):Prop:=X.K=M.K->X.mg=M.mg->PF X e (tT M X.N.length f)
noncomputable def DS (M:Mx) (X:Cx) (st:Stmt) (f:Fs):Prop:=X.K=M.K->X.mg=M.mg->PS X st (tS M X.N.length f)
noncomputable def DSs (M:Mx) (X:Cx) (st:List Stmt) (f:Fs):Prop:=X.K=M.K->X.mg=M.mg->PSs X st (tS M X.N.length f)
section
variable {M:Mx} {X:Cx} {e a b c:Expr} {es:List Expr} {pos:Pos} {fa fb:Fe} {ta tb:Ft} {al:Fa}
theorem peI {t t':TE} (h:PE X e t) (k:∀σ H Q,t' σ H Q->t σ H Q):PE X e t':=λpins s σ H Q I q=>h pins s σ H Q I (k σ H Q q)
theorem ptI {t t':TT} (h:PT X e t) (k:∀σ H Q,t' σ H Q->t σ H Q):PT X e t':=λpins s σ H Q I q=>h pins s σ H Q I (k σ H Q q)
theorem pwI {t t':TT} (h:PW X e t) (k:∀σ H Q,t' σ H Q->t σ H Q):PW X e t':=λw pins s σ H Q I q=>h w pins s σ H Q I (k σ H Q q)
theorem paI {t t':TA} (h:PA X es t) (k:∀σ H Q,t' σ H Q->t σ H Q):PA X es t':=λps pins s σ H Q I q=>h ps pins s σ H Q I (k σ H Q q)
theorem poI {o:Option Expr} {t t':TO} (h:PO X o t) (k:∀σ H Q,t' σ H Q->t σ H Q):PO X o t':=λpins s σ H Q I q=>h pins s σ H Q I (k σ H Q q)
theorem psI {st:Stmt} {t t':TS} (h:PS X st t) (k:∀D σ H,t' D σ H->t D σ H):PS X st t':=λpins s σ H D I q=>h pins s σ H D I (k D σ H q)
theorem zC {st:List Stmt} {t t':TS} (h:PSs X st t) (k:∀D σ H,t' D σ H->t D σ H):PSs X st t':=λpins s σ H D I q=>h pins s σ H D I (k D σ H q)
theorem aa (i:Nat) {x:Str} (hN:X.N[i]?=some x:=by rfl) (hv:Vis X.env.scope x:=by first | exact Or.inl rfl | exact Or.inr (Or.inl rfl) | exact Or.inr (Or.inr rfl)) (hd:(x == ("__debug__" : Str))=false:=by decide)
  (hcd:(x == ("__classdict__" : Str))=false:=by decide):DE M X (.Name x pos) (af i):=λ_ _=>peI (eS hN hv hd hcd) λ_ _ _ h=>CD h
theorem ag {i:Int} {j}:DE M X (.Constant (.int i) j pos) (eC (.int i)):=λ_ _=>peI l8 λ_ _ _ h=>d_c (λ_ _=>.int i) h
theorem eW {i:Bool} {j}:DE M X (.Constant (.bool i) j pos) (eC (.bool i)):=λ_ _=>peI FO λ_ _ _ h=>d_c (λ_ _=>.bl i) h
theorem Bi {j}:DE M X (.Constant .none j pos) (eC .none):=λ_ _=>peI Bg λ_ _ _ h=>d_c (λ_ _=>.non) h
theorem aC {x:Str} {j}:DE M X (.Constant (.str x) j pos) (eC (.str x)):=λ_ _=>peI lM λ_ _ _ h=>d_c (λ_ _=>.str x) h
theorem dO {x:Str} {i:Int} (hg:Gl X x) (hm:∃t,X.mg x=some (.int i t)) (hd:(x == ("__debug__" : Str))=false:=by decide):DE M X (.Name x pos) (eC (.int i)):=λ_ _ =>
 let ⟨t,e⟩:=hm
 peI (lr (v:=.int i) hg e ⟨t,rfl⟩ hd) λ_ _ _ h=>d_c (λ_ _=>.int i) h
theorem ma {x:Str} {i:Str} (hg:Gl X x) (hm:∃t,X.mg x=some (.str i t)) (hd:(x == ("__debug__" : Str))=false:=by decide):DE M X (.Name x pos) (eC (.str i)):=λ_ _ =>
 let ⟨t,e⟩:=hm
 peI (lr (v:=.str i) hg e ⟨t,rfl⟩ hd) λ_ _ _ h=>d_c (λ_ _=>.str i) h
theorem bV (h:DE M X e fa):DE M X e (eSh fa):=λhK hM=>peI (h hK hM) λ_ _ _ q=>mK q
theorem iy (h:DE M X e fa):DE M X e (k7 fa):=λhK hM=>peI (h hK hM) λ_ _ _ q=>Et q
theorem Bw (h:DT M X e ta):DT M X e (wL ta):=λhK hM=>ptI (h hK hM) λ_ _ _ q=>BY q
theorem ar {op:Operator} {r:R2} {g:PyData->PyData->R OD} (ho:OpR X (binaryOp op) r) (hg:X.K=M.K->Ok2 M r g) (ha:DE M X a fa) (hb:DE M X b fb):DE M X (.BinOp a op b pos) (eOp g fa fb):=λhK hM =>
 peI (uj ho (ha hK hM) (hb hK hM)) λ_ _ _ q=>wZ (hg hK) q
theorem iw {op:UnaryOp} {r:V->Hp->VK->Prop} {g:PyData->R OD} (ho:UnR X (unaryOp op) r) (hg:X.K=M.K->Ok1 M r g) (ha:DE M X a fa):DE M X (.UnaryOp op a pos) (eUn g fa):=λhK hM =>
 peI (DL ho (ha hK hM)) λ_ _ _ q=>GB (hg hK) q
theorem hZ {op:CmpOp} {r:R2} {g:PyData->PyData->R OD} (ho:OpR X (compareOp op) r) (hg:X.K=M.K->Ok2 M r g) (ha:DE M X a fa) (hb:DE M X b fb) (hm:behindInMarks op b=false):DE M X (.Compare a [op] [b] pos) (eOp g fa fb):=λhK hM =>
 peI (wA ho (ha hK hM) (hb hK hM) hm) λ_ _ _ q=>wZ (hg hK) q
theorem az {op:CmpOp} {r:R2} {g:PyData->PyData->R OD} (ho:OpR X (compareOp op) r) (hg:X.K=M.K->Ok2 M r g) (ha:DE M X a fa) (hb:DE M X b fb) (hm:behindInMarks op b=false):DT M X (.Compare a [op] [b] pos) (aB (eOp g fa fb)):=λhK hM =>
 ptI (xu ho (ha hK hM) (hb hK hM) hm) fun σ H Q q=>by
  obtain ⟨F,ρ,fp,S,p⟩:=uB q;exact wZ (hg hK) ⟨F,ρ,fp,S,p⟩
theorem c8 (h:DE M X e fa) (he:∀whole,isTrue e X.env whole=(do let v <-whole;standAt e.pos;holding [v] (truthy v)):=by intro _;rfl):DT M X e (aB fa):=λhK hM=>ptI (qc (h hK hM) he) λ_ _ _ q=>d_b q
theorem dU (h:DT M X a ta):DT M X (.UnaryOp .Not a pos) (ej ta):=λhK hM=>ptI (vm (h hK hM)) λ_ _ _ q=>zL q
theorem jo (h:DT M X a ta):DW M X (.BoolOp .And [a] pos) ta:=λhK hM=>wH (h hK hM)
theorem eg (h:DT M X a ta):DW M X (.BoolOp .Or [a] pos) ta:=λhK hM=>uM (h hK hM)
theorem ku {rest:List Expr} (h:DT M X a ta) (k:DW M X (.BoolOp .And (b :: rest) pos) tb):DW M X (.BoolOp .And (a :: b :: rest) pos) (jC ta tb):=λhK hM=>pwI (Cc (h hK hM) (k hK hM)) λ_ _ _ q=>z_ q
theorem ey {rest:List Expr} (h:DT M X a ta) (k:DW M X (.BoolOp .Or (b :: rest) pos) tb):DW M X (.BoolOp .Or (a :: b :: rest) pos) (f_ ta tb):=λhK hM=>pwI (x4 (h hK hM) (k hK hM)) λ_ _ _ q=>Fy q
theorem gX (h:DW M X e ta):DT M X e ta:=λhK hM=>(h hK hM).pt
theorem oj {op} (h:DE M X a fa):DE M X (.BoolOp op [a] pos) fa:=λhK hM=>zo (h hK hM)
theorem n_ {rest:List Expr} (h:DE M X a fa) (k:DE M X (.BoolOp .And (b :: rest) pos) fb):DE M X (.BoolOp .And (a :: b :: rest) pos) (pT fa fb):=λhK hM=>peI (zj (h hK hM) (k hK hM)) λ_ _ _ q=>CM q
theorem C3 {rest:List Expr} (h:DE M X a fa) (k:DE M X (.BoolOp .Or (b :: rest) pos) fb):DE M X (.BoolOp .Or (a :: b :: rest) pos) (eOr fa fb):=λhK hM=>peI (Dm (h hK hM) (k hK hM)) λ_ _ _ q=>GD q
theorem AB (h:DE M X a fa):DE M X (.UnaryOp .Not a pos) (vH fa):=λhK hM=>peI (zT (h hK hM)) λ_ _ _ q=>DJ q
theorem CH (h:DT M X c ta) (ha:DE M X a fa) (hb:DE M X b fb):DE M X (.IfExp c a b pos) (eIf ta fa fb):=λhK hM=>peI (uA (h hK hM) (ha hK hM) (hb hK hM)) λ_ _ _ q=>F9 q
theorem ao:DA M X [] aF:=λ_ _=>paI c_ λ_ _ _ q=>AV q
theorem ae (h:DE M X e fa) (r:DA M X es al) (hs:starEach (e :: es) X.env=(false,eval e X.env) :: starEach es X.env:=by rfl):DA M X (e :: es) (aj fa al):=λhK hM=>paI (bc (h hK hM) (r hK hM) hs) λ_ _ _ q=>vX q
theorem gP {x1} (h:DA M X es al):DE M X (.Tuple es x1 pos) (j9 al):=λhK hM=>peI (mz (h hK hM)) λ_ _ _ q=>DX q
theorem cu (h:DA M X es al):DE M X (.List es pos) (fM al):=λhK hM=>peI (Ap (h hK hM)) λ_ _ _ q=>FJ q
theorem dH:DO M X none fX:=λ_ _=>poI xT λ_ _ _ q=>wo q
theorem a8 (h:DE M X e fa):DO M X (some e) (bM fa):=λhK hM=>poI (wz (h hK hM)) λ_ _ _ q=>w9 q
theorem dP {r:V->Option Int->Option Int->Hp->VK->Prop} {g:PyData->Option Int->Option Int->R OD} {lo hi:Option Expr} {fl fh:Fo} {p2:Pos} (hr:SlR X r) (hg:X.K=M.K->OkS M r g) (h:DE M X e fa) (hl:DO M X lo fl) (hh:DO M X hi fh) :
  DE M X (.Subscript e (.Slice lo hi none p2) pos) (eSl g fa fl fh):=λhK hM=>peI (uv hr (h hK hM) (hl hK hM) (hh hK hM)) λ_ _ _ q=>GG (hg hK) q
theorem aE {r:R2} {g:PyData->PyData->R OD} (hr:IxR X r) (hg:X.K=M.K->Ok2 M r g) (ha:DE M X a fa) (hb:DE M X b fb) (hs:rE b):DE M X (.Subscript a b pos) (eOp g fa fb):=λhK hM =>
 peI (Fl hr (ha hK hM) (hb hK hM) hs) λ_ _ _ q=>wZ (hg hK) q
theorem bh {id:String} {x:Str} {p:Pos} {r:List V->Hp->VK->Prop} {g:List PyData->R OD} (hc:dW X (.builtin id) r) (ho:X.K=M.K->OkC M r g) (hg:Gl X x) (hm:X.mg x=none) (hv:bootBuiltins x=some (.builtin id)) (ha:DA M X (e :: es) al)
  (hn:x ≠ "__name__" := by decide) (hdb:(x == ("__debug__" : Str))=false:=by decide) (he:starEach (e :: es) X.env=(false,eval e X.env) :: starEach es X.env:=by rfl) (hpl:(backTo pos (starEach es X.env)).any (·.1)=false:=by rfl) :
  DE M X (.Call (.Name x p) (e :: es) [] pos) (eB g al):=λhK hM=>peI (i6 hc hg hm hv (ha hK hM) hn hdb he hpl) λ_ _ _ q=>CV (ho hK) q
theorem gM {T:String} {x:Str} {p:Pos} {r:List V->Hp->VK->Prop} {g:List PyData->R OD} (hc:dW X (.type T) r) (ho:X.K=M.K->OkC M r g) (hg:Gl X x) (hm:X.mg x=none) (hv:bootBuiltins x=some (.type T)) (ha:DA M X (e :: es) al)
  (hn:x ≠ "__name__" := by decide) (hdb:(x == ("__debug__" : Str))=false:=by decide) (he:starEach (e :: es) X.env=(false,eval e X.env) :: starEach es X.env:=by rfl) (hpl:(backTo pos (starEach es X.env)).any (·.1)=false:=by rfl) :
  DE M X (.Call (.Name x p) (e :: es) [] pos) (eB g al):=λhK hM=>peI (kq hc hg hm hv (ha hK hM) hn hdb he hpl) λ_ _ _ q=>CV (ho hK) q
theorem aH {CX:CXT} {k:Nat} {f:Addr} {fd:FuncData} {ps:List Str} {x:Str} {p:Pos} {fn:Fn} (F:FnOk X.prog X.w M.K M.mg X.base CX k f fd ps (sp3 M.K M.mg fn)) (hr:Room k X.A) (hg:Gl X x) (hm:M.mg x=some (.ref f)) (hk:PySem.W.keepIn M.K (.ref f)=true)
  (hb:Binds M.K fd ps []) (hx:Passes CX X M.E) (ha:DA M X (e :: es) al)
  (hdb:(x == ("__debug__" : Str))=false:=by decide) (he:starEach (e :: es) X.env=(false,eval e X.env) :: starEach es X.env:=by rfl) (hpl:(backTo pos (starEach es X.env)).any (·.1)=false:=by rfl) :
  DE M X (.Call (.Name x p) (e :: es) [] pos) (aR fn al):=λhK hM=>by
 have F':FnOk X.prog X.w X.K X.mg X.base CX k f fd ps (sp3 M.K M.mg fn):=by
  rw [hK,hM];exact F
 exact peI (qJ F' hr hg (by rw [hM];exact hm) (by rw [hK];exact hk) (by rw [hK];exact hb) .nil hx (ha hK hM) hdb he hpl) λ_ _ _ q=>zQ q
theorem lg {tg:Expr} (h:DE M X e fa):DI M X tg e (pI fa):=λhK hM=>by
 have q:=xU (tg:=tg) (h hK hM);rw [hK]at q;exact λpins s σ H R' I z=>q pins s σ H R' I (zu z)
theorem vp {tg:Expr} {p:Pos} (hg:Gl X "range") (hm:X.mg "range" = none) (h:DE M X a fa) (hs1:starEach [a] X.env=(false,eval a X.env) :: starEach [] X.env:=by rfl) (hs:starEach [a] X.env=[(false,eval a X.env)]:=by rfl):DI M X tg (.Call (.Name "range" p) [a] [] pos) (iR1 fa):=λhK hM =>
 λpins s σ H R' I z=>sW hg hm ((ae h ao hs1) hK hM) hs pins s σ H R' I (GP z)
theorem j8 {tg:Expr} {p:Pos} (hg:Gl X "range") (hm:X.mg "range" = none) (h:DE M X a fa) (k:DE M X b fb) (hs1:starEach [a,b] X.env=(false,eval a X.env) :: starEach [b] X.env:=by rfl) (hs0:starEach [b] X.env=(false,eval b X.env) :: starEach [] X.env:=by rfl)
  (hs:starEach [a,b] X.env=[(false,eval a X.env),(false,eval b X.env)]:=by rfl) (hs2:starEach [b] X.env=[(false,eval b X.env)]:=by rfl):DI M X tg (.Call (.Name "range" p) [a,b] [] pos) (iR2 fa fb):=λhK hM =>
 λpins s σ H R' I z=>rZ hg hm ((ae h (ae k ao hs0) hs1) hK hM) hs hs2 pins s σ H R' I (F6 z)
theorem qV {ts:List Expr} {tk:Nat} {p tpos:Pos} (hg:Gl X "enumerate") (hm:X.mg "enumerate" = none) (h:DE M X a fa) (hs1:starEach [a] X.env=(false,eval a X.env) :: starEach [] X.env:=by rfl) (hs:starEach [a] X.env=[(false,eval a X.env)]:=by rfl) :
  DI M X (.Tuple ts tk tpos) (.Call (.Name "enumerate" p) [a] [] pos) (iEn fa):=λhK hM=>by
 have q:=wD (es:=ts) (k:=tk) (tpos:=tpos) (p:=p) (pos:=pos) hg hm ((ae h ao hs1) hK hM) hs;rw [hK]at q;exact λpins s σ H R' I z=>q pins s σ H R' I (BP z)
theorem kR {α:Type} {N:List α} {i:Nat} {x:α} (h:N[i]?=some x):i<N.length:=(Zb.mp h).1
theorem pgI {tg:Expr} {t t':TG} (h:PG X tg t) (k:∀v σ H Q,t' v σ H Q->t v σ H Q):PG X tg t':=λpins s σ H v u Q I r q=>h pins s σ H v u Q I r (k _ _ _ _ q)
theorem CQ {tg:List Expr} {t t':TGs} (h:PGs X tg t) (k:∀v σ H Q,t' v σ H Q->t v σ H Q):PGs X tg t':=λpins s σ H v u Q I r q=>h pins s σ H v u Q I r (k _ _ _ _ q)
theorem br {i:Nat} {x:Str} (hN:X.N.Nodup) (hi:X.N[i]?=some x) (hx:Loc X.env.scope x) (hf:X.fn x=true\/X.env.scope.names.lookup x=some .local:=by first | exact .inl rfl | exact .inr rfl | assumption):DG M X (.Name x pos) [i] (gNm i):=λ_ _ =>
 pgI (xg hN hi hx hf) λ_ _ _ _ q=>vx (kR hi) q
theorem ou:DGs M X [] [] nA:=λ_ _=>CQ wJ λ_ _ _ _ q=>DM q
theorem gN {is js:List Nat} {g:Fg} {gs:Fgs} (h:DG M X e is g) (k:DGs M X es js gs)
  (hs:(assignEach (e :: es) X.env).map (·.2)=assign e X.env :: (assignEach es X.env).map (·.2):=by rfl):DGs M X (e :: es) (is++js) (ic g gs):=λhK hM =>
 CQ (vh (h hK hM) (k hK hM) hs) λ_ _ _ _ q=>BH q
theorem qm {is:List Nat} {gs:Fgs} {k n:Nat} (hc:X.calm=true) (h:DGs M X es is gs) (hn:(assignEach es X.env).length=n:=by rfl) (hst:(assignEach es X.env).findIdx? (·.1)=none:=by rfl):DG M X (.Tuple es k pos) is (gTp n gs):=λhK hM=>by
 have q:=zZ (pos:=pos) (k:=k) hc (h hK hM) hn hst;rw [hK]at q;exact pgI q λ_ _ _ _ z=>FR z
variable {st:Stmt} {rest sa sb:List Stmt} {f g:Fs}
theorem aG:DSs M X [] sNx:=λ_ _=>zC qD λ_ _ _ q=>Ak q
theorem ah (h:DS M X st f) (k:DSs M X rest g):DSs M X (st :: rest) (aI f g):=λhK hM=>zC (j0 (h hK hM) (k hK hM)) λ_ _ _ q=>EM q
theorem ai (h:DS M X st f):DSs M X [st] f:=λhK hM=>jh (h hK hM)
theorem dI:DS M X st kH:=λ_ _=>psI u4 λ_ _ _ q=>FV q
theorem g_ (h:DE M X e fa) (hs:swapsWith e none pos.line X.env=pure false:=by rfl):DS M X (.Expr e pos) (i7 fa):=λhK hM=>psI (nS (h hK hM) hs) λ_ _ _ q=>AW q
theorem aL (h:DE M X e fa):DS M X (.Return (some e) pos) (ba fa):=λhK hM=>psI (kJ (h hK hM)) λ_ _ _ q=>Dd q
theorem lA (i:Nat) {x:Str} {p:Pos} (hN:X.N[i]?=some x:=by rfl) (hv:Vis X.env.scope x:=by first | exact Or.inl rfl | exact Or.inr (Or.inl rfl) | exact Or.inr (Or.inr rfl)) (hd:(x == ("__debug__" : Str))=false:=by decide)
  (hcd:(x == ("__classdict__" : Str))=false:=by decide):DS M X (.Return (some (.Name x p)) pos) (kl i):=λ_ _=>psI (kJ (eS hN hv hd hcd)) λ_ _ _ q=>AF q
theorem aQ (h:DT M X c ta) (ha:DSs M X sa f) (hb:DSs M X sb g):DS M X (.If c sa sb pos) (sIf ta f g):=λhK hM=>psI (xZ (h hK hM) (ha hK hM) (hb hK hM)) λ_ _ _ q=>GF q
theorem yR (i:Nat) (h:DS M X st f):DS M X st (uq i f):=λhK hM=>psI (h hK hM) λ_ _ _ q=>Ei q
theorem aJ {i:Nat} {x:Str} {p:Pos} (hN:X.N.Nodup) (hi:X.N[i]?=some x) (hx:Loc X.env.scope x) (h:DE M X e fa) (hs:swapsWith e (some (.Name x p)) pos.line X.env=pure false:=by rfl)
  (hf:X.fn x=true\/X.env.scope.names.lookup x=some .local:=by first | exact .inl rfl | exact .inr rfl | assumption):DS M X (.Assign [.Name x p] e pos) (aY i fa):=λhK hM =>
 psI (vG hN hi hx (h hK hM) hs hf) λ_ _ _ q=>x6 (kR hi) q
theorem AH {tg:Expr} {is:List Nat} {gg:Fg} (h:DE M X e fa) (hg:DG M X tg is gg) (hs:swapsWithSole [tg] e pos.line X.env=pure false:=by rfl) (hw:swappedStores [tg] e X.env=pure none:=by rfl) (h1:(assignEach [tg] X.env).map (·.2)=[assign tg X.env]:=by rfl):DS M X (.Assign [tg] e pos) (so fa gg):=λhK hM =>
 psI (zN (h hK hM) (hg hK hM) hs hw h1) λ_ _ _ q=>x8 q
theorem AA {i:Nat} {x:Str} {p:Pos} {op:Operator} {ti:TIp} {gd:PyData->PyData->R OD} (hN:X.N.Nodup) (hi:X.N[i]?=some x) (hx:Loc X.env.scope x) (h:DE M X e fa) (ho:PIp X op ti) (hg:X.K=M.K->Ok2 M ti gd)
  (hf:X.fn x=true\/X.env.scope.names.lookup x=some .local:=by first | exact .inl rfl | exact .inr rfl | assumption):DS M X (.AugAssign (.Name x p) op e pos) (si i gd fa):=λhK hM =>
 psI (ui hN hi hx (h hK hM) ho hf) λ_ _ _ q=>Cq (kR hi) (hg hK) q
theorem gS {tg iter:Expr} {it:Fi} {is:List Nat} {gg:Fg} {body:List Stmt} (hc:X.calm=true) (hp:PassesOwn (model X.prog X.w) X.A X.env X.xe) (hi:DI M X tg iter it) (hg:DG M X tg is gg) (hb:DSs M X body f) (hs:∀x,foldedSetIterable iter X.env x=pure x:=by intro _;rfl):DS M X (.For tg iter body [] pos) (jM it gg f):=λhK hM =>
 psI (Bv hp hc (hi hK hM) (hg hK hM) (hb hK hM) hs) λ_ _ _ q=>DK q
theorem ix {body:List Stmt} (hp:PassesOwn (model X.prog X.w) X.A X.env X.xe) (h:DT M X c ta) (hb:DSs M X body f):DS M X (.While c body [] pos) (cM ta f):=λhK hM =>
 psI (o8 hp (h hK hM) (hb hK hM)) λ_ _ _ q=>xA q
variable {x:Str} {p ap cp:Pos}
theorem G4 {o:Expr} {to:TE} {t:TA} {name:Str} {id:String} {r:V->List V->Hp->VK->Prop} (slot:Slot "list" name id) (hty:typeOf (.builtin id)=pure (.type "method_descriptor")) (hm:MtR X id r) (ho:PE X o to) (ha:PA X [e] t) (k:∀D σ H,tS M X.N.length f D σ H->mS (tBM M.K "list" r to t) D σ H)
  (hbase:attributeBase o name X.env (eval o X.env)=eval o X.env)
  (hfew:((backTo cp (starEach [e] X.env)).all (λx=>!x.1) && (backToKw cp (keywordEach [] X.env)).all (λx=>x.1.isSome) && decide (([e]:List Expr).length+([]:List Keyword).length+(if ([]:List Keyword).isEmpty then 0 else 1)<30))=true)
  (hline:(ap.endLine == cp.line)=true) (hs:starEach [e] X.env=(false,eval e X.env) :: starEach [] X.env) (hplain:(backTo cp (starEach [] X.env)).any (·.1)=false)
  (hsw:swapsWith (.Call (.Attribute o name ap) [e] [] cp) none pos.line X.env=pure false) (hK:X.K=M.K):PS X (.Expr (.Call (.Attribute o name ap) [e] [] cp) pos) (tS M X.N.length f):=by
 have q:=pX (apos:=ap) (cpos:=cp) PySem.F.plainAttrs_list slot hty hm ho ha hbase hfew hline hs hplain;rw [hK]at q;exact psI (nS q hsw) k
theorem GJ (h:DE M X e fa) (hs:starEach [e] X.env=(false,eval e X.env) :: starEach [] X.env) (hK:X.K=M.K) (hM:X.mg=M.mg):PA X [e] (iM (tD M X.N.length fa) qs):=bc (h hK hM) c_ hs
theorem h_ (i:Nat) (h:DE M X e fa) (hN:X.N[i]?=some x:=by rfl) (hv:Vis X.env.scope x:=by first | exact Or.inl rfl | exact Or.inr (Or.inl rfl) | exact Or.inr (Or.inr rfl)) (hd:(x == ("__debug__" : Str))=false:=by decide) (hcd:(x == ("__classdict__" : Str))=false:=by decide)
  (hbase:attributeBase (.Name x p) "append" X.env (eval (.Name x p) X.env)=eval (.Name x p) X.env:=by rfl)
  (hfew:((backTo cp (starEach [e] X.env)).all (λx=>!x.1) && (backToKw cp (keywordEach [] X.env)).all (λx=>x.1.isSome) && decide (([e]:List Expr).length+([]:List Keyword).length+(if ([]:List Keyword).isEmpty then 0 else 1)<30))=true:=by rfl)
  (hline:(ap.endLine == cp.line)=true:=by rfl) (hs:starEach [e] X.env=(false,eval e X.env) :: starEach [] X.env:=by rfl) (hplain:(backTo cp (starEach [] X.env)).any (·.1)=false:=by rfl)
  (hsw:swapsWith (.Call (.Attribute (.Name x p) "append" ap) [e] [] cp) none pos.line X.env=pure false:=by rfl):DS M X (.Expr (.Call (.Attribute (.Name x p) "append" ap) [e] [] cp) pos) (ju i fa):=λhK hM =>
 G4 PySem.F.slot_list_append PySem.F.type_list_append nG (eS hN hv hd hcd) (GJ h hs hK hM) (λ_ _ _ q=>D_ q) hbase hfew hline hs hplain hsw hK
variable {sc scope:Scope} {outs:List (Nat×Str)} {elt tg iter:Expr} {ifs:List Expr} {it:Fi} {gg:Fg} {is:List Nat} {el:Fe}
theorem BQ:DF M X [] o9:=λ_ _=>λpins s σ H Q I q=>Bz pins s σ H Q I (by
 obtain ⟨F,ρ,fp,S,p⟩:=q;exact p F H (Ext.refl S.same))
theorem iC (h:DT M X c ta):DF M X [c] ta:=λhK hM=>BF (h hK hM)
theorem ky (own:List Str) (s:Shared) (H:Hp) (C:Addr) (ex:List Addr) (pins:List (Addr×Obj)):(cxB X (own++outs.map (·.2)) scope s H C ex pins).N.length=own.length+outs.length:=by
 show (own++outs.map (·.2)).length=_
 rw [Zd,Zc]
theorem xR (own:List Str) (B:Blk X sc scope outs) (hcalm:X.calm=true) (hk:∀j∈is,j<own.length) (hi:DI M X tg iter it)
  (hg:∀s H C ex pins,DG M (cxB X (own++outs.map (·.2)) scope s H C ex pins) tg is gg) (hc:∀s H C ex pins,DF M (cxB X (own++outs.map (·.2)) scope s H C ex pins) ifs ta) (he:∀s H C ex pins,DE M (cxB X (own++outs.map (·.2)) scope s H C ex pins) elt el)
  (hs:∀x,foldedSetIterable iter X.env x=pure x:=by intro _;rfl):DE M X (.ListComp elt [⟨tg,iter,ifs,0⟩] scope pos) (gc it gg ta el own.length (outs.map (·.1))):=λhK hM =>
 peI (w_ (wi:=tI M X.N.length it) (g:=tG M (own.length+outs.length) is gg) (tc:=tT M (own.length+outs.length) ta) (te:=tD M (own.length+outs.length) el) own B hcalm (hi hK hM)
  (λs H C ex pins=>by have q:=hg s H C ex pins hK hM;rw [ky]at q;exact q) (λs H C ex pins=>by have q:=hc s H C ex pins hK hM;rw [ky]at q;exact q) (λs H C ex pins=>by have q:=he s H C ex pins hK hM;rw [ky]at q;exact q) hs) λ_ _ _ q=>vQ hk q
theorem gp {fe:Fe} {i:Nat} {spos:Pos} (own:List Str) (w:∀σ H Q,tD M X.N.length fe σ H Q->tD M X.N.length (gc it gg ta el own.length (outs.map (·.1))) σ H Q) (hN:X.N.Nodup) (hix:X.N[i]?=some x) (hx:Loc X.env.scope x) (B:Blk X sc scope outs) (hcalm:X.calm=true) (hk:∀j∈is,j<own.length) (hi:DI M X tg iter it)
  (hg:∀s H C ex pins,DG M (cxB X (own++outs.map (·.2)) scope s H C ex pins) tg is gg) (hc:∀s H C ex pins,DF M (cxB X (own++outs.map (·.2)) scope s H C ex pins) ifs ta) (he:∀s H C ex pins,DE M (cxB X (own++outs.map (·.2)) scope s H C ex pins) elt el)
  (hsw:swapsWith (.ListComp elt [⟨tg,iter,ifs,0⟩] scope pos) (some (.Name x p)) spos.line X.env=pure true:=by rfl)
  (hs:∀x,foldedSetIterable iter X.env x=pure x:=by intro _;rfl) (hf:X.fn x=true\/X.env.scope.names.lookup x=some .local:=by first | exact .inl rfl | exact .inr rfl | assumption) :
  DS M X (.Assign [.Name x p] (.ListComp elt [⟨tg,iter,ifs,0⟩] scope pos) spos) (aY i fe):=λhK hM =>
 psI (xB (wi:=tI M X.N.length it) (g:=tG M (own.length+outs.length) is gg) (tc:=tT M (own.length+outs.length) ta) (te:=tD M (own.length+outs.length) el) own hN hix hx B hcalm (hi hK hM)
  (λs H C ex pins=>by have q:=hg s H C ex pins hK hM;rw [ky]at q;exact q) (λs H C ex pins=>by have q:=hc s H C ex pins hK hM;rw [ky]at q;exact q) (λs H C ex pins=>by have q:=he s H C ex pins hK hM;rw [ky]at q;exact q) hsw hs hf) λD σ H q=>by
  have q':=x6 (kR hix) q;exact vQ hk (w _ _ _ q')
end
noncomputable def oI (i:Int):R OD:=.ok (.sh (.int i))
noncomputable def oB (b:Bool):R OD:=.ok (.sh (.bool b))
noncomputable def oD (d:PyData):R OD:=.ok (.sh d)
noncomputable def aO:PyData->PyData->R OD
 |.int i,.int j=>oI (i+j)
 |.str x,.str y=>if x.length+y.length<=BIG then oD (.str (x++y)) else .bad
 |.list xs,.list ys=>if xs.length+ys.length<=BIG then .ok (.ol ((xs++ys).map OD.sh)) else .bad
 |_,_=>.bad
noncomputable def g4:PyData->PyData->R OD
 |.int i,.int j=>oI (i-j)
 |_,_=>.bad
noncomputable def iR (i j:Int):Bool:=(decide (-(2 ^ 64)<i) && decide (i<2 ^ 64)) || (decide (-(2 ^ 64)<j) && decide (j<2 ^ 64))
noncomputable def jH:PyData->PyData->R OD
 |.int i,.int j=>if iR i j=true then oI (i * j) else .bad
 |.list xs,.int k=>if (decide (-(2 ^ 63)<=k) && decide (k<2 ^ 63) && decide (xs.length * k.toNat<=BIG))=true then .ok (.ol ((List.replicate k.toNat xs).flatten.map OD.sh)) else .bad
 |_,_=>.bad
noncomputable def dM:PyData->PyData->R OD
 |.int i,.int j=>if 0<j then oI (i % j) else .bad
 |_,_=>.bad
noncomputable def gG:PyData->PyData->R OD
 |.int i,.int j=>if 0<j/\j<1073741824 then oI (i / j) else .bad
 |_,_=>.bad
noncomputable def Gw:PyData->PyData->R OD
 |.int i,.int j=>if 0<=j/\j<=1000000/\i.natAbs<2 ^ 64 then oI (i ^ j.toNat) else .bad
 |_,_=>.bad
noncomputable def jv:PyData->R OD
 |.int i=>oI (-i)
 |_=>.bad
noncomputable def gLt:PyData->PyData->R OD
 |.int i,.int j=>oB (decide (i<j))
 |_,_=>.bad
noncomputable def gLe:PyData->PyData->R OD
 |.int i,.int j=>oB (decide (i<=j))
 |_,_=>.bad
noncomputable def gGt:PyData->PyData->R OD
 |.int i,.int j=>oB (decide (j<i))
 |_,_=>.bad
noncomputable def gGe:PyData->PyData->R OD
 |.int i,.int j=>oB (decide (j<=i))
 |_,_=>.bad
noncomputable def jK (x y:PyData):R Bool:=if (SeqAt.shaped x && SeqAt.shaped y)=true then .ok (PyData.eqv x y) else .bad
noncomputable def eqD:PyData->PyData->R Bool
 |.int i,.int j=>.ok (decide (i=j))
 |.str x,.str y=>.ok (decide (x=y))
 |.bool x,.bool y=>.ok (decide (x=y))
 |x,y=>jK x y
noncomputable def gEq (x y:PyData):R OD:=(eqD x y).bind λb=>oB b
noncomputable def gNe (x y:PyData):R OD:=(eqD x y).bind λb=>oB (!b)
noncomputable def jA (o:Option PyData):R OD:=match o with
 |some d=>oD d
 |none=>.bad
noncomputable def gIx:PyData->PyData->R OD
 |.list xs,.int i=>jA (atI xs i)
 |.tuple xs,.int i=>jA (atI xs i)
 |.str z,.int i=>if z.length<=BIG then jA ((atI z.cps.toList i).map λc=>.str ⟨#[c]⟩) else .bad
 |_,_=>.bad
noncomputable def cutD (xs:List PyData) (lo hi:Option Int):List PyData:=(xs.drop (HT.sIx xs.length 0 lo)).take (HT.sIx xs.length xs.length hi-HT.sIx xs.length 0 lo)
noncomputable def xC (x:PyData) (lo hi:Option Int):R OD:=match x with
 |.list xs=>.ok (.ol ((cutD xs lo hi).map OD.sh))
 |_=>.bad
noncomputable def cg:List PyData->R OD
 |[.list xs]=>oI xs.length
 |[.tuple xs]=>oI xs.length
 |[.str x]=>if x.length<=BIG then oI x.length else .bad
 |_=>.bad
noncomputable def pf:List PyData->R OD
 |[.int i,.int j]=>oI (if j<i then j else i)
 |_=>.bad
noncomputable def pJ:List PyData->R OD
 |[.int i,.int j]=>oI (if i<j then j else i)
 |_=>.bad
noncomputable def gC:List PyData->Option (List Int)
 |[]=>some []
 |.int i :: r=>(gC r).map (i :: ·)
 |_ :: _=>none
theorem kO:∀ns:List Int,gC (ns.map PyData.int)=some ns
 |[]=>rfl
 |n :: ns=>by rw [Zj,gC,kO ns];rfl
theorem lT:∀{ds:List PyData} {ns:List Int},gC ds=some ns->ds=ns.map PyData.int
 |[],ns,h=>by cases h;rfl
 |.int i :: r,ns,h=>by
  rw [gC]at h;obtain ⟨ms,h1,rfl⟩:=Zo.mp h;rw [lT h1];rfl
 |.none :: _,_,h=>by cases h
 |.bool _ :: _,_,h=>by cases h
 |.str _ :: _,_,h=>by cases h
 |.list _ :: _,_,h=>by cases h
 |.tuple _ :: _,_,h=>by cases h
 |.dict _ :: _,_,h=>by cases h
noncomputable def nM:Int->List Int->Int
 |m,[]=>m
 |m,n :: ns=>nM (if m<n then n else m) ns
noncomputable def nF:List PyData->R OD
 |[.list ds]=>match gC ds with
  |some (n :: ns)=>oI (nM n ns)
  |_=>.bad
 |_=>.bad
noncomputable def ke:List PyData->R OD
 |[.list ds]=>.ok (.ol (ds.map OD.sh))
 |[.tuple ds]=>.ok (.ol (ds.map OD.sh))
 |_=>.bad
noncomputable def sC:List PyData->R OD
 |[.int i]=>oI i
 |[.bool b]=>oI (if b then 1 else 0)
 |_=>.bad
noncomputable def uV (ds:List PyData) (y:PyData):R OD:=match y with
 |.int z=>match gC ds with
  |some ns=>if z∈ns then oI (ns.idxOf z:Nat) else .bad
  |none=>.bad
 |_=>.bad
noncomputable def yi:PyData->Option String
 |.int _=>some "int"
 |.bool _=>some "bool"
 |.str _=>some "str"
 |.list _=>some "list"
 |.tuple _=>some "tuple"
 |.none=>some "NoneType"
 |.dict _=>none
noncomputable def xj (T:String) (d:PyData):Option Bool:=match yi d with
 |some U=>if T = "int" \/ T = "bool" \/ T = "str" \/ T = "list" \/ T = "tuple" then some (decide (T=U\/(U = "bool" /\ T = "int"))) else none
 |none=>none
noncomputable def gy (T:String) (x:PyData):R OD:=match xj T x with
 |some b=>oB b
 |none=>.bad
section
variable {M:Mx} {X:Cx}
theorem okI {F H:Hp} {fp:List Addr} {Q:VK} {i:Int} (s:aS F H) (p:aM M H fp (OkE M F H Q) (oI i)):Q (.int i) H:=OkE.val s p (.int i)
theorem okB {F H:Hp} {fp:List Addr} {Q:VK} {i:Bool} (s:aS F H) (p:aM M H fp (OkE M F H Q) (oB i)):Q (.bl i) H:=OkE.val s p (.bl i)
noncomputable def xX (K:PySem.W.Frag):R2:=λx y H Q=>∃l b xs zs,x=.ref l/\y=.ref b/\RdK K H l xs/\RdK K H b zs/\xs.length+zs.length<=sizeLine/\∀p,H p=none->Q (.ref p) (upd H p (.lst (xs++zs)))
theorem v_:OpR X (binaryOp .Add) (xX X.K):=by
 intro pins s σ H x y v u Q I rx ry h;obtain ⟨l,b,xs,zs,rfl,rfl,hH,hB,hz,q⟩:=h;cases rx;cases ry;obtain ⟨z,its,n,r,hl,e⟩:=hH.obj I;obtain ⟨z2,its2,n2,r2,hl2,e2⟩:=hB.obj I;refine PySem.P.add_list e e2 ?_ (by rw [Zy,Zy];lia)
 have ea:its.toArray++its2.toArray=(its++its2).toArray:=by simp
 rw [ea];exact ⟨.ref _,_,I.lnew (t':=s.toks) (r.append r2) (by rw [Zd];lia),rfl,q _ I.fresh⟩
noncomputable def yo (K:PySem.W.Frag):R2:=λx y H Q=>rI0 (λi j=>.int (i+j)) x y H Q\/(∃i j,x=.str i/\y=.str j/\i.length+j.length<=sizeLine/\Q (.str (i++j)) H)\/xX K x y H Q
theorem au:OpR X (binaryOp .Add) (yo X.K):=uQ.or (qt.or v_)
theorem aA (hK:X.K=M.K):Ok2 M (yo X.K) aO:=by
 rw [hK];intro x y dx dy F H fp Q s rx ry p;unfold aO at p;split at p
 ·cases rx;cases ry
  exact .inl ⟨_,_,rfl,rfl,okI s p⟩
 ·cases rx;cases ry
  split at p
  ·rename_i hl
   exact .inr (.inl ⟨_,_,rfl,rfl,ia hl,OkE.val s p (.str _)⟩)
  ·exact p.elim
 ·split at p
  ·rename_i hl
   cases rx with
   |lst h1 h2 =>
    cases ry with
    |lst h3 h4=>exact .inr (.inr ⟨_,_,_,_,rfl,rfl,h1.same s,h3.same s,by rw [RepAll.len h2,RepAll.len h4];exact ia hl,λa ha=>OkE.lstD s p (RepAll.app h2 h4) ha⟩)
  ·exact p.elim
 ·exact p.elim
theorem gH:Ok2 M (rI0 λi j=>.int (i-j)) g4:=by
 intro x y dx dy F H fp Q s rx ry p;unfold g4 at p;split at p
 ·cases rx;cases ry
  exact ⟨_,_,rfl,rfl,okI s p⟩
 ·exact p.elim
theorem xb {i j:Int} (h:iR i j=true):uh i j:=by
 unfold iR at h;rw [Bool.or_eq_true,Zu,Zu,decide_eq_true_eq,decide_eq_true_eq,decide_eq_true_eq,decide_eq_true_eq]at h;exact h
noncomputable def yM (K:PySem.W.Frag):R2:=λx y H Q=>∃l k xs,x=.ref l/\y=.int k/\RdK K H l xs/\-(2 ^ 63)<=k/\k<2 ^ 63/\xs.length * k.toNat<=sizeLine /\
 ∀p,H p=none->Q (.ref p) (upd H p (.lst (List.replicate k.toNat xs).flatten))
theorem wK:OpR X (binaryOp .Mult) (yM X.K):=by
 intro pins s σ H x y v u Q I rx ry h;obtain ⟨l,k,xs,rfl,rfl,hH,h1,h2,hz,q⟩:=h;cases rx;obtain ⟨t,rfl⟩:=ry;obtain ⟨z,its,n,r,hl,e⟩:=hH.obj I;have hlen:its.toArray.size * k.toNat<=sizeLine:=by rw [Zy,<-hl];exact hz
 have hcap:¬its.toArray.size * k.toNat > (2 ^ 63-1) / 8:=by
  have:(sizeLine:Nat)<=(2 ^ 63-1) / 8:=by decide
  lia
 have hfit:¬(!Builtin.List.listFitsIndex k)=true:=by
  rw [fitsIndex_both h1 h2];exact Zl
 have hlong:¬Builtin.List.listTooLong (its.toArray.size * k.toNat)=true:=by
  rw [ub hlen];exact Zl
 have hnew:List.foldl (λx1 x2=>x1++x2) #[] (List.replicate (if its.toArray.isEmpty=true then 0 else k.toNat) its.toArray)=(List.replicate k.toNat its).flatten.toArray:=by
  have f0:∀m:Nat,List.foldl (λx1 x2=>x1++x2) #[] (List.replicate m its.toArray)=(List.replicate m its).flatten.toArray:=λm=>by
   have:=foldl_rep its m [];rw [List.nil_append]at this;exact this
  rw [f0];cases its with
  |nil=>simp
  |cons a r'=>rw [if_neg (by simp)]
 refine wpAny_binaryOp_repeat_ref (T := "list") (U := "int") (by decide) ⟨_,e,rfl⟩ (λs'=>typeIs_int s' k t) noFill_list_mul F.fills_int_mul F.slot_int_rmul repeat_list F.slot_int_index.lookup
  (call_meets F.slot_int_rmul (typeIs_int s k t) F.entry_int_rmul (F.args_int_rmul_2 _ _) (int___rmul___int_list k t l its.toArray n)
   ⟨e,rfl,⟨_,e,rfl⟩,call_meets F.slot_list_mul ⟨_,e,rfl⟩ F.entry_list_mul (F.args_list_mul_2 _ _) (AutoListH.list___mul___list_int_3 l its.toArray n k t hfit hcap hlong) ⟨e,?_⟩⟩)
 rw [hnew];exact ⟨.ref _,_,I.lnew (t':=s.toks) (r.rep k.toNat) (by rw [len_rep,Nat.mul_comm];exact hz),rfl,q _ I.fresh⟩
noncomputable def yw (K:PySem.W.Frag):R2:=λx y H Q=>rI uh (λi j=>.int (i * j)) x y H Q\/yM K x y H Q
theorem fS:OpR X (binaryOp .Mult) (yw X.K):=ur.or wK
theorem RepAll.rep {K:PySem.W.Frag} {F:Hp} {vs:List V} {ds:List PyData} (h:RepAll K F vs ds):∀k:Nat,RepAll K F (List.replicate k vs).flatten (List.replicate k ds).flatten
 |0=>.nil
 |k+1=>by
  rw [List.replicate_succ,List.replicate_succ,List.flatten_cons,List.flatten_cons];exact RepAll.app h (RepAll.rep h k)
theorem hV (hK:X.K=M.K):Ok2 M (yw X.K) jH:=by
 rw [hK];intro x y dx dy F H fp Q s rx ry p;unfold jH at p;split at p
 ·cases rx;cases ry
  split at p
  ·rename_i hc
   exact .inl ⟨_,_,rfl,rfl,xb hc,okI s p⟩
  ·exact p.elim
 ·cases ry
  split at p
  ·rename_i hc
   rw [Zu,Zu,decide_eq_true_eq,decide_eq_true_eq,decide_eq_true_eq]at hc;cases rx with
   |lst h1 h2=>exact .inr ⟨_,_,_,rfl,rfl,h1.same s,hc.1.1,hc.1.2,by rw [RepAll.len h2];exact ia hc.2,λa ha=>OkE.lstD s p (RepAll.rep h2 _) ha⟩
  ·exact p.elim
 ·exact p.elim
theorem bF:Ok2 M (rI (λ_ j=>0<j) λi j=>.int (i % j)) dM:=by
 intro x y dx dy F H fp Q s rx ry p;unfold dM at p;split at p
 ·cases rx;cases ry
  split at p
  ·rename_i hc
   exact ⟨_,_,rfl,rfl,hc,okI s p⟩
  ·exact p.elim
 ·exact p.elim
theorem dG:Ok2 M (rI EC λi j=>.int (i / j)) gG:=by
 intro x y dx dy F H fp Q s rx ry p;unfold gG at p;split at p
 ·cases rx;cases ry
  split at p
  ·rename_i hc
   exact ⟨_,_,rfl,rfl,hc,okI s p⟩
  ·exact p.elim
 ·exact p.elim
theorem fI:Ok1 M (rU λi=>.int (-i)) jv:=by
 intro x dx F H fp Q s rx p;unfold jv at p;split at p
 ·cases rx
  exact ⟨_,rfl,okI s p⟩
 ·exact p.elim
theorem jc:Ok2 M (rI0 λi j=>.bl (decide (i<j))) gLt:=by
 intro x y dx dy F H fp Q s rx ry p;unfold gLt at p;split at p
 ·cases rx;cases ry
  exact ⟨_,_,rfl,rfl,okB s p⟩
 ·exact p.elim
theorem b6:Ok2 M (rI0 λi j=>.bl (decide (j<i))) gGt:=by
 intro x y dx dy F H fp Q s rx ry p;unfold gGt at p;split at p
 ·cases rx;cases ry
  exact ⟨_,_,rfl,rfl,okB s p⟩
 ·exact p.elim
theorem Fx:Ok2 M (rI0 λi j=>.bl (decide (j<=i))) gGe:=by
 intro x y dx dy F H fp Q s rx ry p;unfold gGe at p;split at p
 ·cases rx;cases ry
  exact ⟨_,_,rfl,rfl,okB s p⟩
 ·exact p.elim
mutual
theorem Rep.to2 {K:PySem.W.Frag} {H:Hp} {v:V} {d:PyData}:Rep K H v d->d.canLay0=true->L2.Rep K H v d
 |.non,_=>.non
 |.bl b,_=>.bl b
 |.int i,_=>.int i
 |.str x,_=>.str x
 |.lst h r,c=>.lst h.sq (RepAll.to2 r (by rw [PyData.canLay0]at c;exact c))
 |.tup h r,c=>.tup (SqT.of h) (RepAll.to2 r (by rw [PyData.canLay0]at c;exact c))
 |.dct _ _ _,c=>by
  unfold dD at c;rw [PyData.canLay0]at c;cases c
theorem RepAll.to2 {K:PySem.W.Frag} {H:Hp} {vs:List V} {ds:List PyData}:RepAll K H vs ds->PyData.canLayAll0 ds=true->L2.RepAll K H vs ds
 |.nil,_=>.nil
 |.cons h r,c=>by
  rw [PyData.canLayAll0,Zu]at c;exact .cons (Rep.to2 h c.1) (RepAll.to2 r c.2)
end
noncomputable def Cu (K:PySem.W.Frag):R2:=λx y H Q=>rEq x y H Q\/Cs K x y H Q
noncomputable def FK (K:PySem.W.Frag):R2:=λx y H Q=>rNe x y H Q\/Cn K x y H Q
theorem aZ (hu:X.A.units+64<cLine):OpR X (compareOp .Eq) (Cu X.K):=Dj.or (Bc hu)
theorem gU (hu:X.A.units+64<cLine):OpR X (compareOp .NotEq) (FK X.K):=Dw.or (zw hu)
theorem tZ {K:PySem.W.Frag} {F H:Hp} {fp:List Addr} {x y:V} {dx dy:PyData} {P:Bool->Prop} (rx:Rep K F x dx) (ry:Rep K F y dy) (p:aM M H fp P (eqD dx dy)) :
  (AU x y=true/\P (decide (x=y)))\/(SeqAt.shaped dx=true/\SeqAt.shaped dy=true/\P (PyData.eqv dx dy)):=by
 unfold eqD at p;split at p
 ·cases rx;cases ry
  refine .inl ⟨rfl,?_⟩;have e:∀i j:Int,decide (V.int i=V.int j)=decide (i=j):=λi j=>by
   by_cases h:i=j
   ·rw [h];simp
   ·rw [decide_eq_false h,decide_eq_false λz=>h (V.int.inj z)]
  rw [e];exact p
 ·cases rx;cases ry
  refine .inl ⟨rfl,?_⟩;have e:∀i j:Str,decide (V.str i=V.str j)=decide (i=j):=λi j=>by
   by_cases h:i=j
   ·rw [h];simp
   ·rw [decide_eq_false h,decide_eq_false λz=>h (V.str.inj z)]
  rw [e];exact p
 ·cases rx;cases ry
  refine .inl ⟨rfl,?_⟩;have e:∀i j:Bool,decide (V.bl i=V.bl j)=decide (i=j):=λi j=>by
   by_cases h:i=j
   ·rw [h];simp
   ·rw [decide_eq_false h,decide_eq_false λz=>h (V.bl.inj z)]
  rw [e];exact p
 ·unfold jK at p
  split at p
  ·rename_i h
   rw [Zu]at h;exact .inr ⟨h.1,h.2,p⟩
  ·exact p.elim
theorem bo (hK:X.K=M.K):Ok2 M (Cu X.K) gEq:=by
 rw [hK];intro x y dx dy F H fp Q s rx ry p;rcases tZ rx ry (aM.bind p) with ⟨h,q⟩ | ⟨h1,h2,q⟩
 ·exact .inl ⟨h,okB s q⟩
 ·exact .inr ⟨dx,dy,(rx.same s).to2 (SeqAt.canLay_of_shaped h1),(ry.same s).to2 (SeqAt.canLay_of_shaped h2),h1,h2,okB s q⟩
theorem iY (hK:X.K=M.K):Ok2 M (FK X.K) gNe:=by
 rw [hK];intro x y dx dy F H fp Q s rx ry p;rcases tZ rx ry (aM.bind p) with ⟨h,q⟩ | ⟨h1,h2,q⟩
 ·exact .inl ⟨h,okB s q⟩
 ·exact .inr ⟨dx,dy,(rx.same s).to2 (SeqAt.canLay_of_shaped h1),(ry.same s).to2 (SeqAt.canLay_of_shaped h2),h1,h2,okB s q⟩
theorem qT {K:PySem.W.Frag} {F:Hp} {vs:List V} {ds:List PyData} {i:Int} {d:PyData} (h:RepAll K F vs ds) (e:atI ds i=some d):∃v,atI vs i=some v/\Rep K F v d:=by
 unfold atI at e ⊢;rw [RepAll.len h];cases q:ixN ds.length i with
 |none=>rw [q]at e;cases e
 |some j =>
  rw [q]at e;obtain ⟨v,h1,h2⟩:=RepAll.get h e;exact ⟨v,h1,h2⟩
theorem aD (hK:X.K=M.K):Ok2 M (rIx X.K) gIx:=by
 rw [hK];intro x y dx dy F H fp Q s rx ry p;unfold gIx at p;split at p
 ·cases ry
  unfold jA at p;split at p
  ·rename_i d hd
   cases rx with
   |lst h1 h2 =>
    obtain ⟨v,e,r⟩:=qT h2 hd;exact .inl ⟨_,_,_,v,rfl,rfl,(h1.same s).sq,e,OkE.val s p r⟩
  ·exact p.elim
 ·cases ry
  unfold jA at p;split at p
  ·rename_i d hd
   cases rx with
   |tup h1 h2 =>
    obtain ⟨v,e,r⟩:=qT h2 hd;exact .inr (.inl ⟨_,_,_,v,rfl,rfl,SqT.of (s _ _ h1),e,OkE.val s p r⟩)
  ·exact p.elim
 ·cases ry
  cases rx;split at p
  ·rename_i hl
   unfold jA at p;split at p
   ·rename_i d hd
    obtain ⟨c,hc,rfl⟩:=Zo.mp hd;exact .inr (.inr ⟨_,_,c,rfl,rfl,ia hl,hc,OkE.val s p (.str _)⟩)
   ·exact p.elim
  ·exact p.elim
 ·exact p.elim
theorem zF (hK:X.K=M.K):OkS M (FG X.K) xC:=by
 rw [hK];intro x lo hi dx F H fp Q s rx p;unfold xC at p;split at p
 ·cases rx with
  |@lst a vs ds h1 h2 =>
   refine ⟨a,vs,rfl,(h1.same s).sq,λq hq=>?_⟩
   refine OkE.lstD s p ?_ hq;unfold vj cutD;rw [RepAll.len h2];exact RepAll.take _ (RepAll.drop _ h2)
 ·exact p.elim
noncomputable def yC (K:PySem.W.Frag):List V->Hp->VK->Prop:=λxs H Q=>(∃p ys,xs=[.ref p]/\(SqL K H p ys\/SqT K H p ys)/\Q (.int ys.length) H)\/(∃z,xs=[.str z]/\z.length<=sizeLine/\Q (.int z.length) H)
theorem aK:dW X (.builtin "len") (yC X.K):=nR.or n9
theorem a_ (hK:X.K=M.K):OkC M (yC X.K) cg:=by
 rw [hK];intro x dx F H fp Q s rx p;unfold cg at p;split at p
 ·cases rx with
  |cons h r =>
   cases r;cases h with
   |lst h1 h2=>exact .inl ⟨_,_,rfl,.inl (h1.same s).sq,by rw [RepAll.len h2];exact okI s p⟩
 ·cases rx with
  |cons h r =>
   cases r;cases h with
   |tup h1 h2=>exact .inl ⟨_,_,rfl,.inr (SqT.of (s _ _ h1)),by rw [RepAll.len h2];exact okI s p⟩
 ·cases rx with
  |cons h r =>
   cases r;cases h;split at p
   ·rename_i hl
    exact .inr ⟨_,rfl,ia hl,okI s p⟩
   ·exact p.elim
 ·exact p.elim
theorem pQ {K:PySem.W.Frag} {F:Hp} {x:List V} {i j:Int} (r:RepAll K F x [.int i,.int j]):x=[.int i,.int j]:=by
 cases r with
 |cons h r =>
  cases h;cases r with
  |cons h r =>
   cases h;cases r;rfl
theorem rl:OkC M (λxs H Q=>∃i j,xs=[.int i,.int j]/\Q (.int (if j<i then j else i)) H) pf:=by
 intro x dx F H fp Q s rx p;unfold pf at p;split at p
 ·exact ⟨_,_,pQ rx,okI s p⟩
 ·exact p.elim
theorem rL:OkC M (λxs H Q=>∃i j,xs=[.int i,.int j]/\Q (.int (if j > i then j else i)) H) pJ:=by
 intro x dx F H fp Q s rx p;unfold pJ at p;split at p
 ·exact ⟨_,_,pQ rx,okI s p⟩
 ·exact p.elim
theorem kA:∀(ns:List Int) (m:Int),nM m ns∈m :: ns/\∀z∈m :: ns,z<=nM m ns
 |[],m=>⟨Zf,λz h=>by simp at h;rw [h];exact Int.le_refl _⟩
 |n :: ns,m=>by
  obtain ⟨h1,h2⟩:=kA ns (if m<n then n else m)
  rw [nM];have hm:m<=(if m<n then n else m):=by split <;> lia
  have hn:n<=(if m<n then n else m):=by split <;> lia
  have ht:=h2 _ Zf;refine ⟨?_,λz hz=>?_⟩
  ·rcases Zn.mp h1 with h | h
   ·rw [h]
    split <;> simp
   ·simp [h]
  ·rcases Zn.mp hz with rfl | hz
   ·lia
   ·rcases Zn.mp hz with rfl | hz
    ·lia
    ·exact h2 z (Ze _ hz)
theorem vk {K:PySem.W.Frag} {F:Hp} {x:List V} {ds:List PyData} {ns:List Int} (s:aS F H') (r:RepAll K F x [.list ds]) (e:gC ds=some ns):∃a,x=[.ref a]/\SqL K H' a (ns.map V.int):=by
 cases r with
 |cons h r =>
  cases r;cases h with
  |lst h1 h2 =>
   rw [lT e]at h2;rw [RepAll.toInts h2]at h1;exact ⟨_,rfl,(h1.same s).sq⟩
theorem rh (hK:X.K=M.K):OkC M (yK X.K) nF:=by
 rw [hK];intro x dx F H fp Q s rx p;unfold nF at p;split at p
 ·split at p
  ·rename_i n ns e
   obtain ⟨a,rfl,h⟩:=vk s rx e;refine ⟨a,n :: ns,rfl,h,by simp,λm h1 h2=>?_⟩
   obtain ⟨k1,k2⟩:=kA ns n;have e:nM n ns=m:=Int.le_antisymm (h2 _ k1) (k2 _ h1);rw [<-e];exact okI s p
  ·exact p.elim
 ·exact p.elim
theorem tM (hK:X.K=M.K):OkC M (FN X.K) ke:=by
 rw [hK];intro x dx F H fp Q s rx p;unfold ke at p;split at p
 ·cases rx with
  |cons h r =>
   cases r;cases h with
   |lst h1 h2=>exact ⟨_,_,rfl,.inl (h1.same s).sq,λl hl=>OkE.lstD s p h2 hl⟩
 ·cases rx with
  |cons h r =>
   cases r;cases h with
   |tup h1 h2=>exact ⟨_,_,rfl,.inr (SqT.of (s _ _ h1)),λl hl=>OkE.lstD s p h2 hl⟩
 ·exact p.elim
theorem qE:OkC M (λxs H Q=>(∃i,xs=[.int i]/\Q (.int i) H)\/∃k,xs=[.bl k]/\Q (.int (if k then 1 else 0)) H) sC:=by
 intro x dx F H fp Q s rx p;unfold sC at p;split at p
 ·cases rx with
  |cons h r =>
   cases r;cases h;exact .inl ⟨_,rfl,okI s p⟩
 ·cases rx with
  |cons h r =>
   cases r;cases h;exact .inr ⟨_,rfl,okI s p⟩
 ·exact p.elim
noncomputable def mM (T:String) (a:Fe):Fe:=fun ρ=>(a ρ).bind λx=>gy T x.er
noncomputable def yN (K:PySem.W.Frag) (T:String):List V->Hp->VK->Prop:=λxs H Q=>∃x d b,xs=[x,.ty T]/\Rep K H x d/\xj T d=some b/\Q (.bl b) H
theorem zS {K:PySem.W.Frag} {T U:String} (hU:U = "int" \/ U = "bool" \/ U = "str" \/ U = "list" \/ U = "tuple" \/ U = "NoneType") (hT:T = "int" \/ T = "bool" \/ T = "str" \/ T = "list" \/ T = "tuple"):PySem.W.kitOne K (.type U) (.type T)=some (decide (T=U\/(U = "bool" /\ T = "int"))):=by
 rcases hU with rfl | rfl | rfl | rfl | rfl | rfl <;> rcases hT with rfl | rfl | rfl | rfl | rfl <;> rfl
theorem sV {K:PySem.W.Frag} {T U:String} {d:PyData} {b:Bool} (hk:yi d=some U) (hU:U = "int" \/ U = "bool" \/ U = "str" \/ U = "list" \/ U = "tuple" \/ U = "NoneType") (e:xj T d=some b):PySem.W.kitOne K (.type U) (.type T)=some b:=by
 unfold xj at e;rw [hk]at e;have e':(if T = "int" \/ T = "bool" \/ T = "str" \/ T = "list" \/ T = "tuple" then some (decide (T=U\/(U = "bool" /\ T = "int"))) else none)=some b:=e
 by_cases hT:T = "int" \/ T = "bool" \/ T = "str" \/ T = "list" \/ T = "tuple"
 ·rw [if_pos hT]at e'
  rw [<-e'];exact zS hU hT
 ·rw [if_neg hT]at e'
  cases e'
end
section
variable {M:Mx} {X:Cx} {e a b c:Expr} {es:List Expr} {pos:Pos} {fa fb:Fe} {ta tb:Ft} {al:Fa}
theorem sr (T:String):dW X (.builtin "isinstance") (yN X.K T):=by
 intro pins s σ H xs us Q I r h;obtain ⟨x,d,b,rfl,rd,e,q⟩:=h;obtain ⟨u,v,rfl,ru,rv⟩:=Vals.two r;cases rv;have fin:∀tk,EP X pins σ Q (.bool b) { s with toks:=tk }:=λtk=>⟨.bl b,H,I.tok tk,rfl,q⟩
 cases rd with
 |non =>
  cases (show u=Value.none from ru)
  exact PySem.W.kia_one PySem.W.kitx_none I.kIn True.intro (sV rfl (by simp) e) (λz=>nomatch z) fin
 |bl y =>
  cases (show u=Value.bool y from ru)
  exact PySem.W.kia_one PySem.W.kitx_bool I.kIn True.intro (sV rfl (by simp) e) (λz=>nomatch z) fin
 |int i =>
  obtain ⟨t,hq⟩:=(show ∃t,u=Value.int i t from ru)
  cases hq;exact PySem.W.kia_one PySem.W.kitx_int I.kIn True.intro (sV rfl (by simp) e) (λz=>nomatch z) fin
 |str y =>
  obtain ⟨t,hq⟩:=(show ∃t,u=Value.str y t from ru)
  cases hq;exact PySem.W.kia_one PySem.W.kitx_str I.kIn True.intro (sV rfl (by simp) e) (λz=>nomatch z) fin
 |@lst a xs ds h1 h2 =>
  cases (show u=Value.ref a from ru)
  obtain ⟨_,its,n,_,_,he⟩:=h1.obj I;exact PySem.W.kia_one PySem.W.kitx_list I.kIn ⟨_,he,rfl⟩ (sV (d:=.list ds) rfl (by simp) e) (λz=>nomatch z) fin
 |@tup a xs ds h1 h2 =>
  cases (show u=Value.ref a from ru)
  obtain ⟨_,_,_,p⟩:=(show fW X.prog X.w H s.heap a (.tup xs) from I.hok a _ h1)
  obtain ⟨o,k1,k2,_⟩:=p;exact PySem.W.kia_one PySem.W.kitx_tuple I.kIn ⟨o,k1,k2⟩ (sV (d:=.tuple ds) rfl (by simp) e) (λz=>nomatch z) fin
 |dct _ _ _ =>
  have e':(none:Option Bool)=some b:=e;cases e'
theorem EJ {n:Nat} {σ:St} {H:Hp} {Q:VK} {T:String} (h:tD M n (mM T fa) σ H Q):tCB (yN M.K T) (iM (tD M n fa) (iM (tC (.ty T)) qs)) σ H Q:=by
 obtain ⟨F,ρ,fp,S,p⟩:=h;refine ⟨F,ρ,fp,S,(aM.bind p).mono λx px v F1 H1 fx e1 r1 w1=>?_⟩
 obtain ⟨G1,d1,k1⟩:=r1.frz e1 w1;unfold gy at px;split at px
 ·rename_i b hb
  exact ⟨v,x.er,b,rfl,k1.same d1.fh,hb,OkE.val d1.fh (OkE.pre d1 px) (.bl b)⟩
 ·exact px.elim
theorem jG {T:String} {x:Str} {p p2:Pos} (hg:Gl X "isinstance") (hm:X.mg "isinstance" = none) (hgT:Gl X x) (hmT:X.mg x=none) (hT:bootBuiltins x=some (.type T)) (h:DE M X e fa) (hnT:x ≠ "__name__" := by decide) (hdT:(x == ("__debug__" : Str))=false:=by decide)
  (hs1:starEach [e,.Name x p2] X.env=(false,eval e X.env) :: starEach [.Name x p2] X.env:=by rfl) (hs2:starEach [.Name x p2] X.env=(false,eval (.Name x p2) X.env) :: starEach [] X.env:=by rfl) (hpl:(backTo pos (starEach [.Name x p2] X.env)).any (·.1)=false:=by rfl) :
  DE M X (.Call (.Name "isinstance" p) [e,.Name x p2] [] pos) (mM T fa):=λhK hM=>by
 have q:=i6 (p:=p) (pos:=pos) (sr T) hg hm d8 (bc (h hK hM) (bc (q_ (v:=V.ty T) (pos:=p2) hgT hmT hT rfl hnT hdT) c_ hs2) hs1) (by decide) (by decide) hs1 hpl
 rw [hK]at q;exact peI q λ_ _ _ z=>EJ z
noncomputable def FI (a b:Fe):Fe:=fun ρ=>(a ρ).bind λx=>match x.er with
 |.list ds=>(b ρ).bind λy=>uV ds y.er
 |_=>.bad
end
theorem kM {K:PySem.W.Frag} {F H:Hp} (m:Nat):∀{vs:List V} {ds:List PyData},RepAll K F vs ds->OwnS K F H (vs.map some++List.replicate m none) ((ds.map λd=>some (OD.sh d))++List.replicate m none) []
 |_,_,.nil=>by
  show OwnS K F H (List.replicate m none) (List.replicate m none) []
  have:=OwnS.nones (K:=K) (F:=F) (H:=H) m .nil;rw [Zw,Zw]at this;exact this
 |_,_,.cons h r=>.yes (f:=[]) (.sh h) (kM m r)
theorem fn3 {P:Program} {w:World} {K:PySem.W.Frag} {mg:Str->Option Value} {base:Heap} {x qual:Str} {st:Stmt} {f:Addr} {fd:FuncData} {N ps:List Str} {k:Nat} {body:Fs} (F:Fun K x qual st f fd) (S:FnScope N ps (aq st))
  (h:∀(cdv:Value) (A:Around) (outer:List PySem.Env) (s:Shared) (H:Hp) (E:XK),Room k (A.deeper (envOfC qual (aq st) s.heap.objs.size f cdv))->DSs ⟨K,mg,E⟩ (iQ CX0 P w K mg base N qual (aq st) f cdv A outer s H E).nox (aP st) body) :
  FnOk P w K mg base CX0 (k+1) f fd ps (sp3 K mg (bx ps.length N.length body)):=by
 have hpl:ps.length<=N.length:=by
  have:=congrArg List.length S.pre;rw [ZC]at this
  lia
 have hlen:∀vs H Q E,sp3 K mg (bx ps.length N.length body) vs H Q E->vs.length=ps.length:=by
  rintro vs H Q E ⟨F,ds,sm,ra,p⟩;by_cases hl:ds.length=ps.length
  ·rw [RepAll.len ra]
   exact hl
  ·unfold bx at p
   rw [if_neg hl]at p;exact p.elim
 refine F.ok S hlen λcdv A outer s H vs Q E hr hs=>?_
 have hvl:=hlen _ _ _ _ hs;obtain ⟨F0,ds,sm,ra,p⟩:=hs;have hdl:ds.length=ps.length:=by rw [<-RepAll.len ra];exact hvl
 unfold bx at p;rw [if_pos hdl]at p;refine ⟨_,h cdv A outer s H E hr rfl rfl,F0,kg N.length ds,[],⟨sm,?_,List.nodup_nil,(λ_ m=>by cases m),?_⟩,(aM.bind p).mono λo po=>?_⟩
 ·unfold L2.start kg
  rw [hvl,hdl];exact kM _ ra
 ·unfold kg
  show _=N.length
  rw [Zd,Zc,List.length_replicate,hdl]
  lia
 ·cases o with
  |nx ρ=>exact fun σ' F' H' fp' S' st=>po .non F' H' [] ⟨st.ff,λa o q=>st.keep a o q (by simp),S'.same,λa q z=>st.nw a q (by simp) z⟩ (Res.sh .non) λ_ m=>by cases m
  |rt y=>exact λv F' H' fx sm' r st=>po v F' H' fx ⟨st.ff,λa o q=>st.keep a o q (by simp),sm',λa q z=>st.nw a q (by simp) z⟩ r λa m=>(st.new a m).elim (λz=>by cases z) id
  |bk ρ=>exact po.elim
  |ct ρ=>exact po.elim
theorem sO {P:Program} {w:World} {K:PySem.W.Frag} {mg mb:Str->Option Value} {CX:CXT} {k:Nat} {fa a:Addr} {fd:FuncData} {x:Str} {sp:Sp} {s₁:Shared} {vs:List Value} {ns:List Int}
  (KX:K.In s₁.heap) (hns:s₁.heap.Ns mainGlobals mg) (hb:s₁.heap.Ns builtinsNs mb) (hbb:∀x:Str,x ≠ "__name__" -> mb x=bootBuiltins x) (hlim:s₁.heap.NoLimit) (hg:s₁.gens=#[])
  (ha:s₁.heap.get? a=some { cls:=.type "list",data:=.seq vs.toArray }) (hi:IntsAre vs ns) (hl:ns.length<=sizeLine) (hr:Room k callerA)
  (F:∀base:Heap,K.In base->base.Ns mainGlobals mg->FnOk P w K mg base CX k fa fd [x] sp) (hbind:∀(s:Shared) (u:Value),BindsTo s fd ⟨[u],[]⟩ [(x,u)])
  (hsp:∀H:Hp,r_ H->RdK K H a (ns.map V.int)->sp [.ref a] H (λv _=>v=.bl true) λ_ _ _=>False)
  (hCX:∀H e s',CX [] H s₁ (λ_ _ _=>False) e s'->False) :
  codeAny (model P w) callerA (.call (.ref fa) ⟨[.ref a],[]⟩) (λr s'=>r=.ok (.ret (.bool true))/\OldK s₁.heap s'.heap/\s'.os=s₁.os/\AllBare s'.gens) s₁:=by
 have rv:=ig hi;have lenV:=hi.length;have core:∀H:Hp,r_ H->RdK K H a (ns.map V.int)->HOk P w H s₁.heap->(∀b,H b≠none->b=a)->(H a≠none->K.lookup a=none) ->
   codeAny (model P w) callerA (.call (.ref fa) ⟨[.ref a],[]⟩) (λr s'=>r=.ok (.ret (.bool true))/\OldK s₁.heap s'.heap/\s'.os=s₁.os/\AllBare s'.gens) s₁:=by
  intro H hO hS hok hA hK;have base_of:∀{b:Addr} {o:Obj},s₁.heap.get? b=some o->H b=none->(kh s₁.heap H).get? b=some o:=λe n=>pF e n
  have noA:∀{b:Addr} {o:Obj} {es:Array DictEntry} {ep:Nat},s₁.heap.get? b=some o->o.data=.dict es ep->H b=none:=fun {b o es ep} e d=>by
   cases q:H b with
   |none=>rfl
   |some u =>
    have e':b=a:=hA b (by rw [q];simp)
    subst e';rw [ha]at e;cases e;have d':Data.seq vs.toArray _=Data.dict es ep:=d;cases d'
  have nsK:∀{b:Addr} {m:Str->Option Value},s₁.heap.Ns b m->(kh s₁.heap H).Ns b m:=fun {b m} ⟨o,es,ep,e,d,r⟩=>⟨o,es,ep,base_of e (noA e d),d,r⟩
  have hKb:K.In (kh s₁.heap H):=λb o e=>base_of (KX b o e) (by
   cases q:H b with
   |none=>rfl
   |some u =>
    have e':b=a:=hA b (by rw [q];simp)
    subst e';rw [hK (by rw [q];simp)]at e;cases e)
  have hM:Mod K mg (kh s₁.heap H):=⟨hKb,nsK hns,⟨mb,nsK hb,hbb⟩,let ⟨mc,h1,h2⟩:=hlim;⟨mc,nsK h1,h2⟩⟩;have e0:Env0 P w K mg (kh s₁.heap H) callerA [] s₁ H:=⟨rfl,hM,λb o e=>qN e,Nat.le_of_eq (mR _ _),trivial,λb hb=>absurd (show b∈([]:List Addr) from hb) (by simp),hok,.of_eq hg⟩
  refine codeAny_mono ((F _ hKb (nsK hns)).run callerA [] s₁ H ⟨[.ref a],[]⟩ [.ref a] [.ref a] _ _ hr e0 (hbind s₁ (.ref a)) (.cons rfl .nil) (hsp H hO hS)) λr s' h=>?_
  cases r with
  |error e=>exact (hCX H e s' h).elim
  |ok fl =>
   cases fl with
   |next=>exact False.elim h
   |brk=>exact False.elim h
   |cont=>exact False.elim h
   |ret u =>
    obtain ⟨v,H',os,bare,un,hok',r',q⟩:=h;have q':v=.bl true:=q;subst q';obtain rfl:u=Value.bool true:=r';refine ⟨rfl,OldK.of_keep λb o e=>?_,os,bare⟩
    cases q:H b with
    |none=>exact un.keep b o e q (by intro z;exact absurd (show b∈([]:List Addr) from z) (by simp)) (by simp)
    |some u =>
     rcases hO b with z | ⟨ob,xs,z⟩
     ·rw [q]at z;cases z
     ·have z2:=un.frzs b ob _ z
      obtain ⟨e1,_⟩:=hok b _ z;obtain ⟨e2,_⟩:=hok' b _ z2;rw [e]at e1;cases e1;exact e2
 cases hk:K.lookup a with
 |some o =>
  have e:=KX a o hk;rw [ha]at e;cases e;refine core (λ_=>none) (λ_=>.inl rfl) (.inr ⟨vs.toArray,_,hk,by rw [Zy,lenV];exact hl,by simpa using rv⟩) (λb u z=>by have z':(none:Option HO)=some u:=z;cases z') (λb z=>absurd rfl z) λz=>absurd rfl z
 |none =>
  refine core (λb=>if b=a then some (.frz { cls:=.type "list",data:=.seq vs.toArray } (.lst (ns.map V.int))) else none) (λb=>?_) (.inl (.inr ⟨{ cls:=.type "list",data:=.seq vs.toArray },if_pos rfl⟩)) (λb u z=>?_) (λb z=>?_) λ_=>hk
  ·by_cases hb:b=a
   ·exact .inr ⟨_,_,if_pos hb⟩
   ·exact .inl (if_neg hb)
  ·by_cases hb:b=a
   ·have z':=(if_pos hb).symm.trans z
    cases z';subst hb;exact ⟨ha,by rw [Zc];exact hl,vs,_,rv,ha⟩
   ·have z':=(if_neg hb).symm.trans z
    cases z'
  ·by_cases hb:b=a
   ·exact hb
   ·exact absurd (if_neg hb) z
theorem vR {l:PySem.W.OpenLaw} {n k:Nat} {q:Program} {loose:List Str} {XP:(Str->Option Value)->Heap->Prop} {YP:World->Heap->Prop} {d:DefRec} {K:Params->PySem.W.Frag} {CX:World->CXT} {sp:World->Sp} {x:Str}
  (hn:l.most=some n) (hn2:n<=sizeLine) (hdf:d.params.defaults=[]) (hr:Room k callerA)
  (hY:∀(w:World) (h:Heap),YP w h->(K w.params).In h)
  (F:∀(w:World) (mg:Str->Option Value) (fa:Addr) (h:Heap),(K w.params).In h->h.Ns mainGlobals mg->mg d.name=some (.ref fa) ->
   ∃fd:FuncData,(∀(s:Shared) (u:Value),BindsTo s fd ⟨[u],[]⟩ [(x,u)]) /\
    ∀base:Heap,(K w.params).In base->base.Ns mainGlobals mg->FnOk l.prog w (K w.params) mg base (CX w) k fa fd [x] (sp w))
  (hsp:∀(w:World) (H:Hp) (a:Addr) (ns:List Int),ns.length<=n->r_ H->RdK (K w.params) H a (ns.map V.int)->sp w [.ref a] H (λv _=>v=.bl true) λ_ _ _=>False)
  (hCX:∀(w:World) (H:Hp) (s:Shared) (e:Value) (s':Shared),CX w [] H s (λ_ _ _=>False) e s'->False) :
  PySem.W.WalkO q loose XP YP l.row.toRowW d [] (λf vs=>PySem.call f vs):=by
 refine Att.kQ hn hdf λw s₀ s₁ mg mb fa o pm cd doc a vs ns G Y ho hd hcd hmg hobj hints hlen hg=>?_
 have KX:=hY w _ Y;obtain ⟨fd,hb,hF⟩:=F w mg fa _ KX G.T.g hmg;exact sO KX G.T.g G.T.b G.T.builtins G.T.nolimit hg hobj hints (ZE hlen hn2) hr hF hb (λH hO hS=>hsp w H a ns hlen hO hS) λH e s'=>hCX w H s₁ e s'
theorem Ec {l:PySem.W.OpenLaw} {q:Program} {loose:List Str} {XP:(Str->Option Value)->Heap->Prop} {YP:World->Heap->Prop} {d:DefRec} {K:Params->PySem.W.Frag} {x:Str} {k:Nat} {fn:Fn} (hn:l.most=some 63) (hdf:d.params.defaults=[]) (hr:Room k callerA)
  (hY:∀(w:World) (h:Heap),YP w h->(K w.params).In h) (hl:∀ns:List Int,ns.length<=63->fn [.list (ns.map PyData.int)]=.ok (.sh (.bool true)))
  (F:∀(w:World) (mg:Str->Option Value) (fa:Addr) (h:Heap),(K w.params).In h->h.Ns mainGlobals mg->mg d.name=some (.ref fa) ->
   ∃fd:FuncData,(∀(s:Shared) (u:Value),BindsTo s fd ⟨[u],[]⟩ [(x,u)])/\∀base:Heap,(K w.params).In base->base.Ns mainGlobals mg->FnOk l.prog w (K w.params) mg base CX0 k fa fd [x] (sp3 (K w.params) mg fn)) :
  PySem.W.WalkO q loose XP YP l.row.toRowW d [] (λf vs=>PySem.call f vs):=by
 refine vR (n:=63) (k:=k) (x:=x) (CX:=λ_=>CX0) (sp:=λw vs H Q E=>∃F ds x,aS F H/\RepAll (K w.params) F vs ds/\fn ds=.ok x/\OkE ⟨K w.params,λ_=>none,E⟩ F H Q x) hn (by decide) hdf hr hY (λw mg fa h a b c=>?_) (λw H a ns hlen _ hS=>?_) λ_ _ _ _ _ z=>z
 ·obtain ⟨fd,h1,h2⟩:=F w mg fa h a b c
  refine ⟨fd,h1,λbase kb nb=>(h2 base kb nb).imp ?_⟩
  rintro vs H Q E ⟨F0,ds,y,sm,ra,e,p⟩;refine ⟨F0,ds,sm,ra,?_⟩;rw [e];exact λv F' H' fx=>p v F' H' fx
 ·refine ⟨H,[.list (ns.map PyData.int)],_,aS.refl _,.cons (.lst hS (RepAll.ofInts ns)) .nil,hl ns hlen,?_⟩
  intro v F' H' fx e r w;cases r.own with
  |sh q =>
   cases q;rfl
end L3
namespace L3
open PySem L2 PySem.Spec PyProof.Rows
theorem de {P:Program} {w:World} {K:PySem.W.Frag} {mg:Str->Option Value} {base:Heap} {x qual:Str} {st:Stmt} {f:Addr} {fd:FuncData} {N ps:List Str} {k np n:Nat} {body:Fs} {fn:Fn} (hf:fn=bx np n body) (hp:ps.length=np) (hn:N.length=n) (F:Fun K x qual st f fd) (S:FnScope N ps (aq st))
  (h:∀(cdv:Value) (A:Around) (outer:List PySem.Env) (s:Shared) (H:Hp) (E:XK),Room k (A.deeper (envOfC qual (aq st) s.heap.objs.size f cdv))->DSs ⟨K,mg,E⟩ (iQ CX0 P w K mg base N qual (aq st) f cdv A outer s H E).nox (aP st) body) :
  FnOk P w K mg base CX0 (k+1) f fd ps (sp3 K mg fn):=by
 subst hf hp hn;exact fn3 F S h
theorem a7 {X:Cx} {E:XK}:Passes CX0 X E:=λ_ _ _ _ _ _ _ h=>h.elim
noncomputable def rD:PyData->PyData->R OD
 |.int i,.int j=>oI (i+j)
 |_,_=>.bad
section
variable {M:Mx} {X:Cx}
theorem vO:Ok2 M (ipI λi j=>i+j) rD:=by
 intro x y dx dy F H fp Q s rx ry p;unfold rD at p;split at p
 ·cases rx;cases ry
  exact ⟨_,_,rfl,rfl,okI s p⟩
 ·exact p.elim
end
end L3
namespace L3
open PySem L2
theorem Ba (i:Int):gy "int" (.int i)=oB true:=rfl
theorem zX (i:Int):gy "bool" (.int i)=oB false:=rfl
theorem BW (i:Int):gy "str" (.int i)=oB false:=rfl
theorem A_ (i:Int):gy "list" (.int i)=oB false:=rfl
theorem Af (i:Int):gy "tuple" (.int i)=oB false:=rfl
theorem Ae (i:Bool):gy "int" (.bool i)=oB true:=rfl
theorem Bt (i:Bool):gy "bool" (.bool i)=oB true:=rfl
theorem y0 (i:Str):gy "int" (.str i)=oB false:=rfl
theorem zO (i:Str):gy "bool" (.str i)=oB false:=rfl
theorem BB (i:Str):gy "str" (.str i)=oB true:=rfl
theorem Ad (i:List PyData):gy "list" (.list i)=oB true:=rfl
theorem BD (i:List PyData):gy "tuple" (.list i)=oB false:=rfl
theorem zY (i:List PyData):gy "int" (.list i)=oB false:=rfl
theorem zJ (i:List PyData):gy "tuple" (.tuple i)=oB true:=rfl
theorem zM (i:List PyData):gy "list" (.tuple i)=oB false:=rfl
theorem AM (i:List PyData):gy "int" (.tuple i)=oB false:=rfl
theorem F7:(0<=BIG)=True:=by decide
theorem GN:(1<=BIG)=True:=by decide
theorem Gk:(2<=BIG)=True:=by decide
theorem Gi:(3<=BIG)=True:=by decide
theorem Gm:(4<=BIG)=True:=by decide
theorem Gd:(0<BIG)=True:=by decide
theorem pC {g:Fg} {b:Fs} (I:Nat->Env->Prop):∀(ds:List PyData) (k:Nat) (ρ:Env),I k ρ->(∀(i:Nat) (d:PyData) (ρ:Env),ds[i]?=some d->I (k+i) ρ->∃ρ1 ρ2,g (.sh d) ρ=.ok ρ1/\(b ρ1=.ok (.nx ρ2)\/b ρ1=.ok (.ct ρ2))/\I (k+i+1) ρ2) ->
  ∃ρ',bG g b ds ρ=.ok (.nx ρ')/\I (k+ds.length) ρ'
 |[],k,ρ,h,_=>⟨ρ,rfl,h⟩
 |d :: ds,k,ρ,h,st=>by
  obtain ⟨ρ1,ρ2,h1,h2,h3⟩:=st 0 d ρ rfl h;obtain ⟨ρ',e,h4⟩:=pC I ds (k+1) ρ2 h3 λi d' ρ hd hi=>by
   have:=st (i+1) d' ρ (by simpa using hd) (by rw [show k+(i+1)=k+1+i by lia];exact hi)
   rw [show k+(i+1)+1=k+1+i+1 by lia]at this
   exact this
  refine ⟨ρ',?_,by rw [Zq,show k+(ds.length+1)=k+1+ds.length by lia];exact h4⟩
  rw [bG,h1,a9];rcases h2 with h2 | h2
  ·rw [h2,a9]
   exact e
  ·rw [h2,a9]
   exact e
theorem sQ {g:Fg} {b:Fs} {ds:List PyData} {ρ:Env} (S:Nat->Env->Prop) (h0:S 0 ρ) (st:∀(i:Nat) (d:PyData) (ρ:Env),ds[i]?=some d->S i ρ->∃ρ1 ρ2,g (.sh d) ρ=.ok ρ1/\(b ρ1=.ok (.nx ρ2)\/b ρ1=.ok (.ct ρ2))/\S (i+1) ρ2) :
  ∃ρ',bG g b ds ρ=.ok (.nx ρ')/\S ds.length ρ':=by
 obtain ⟨ρ',e,h⟩:=pC S ds 0 ρ h0 λi d ρ hd hi=>by
  rw [Nat.zero_add]at hi ⊢;exact st i d ρ hd hi
 exact ⟨ρ',e,by rw [Nat.zero_add]at h;exact h⟩
theorem mq {lo:Int} {n i:Nat} {d:PyData} (h:(jt lo n)[i]?=some d):i<n/\d=.int (lo+i):=by
 unfold jt at h;rw [Za]at h;obtain ⟨j,hj,rfl⟩:=Zo.mp h;obtain ⟨h1,h2⟩:=Zb.mp hj;have h3:i=j:=by simpa using h2
 subst h3;exact ⟨by simpa using h1,rfl⟩
theorem pL (lo:Int) (n:Nat):(jt lo n).length=n:=by unfold jt;simp
theorem sX {t:Ft} {b:Fs} {ρ:Env} {n:Nat} {o:Out} (h:bw t b n ρ=.ok o):cM t b ρ=.ok o:=by
 have mono:∀(n:Nat) (ρ:Env),bw t b n ρ≠.bad->∀m,n<=m->bw t b m ρ=bw t b n ρ:=by
  intro n
  induction n with
  |zero=>intro ρ hn;exact absurd rfl hn
  |succ n ih =>
   intro ρ hn m hm;obtain ⟨m,rfl⟩:∃k,m=k+1:=⟨m-1,by lia⟩
   rw [bw]at hn ⊢;rw [bw];cases ht:t ρ with
   |bad=>rfl
   |ex c=>rfl
   |ok c =>
    rw [ht,a9]at hn;rw [a9,a9];cases c with
    |false=>rfl
    |true =>
     rw [if_pos rfl]at hn ⊢;rw [if_pos rfl];cases hb:b ρ with
     |bad=>rfl
     |ex c=>rfl
     |ok o =>
      rw [hb,a9]at hn;rw [a9,a9];cases o with
      |nx ρ2=>exact ih ρ2 hn m (by lia)
      |ct ρ2=>exact ih ρ2 hn m (by lia)
      |bk ρ2=>rfl
      |rt x=>rfl
 unfold cM;have hx:∃n,bw t b n ρ≠.bad:=⟨n,by rw [h];exact λz=>by cases z⟩
 rw [dif_pos hx];have e1:=mono n ρ (by rw [h];exact λz=>by cases z) (n+hx.choose) (by lia)
 have e2:=mono hx.choose ρ hx.choose_spec (n+hx.choose) (by lia)
 rw [<-e2,e1,h]
theorem sv {t:Ft} {b:Fs} (I:Nat->Env->Prop) (Q:Env->Prop) (st:∀m ρ,I m ρ->(t ρ=.ok false/\Q ρ)\/(t ρ=.ok true/\∃ρ2 m',(b ρ=.ok (.nx ρ2)\/b ρ=.ok (.ct ρ2))/\m'<m/\I m' ρ2)):∀(m:Nat) (ρ:Env),I m ρ->∃ρ',cM t b ρ=.ok (.nx ρ')/\Q ρ':=by
 have go:∀(m:Nat) (ρ:Env),I m ρ->∃n ρ',bw t b n ρ=.ok (.nx ρ')/\Q ρ':=by
  intro m
  induction m using Nat.strongRecOn with
  |ind m ih =>
   intro ρ h;rcases st m ρ h with ⟨h1,h2⟩ | ⟨h1,ρ2,m',h2,h3,h4⟩
   ·exact ⟨1,ρ,by rw [bw,h1];rfl,h2⟩
   ·obtain ⟨n,ρ',e,q⟩:=ih m' h3 ρ2 h4
    refine ⟨n+1,ρ',?_,q⟩;rw [bw,h1,a9,if_pos rfl];rcases h2 with h2 | h2
    ·rw [h2,a9]
     exact e
    ·rw [h2,a9]
     exact e
 intro m ρ h;obtain ⟨n,ρ',e,q⟩:=go m ρ h;exact ⟨ρ',sX e,q⟩
noncomputable def Aj:Option (Option OD)->R OD
 |some (some (.sh d))=>.ok (.sh d)
 |_=>.bad
noncomputable def opK (g:PyData->PyData->R OD):R OD->R OD->R OD
 |.ok x,.ok y=>g x.er y.er
 |.ok _,.ex c=>.ex c
 |.ok _,.bad=>.bad
 |.ex c,_=>.ex c
 |.bad,_=>.bad
noncomputable def unK {α β:Type} (g:α->R β):R α->R β
 |.ok x=>g x
 |.ex c=>.ex c
 |.bad=>.bad
noncomputable def Aw (r:R Bool) (b:Ft) (ρ:Env):R Bool:=match r with
 |.ok true=>b ρ
 |.ok false=>.ok false
 |.ex c=>.ex c
 |.bad=>.bad
noncomputable def orK (r:R Bool) (b:Ft) (ρ:Env):R Bool:=match r with
 |.ok true=>.ok true
 |.ok false=>b ρ
 |.ex c=>.ex c
 |.bad=>.bad
noncomputable def w8 (r:R Bool) (b:Fe) (ρ:Env):R OD:=match r with
 |.ok true=>b ρ
 |.ok false=>.ok (.sh (.bool false))
 |.ex c=>.ex c
 |.bad=>.bad
noncomputable def orV (r:R Bool) (b:Fe) (ρ:Env):R OD:=match r with
 |.ok true=>.ok (.sh (.bool true))
 |.ok false=>b ρ
 |.ex c=>.ex c
 |.bad=>.bad
noncomputable def ifV (r:R Bool) (a b:Fe) (ρ:Env):R OD:=match r with
 |.ok true=>a ρ
 |.ok false=>b ρ
 |.ex c=>.ex c
 |.bad=>.bad
noncomputable def ifK (r:R Bool) (a b:Fs) (ρ:Env):R Out:=match r with
 |.ok true=>a ρ
 |.ok false=>b ρ
 |.ex c=>.ex c
 |.bad=>.bad
noncomputable def tH:R OD->R (List OD)->R (List OD)
 |.ok x,.ok xs=>.ok (x :: xs)
 |.ok _,.ex c=>.ex c
 |.ok _,.bad=>.bad
 |.ex c,_=>.ex c
 |.bad,_=>.bad
noncomputable def sy (r:R Out) (b:Fs):R Out:=match r with
 |.ok (.nx ρ)=>b ρ
 |.ok o=>.ok o
 |.ex c=>.ex c
 |.bad=>.bad
noncomputable def CW (r:R OD) (g:Fg) (ρ:Env):R Out:=match r with
 |.ok x=>unK (fun ρ'=>.ok (.nx ρ')) (g x ρ)
 |.ex c=>.ex c
 |.bad=>.bad
noncomputable def DC (r:R (List PyData)) (g:Fg) (b:Fs) (ρ:Env):R Out:=match r with
 |.ok ds=>bG g b ds ρ
 |.ex c=>.ex c
 |.bad=>.bad
noncomputable def yk (r:R (List PyData)) (g:Fg) (t:Ft) (el:Fe) (ρ0:Env):R OD:=match r with
 |.ok ds=>unK (λxs=>.ok (.ol xs)) (e8 g t el ρ0 ds [])
 |.ex c=>.ex c
 |.bad=>.bad
noncomputable def slK (g:PyData->Option Int->Option Int->R OD) (a:R OD) (l h:R (Option Int)):R OD:=match a,l,h with
 |.ok x,.ok i,.ok j=>g x.er i j
 |.ok _,.ok _,.ex c=>.ex c
 |.ok _,.ok _,.bad=>.bad
 |.ok _,.ex c,_=>.ex c
 |.ok _,.bad,_=>.bad
 |.ex c,_,_=>.ex c
 |.bad,_,_=>.bad
noncomputable def Ct (a:R OD) (b:Fe) (ρ:Env):R OD:=match a with
 |.ok x=>match x.er with
  |.list ds=>unK (λy=>uV ds y.er) (b ρ)
  |_=>.bad
 |.ex c=>.ex c
 |.bad=>.bad
noncomputable def A0 (o:Option (Option OD)) (a:R OD) (i:Nat) (ρ:Env):R Out:=match o with
 |some (some (.ol xs))=>unK (λy=>if xs.length<BIG then .ok (.nx (ρ.set i (some (.ol (xs++[y]))))) else .bad) a
 |_=>.bad
noncomputable def vU:Option (Option OD)->R Out
 |some (some x)=>.ok (.rt x)
 |_=>.bad
noncomputable def AQ (o:Option (Option OD)) (i:Nat) (ρ:Env):Env:=match o with
 |some (some x)=>ρ.set i (some (.sh x.er))
 |_=>ρ
noncomputable def wQ:R Out->R OD
 |.ok (.rt x)=>.ok x
 |.ok (.nx _)=>.ok (.sh .none)
 |.ok (.bk _)=>.bad
 |.ok (.ct _)=>.bad
 |.ex c=>.ex c
 |.bad=>.bad
noncomputable def Az (o:Option (Option OD)) (g:PyData->PyData->R OD) (a:R OD) (i:Nat) (ρ:Env):R Out:=match o with
 |some (some (.sh d))=>unK (λy=>unK (λz=>.ok (.nx (ρ.set i (some z)))) (g d y.er)) a
 |_=>.bad
section
variable {ρ:Env} {a b:Fe} {s t:Ft} {p q:Fs}
theorem v_var (i:Nat):af i ρ=Aj ρ[i]?:=by
 unfold af Aj;rfl
theorem v_c (d:PyData):eC d ρ=.ok (.sh d):=rfl
theorem GL (g:PyData->PyData->R OD):eOp g a b ρ=opK g (a ρ) (b ρ):=by
 unfold eOp;cases a ρ <;> cases b ρ <;> rfl
theorem cH {α β:Type} (r:R α) (g:α->R β):r.bind g=unK g r:=by cases r <;> rfl
theorem F8 (g:PyData->R OD):eUn g a ρ=unK (λx=>g x.er) (a ρ):=cH _ _
theorem BK:aB a ρ=unK (λx=>truth x.er) (a ρ):=cH _ _
theorem zc:jC s t ρ=Aw (s ρ) t ρ:=by
 unfold jC;cases s ρ with
 |ok c=>cases c <;> rfl
 |ex c=>rfl
 |bad=>rfl
theorem Em:f_ s t ρ=orK (s ρ) t ρ:=by
 unfold f_;cases s ρ with
 |ok c=>cases c <;> rfl
 |ex c=>rfl
 |bad=>rfl
theorem yY:ej s ρ=unK (λc=>.ok (!c)) (s ρ):=cH _ _
noncomputable def tru (r:R OD):R Bool:=unK (λx=>truth x.er) r
theorem v_and:pT a b ρ=w8 (tru (a ρ)) b ρ:=by
 unfold pT tru;cases a ρ with
 |ok x =>
  show (truth x.er).bind _=w8 (truth x.er) b ρ
  cases truth x.er with
  |ok c=>cases c <;> rfl
  |ex c=>rfl
  |bad=>rfl
 |ex c=>rfl
 |bad=>rfl
theorem v_or:eOr a b ρ=orV (tru (a ρ)) b ρ:=by
 unfold eOr tru;cases a ρ with
 |ok x =>
  show (truth x.er).bind _=orV (truth x.er) b ρ
  cases truth x.er with
  |ok c=>cases c <;> rfl
  |ex c=>rfl
  |bad=>rfl
 |ex c=>rfl
 |bad=>rfl
theorem v_not:vH a ρ=unK (λc=>.ok (.sh (.bool (!c)))) (tru (a ρ)):=by
 unfold vH tru;cases a ρ with
 |ok x =>
  show (truth x.er).bind _=unK _ (truth x.er)
  exact cH _ _
 |ex c=>rfl
 |bad=>rfl
theorem F_:eIf s a b ρ=ifV (s ρ) a b ρ:=by
 unfold eIf;cases s ρ with
 |ok c=>cases c <;> rfl
 |ex c=>rfl
 |bad=>rfl
theorem zm:aF ρ=.ok []:=rfl
theorem xM {r:Fa}:aj a r ρ=tH (a ρ) (r ρ):=by
 unfold aj;cases a ρ <;> cases r ρ <;> rfl
theorem EK {r:Fa}:j9 r ρ=unK (λxs=>if xs.length<=BIG then .ok (mkT xs) else .bad) (r ρ):=cH _ _
theorem Df {r:Fa}:fM r ρ=unK (λxs=>if xs.length<=BIG then .ok (.ol xs) else .bad) (r ρ):=cH _ _
theorem yV {f:Fn} {r:Fa}:aR f r ρ=unK (λxs=>f (xs.map OD.er)) (r ρ):=cH _ _
theorem v_b {f:List PyData->R OD} {r:Fa}:eB f r ρ=unK (λxs=>f (xs.map OD.er)) (r ρ):=cH _ _
theorem GO:eSh a ρ=unK (λx=>.ok (.sh x.er)) (a ρ):=cH _ _
theorem v_bor:k7 a ρ=unK (λx=>if flat x.er=true then .ok (.sh x.er) else .bad) (a (erase ρ)):=cH _ _
theorem Bk:wL s ρ=s (erase ρ):=rfl
noncomputable def Ek:OD->R OD
 |.ol xs=>if xs.all (λy=>flat y.er)=true then .ok (.ol (xs.map λy=>.sh y.er)) else .bad
 |_=>.bad
theorem Bj:ye a ρ=unK Ek (a (erase ρ)):=by
 unfold ye;cases a (erase ρ) with
 |ok x=>cases x <;> rfl
 |ex c=>rfl
 |bad=>rfl
theorem E5:erase []=[]:=rfl
theorem ES (x:OD):erase (some x :: ρ)=some (.sh x.er) :: erase ρ:=rfl
theorem Fc:erase (none :: ρ)=none :: erase ρ:=rfl
theorem xD:fX ρ=.ok none:=rfl
noncomputable def vc:PyData->R (Option Int)
 |.int i=>.ok (some i)
 |_=>.bad
theorem xn:bM a ρ=unK (λx=>vc x.er) (a ρ):=by
 unfold bM;rw [cH];cases a ρ with
 |ok x =>
  show (match x.er with | .int i=>R.ok (some i) | _=>.bad)=vc x.er
  cases x.er <;> rfl
 |ex c=>rfl
 |bad=>rfl
theorem Gn {g:PyData->Option Int->Option Int->R OD} {l h:Fo}:eSl g a l h ρ=slK g (a ρ) (l ρ) (h ρ):=by
 unfold eSl;cases a ρ <;> cases l ρ <;> cases h ρ <;> rfl
noncomputable def lstK:PyData->R (List PyData)
 |.list ds=>.ok ds
 |_=>.bad
noncomputable def tupK:PyData->R (List PyData)
 |.tuple ds=>.ok ds
 |_=>.bad
noncomputable def r1K:PyData->R (List PyData)
 |.int j=>if bb j=true then .ok (jt 0 j.toNat) else .bad
 |_=>.bad
noncomputable def enK:PyData->R (List PyData)
 |.list ds=>.ok (jz ds)
 |_=>.bad
theorem zg:pI a ρ=unK (λx=>lstK x.er) (a ρ):=by
 unfold pI;rw [cH];cases a ρ with
 |ok x =>
  show (match x.er with | .list ds=>R.ok ds | _=>.bad)=lstK x.er
  cases x.er <;> rfl
 |ex c=>rfl
 |bad=>rfl
theorem Am:iTp a ρ=unK (λx=>tupK x.er) (a ρ):=by
 unfold iTp;rw [cH];cases a ρ with
 |ok x =>
  show (match x.er with | .tuple ds=>R.ok ds | _=>.bad)=tupK x.er
  cases x.er <;> rfl
 |ex c=>rfl
 |bad=>rfl
theorem Gq:iR1 a ρ=unK (λx=>r1K x.er) (a ρ):=by
 unfold iR1;rw [cH];cases a ρ with
 |ok x =>
  show (match x.er with | .int j=>if bb j=true then R.ok (jt 0 j.toNat) else .bad | _=>.bad)=r1K x.er
  cases x.er <;> rfl
 |ex c=>rfl
 |bad=>rfl
theorem GX:iEn a ρ=unK (λx=>enK x.er) (a ρ):=by
 unfold iEn;rw [cH];cases a ρ with
 |ok x =>
  show (match x.er with | .list ds=>R.ok (jz ds) | _=>.bad)=enK x.er
  cases x.er <;> rfl
 |ex c=>rfl
 |bad=>rfl
noncomputable def zt (g:PyData->PyData->R (List PyData)):R OD->R OD->R (List PyData)
 |.ok x,.ok y=>g x.er y.er
 |.ok _,.ex c=>.ex c
 |.ok _,.bad=>.bad
 |.ex c,_=>.ex c
 |.bad,_=>.bad
theorem GY:iR2 a b ρ=zt r2F (a ρ) (b ρ):=by
 unfold iR2;cases a ρ <;> cases b ρ <;> rfl
theorem Gg:iZp a b ρ=zt DH (a ρ) (b ρ):=by
 unfold iZp;cases a ρ <;> cases b ρ <;> rfl
theorem E3 (i:Nat) (x:OD):gNm i x ρ=.ok (ρ.set i (some x)):=rfl
theorem Ed:nA [] ρ=.ok ρ:=rfl
theorem CG {g:Fg} {r:Fgs} {x:OD} {xs:List OD}:ic g r (x :: xs) ρ=unK (fun ρ'=>r xs ρ') (g x ρ):=cH _ _
theorem C6 {n:Nat} {r:Fgs} {ds:List PyData}:gTp n r (.sh (.tuple ds)) ρ=if ds.length=n then r (ds.map OD.sh) ρ else .bad:=rfl
theorem FP {n:Nat} {r:Fgs} {xs:List OD}:gTp n r (.ot xs) ρ=if xs.length=n then r xs ρ else .bad:=rfl
theorem yW {it:Fi} {g:Fg} {k:Nat} {outs:List Nat}:gc it g t a k outs ρ=yk (it ρ) g t a (sl3 k outs ρ):=by
 unfold gc;cases it ρ with
 |ok ds=>exact cH _ _
 |ex c=>rfl
 |bad=>rfl
theorem Dq {k:Nat} {outs:List Nat}:sl3 k outs ρ=List.replicate k none++outs.map λi=>kL ρ[i]?:=rfl
theorem GR:sNx ρ=.ok (.nx ρ):=rfl
theorem Gu:sBk ρ=.ok (.bk ρ):=rfl
theorem GK:sCt ρ=.ok (.ct ρ):=rfl
theorem CS:aI p q ρ=sy (p ρ) q:=by
 unfold aI;cases p ρ with
 |ok o=>cases o <;> rfl
 |ex c=>rfl
 |bad=>rfl
theorem EI {g:Fg}:so a g ρ=CW (a ρ) g ρ:=by
 unfold so;cases a ρ with
 |ok x=>exact cH _ _
 |ex c=>rfl
 |bad=>rfl
theorem CL (i:Nat):aY i a ρ=unK (λx=>.ok (.nx (ρ.set i (some x)))) (a ρ):=cH _ _
theorem zB:i7 a ρ=unK (λ_=>.ok (.nx ρ)) (a ρ):=cH _ _
theorem DY:ba a ρ=unK (λx=>.ok (.rt x)) (a ρ):=cH _ _
theorem yQ:Di ρ=.ok (.rt (.sh .none)):=rfl
theorem zR (i:Nat):kl i ρ=vU ρ[i]?:=by
 unfold kl vU;rfl
theorem EU:sIf s p q ρ=ifK (s ρ) p q ρ:=by
 unfold sIf;cases s ρ with
 |ok c=>cases c <;> rfl
 |ex c=>rfl
 |bad=>rfl
theorem Eh (i:Nat):uq i p ρ=p (uf i ρ):=rfl
theorem yZ (i:Nat):uf i ρ=AQ ρ[i]? i ρ:=by
 unfold uf AQ;rfl
theorem FA (i:Nat) {g:PyData->PyData->R OD}:si i g a ρ=Az ρ[i]? g (a ρ) i ρ:=by
 unfold si Az;generalize ρ[i]?=o
 cases o with
 |none=>rfl
 |some o =>
  cases o with
  |none=>rfl
  |some x =>
   cases x with
   |sh d =>
    show ((a ρ).bind λy=>(g d y.er).bind λz=>R.ok (Out.nx (ρ.set i (some z))))=_
    rw [cH];show unK _ (a ρ)=unK _ (a ρ)
    first
     |done
     | (congr 1;funext y;exact cH _ _)
     | (congr 1)
   |ol xs=>rfl
   |ot xs=>rfl
   |od xs=>rfl
theorem E8 (i:Nat):ju i a ρ=A0 ρ[i]? (a ρ) i ρ:=by
 unfold ju A0;generalize ρ[i]?=o
 cases o with
 |none=>rfl
 |some o =>
  cases o with
  |none=>rfl
  |some x =>
   cases x with
   |sh d=>rfl
   |ol xs=>exact cH _ _
   |ot xs=>rfl
   |od xs=>rfl
theorem Fq {it:Fi} {g:Fg}:jM it g p ρ=DC (it ρ) g p ρ:=by
 unfold jM;cases it ρ <;> rfl
theorem CJ (T:String):mM T a ρ=unK (λx=>gy T x.er) (a ρ):=cH _ _
theorem Cy:FI a b ρ=Ct (a ρ) b ρ:=by
 unfold FI;cases a ρ with
 |ok x =>
  show (match x.er with | .list ds=>(b ρ).bind λy=>uV ds y.er | _=>.bad)=(match x.er with | .list ds=>unK (λy=>uV ds y.er) (b ρ) | _=>.bad)
  cases x.er with
  |list ds=>exact cH _ _
  |_=>rfl
 |ex c=>rfl
 |bad=>rfl
theorem FU {np n:Nat} {ds:List PyData}:bx np n p ds=if ds.length=np then wQ (p (kg n ds)) else .bad:=by
 unfold bx;congr 1
 cases p (kg n ds) with
 |ok o=>cases o <;> rfl
 |ex c=>rfl
 |bad=>rfl
theorem yd (d:PyData):Aj (some (some (.sh d)))=.ok (.sh d):=rfl
theorem Gf {g:PyData->PyData->R OD} {x y:OD}:opK g (.ok x) (.ok y)=g x.er y.er:=rfl
theorem Fh {g:PyData->PyData->R (List PyData)} {x y:OD}:zt g (.ok x) (.ok y)=g x.er y.er:=rfl
theorem Ge {α β:Type} {g:α->R β} {x:α}:unK g (.ok x)=g x:=rfl
theorem C0 {α β:Type} {g:α->R β} {c:Str}:unK g (.ex c)=.ex c:=rfl
theorem BO:Aw (.ok true) t ρ=t ρ:=rfl
theorem AE:Aw (.ok false) t ρ=.ok false:=rfl
theorem EW:orK (.ok true) t ρ=.ok true:=rfl
theorem EH:orK (.ok false) t ρ=t ρ:=rfl
theorem xx:w8 (.ok true) a ρ=a ρ:=rfl
theorem xh:w8 (.ok false) a ρ=.ok (.sh (.bool false)):=rfl
theorem B0:orV (.ok true) a ρ=.ok (.sh (.bool true)):=rfl
theorem Bo:orV (.ok false) a ρ=a ρ:=rfl
theorem Aq:ifV (.ok true) a b ρ=a ρ:=rfl
theorem Cj:ifV (.ok false) a b ρ=b ρ:=rfl
theorem Es:ifK (.ok true) p q ρ=p ρ:=rfl
theorem Fz:ifK (.ok false) p q ρ=q ρ:=rfl
theorem zK {x:OD} {xs:List OD}:tH (.ok x) (.ok xs)=.ok (x :: xs):=rfl
theorem EA:sy (.ok (.nx ρ)) p=p ρ:=rfl
theorem zy {x:OD}:sy (.ok (.rt x)) p=.ok (.rt x):=rfl
theorem Ai:sy (.ok (.ct ρ)) p=.ok (.ct ρ):=rfl
theorem BX:sy (.ok (.bk ρ)) p=.ok (.bk ρ):=rfl
theorem Cz {x:OD} {g:Fg}:CW (.ok x) g ρ=unK (fun ρ'=>.ok (.nx ρ')) (g x ρ):=rfl
theorem EV {ds:List PyData} {g:Fg}:DC (.ok ds) g p ρ=bG g p ds ρ:=rfl
theorem Bu {ds:List PyData} {g:Fg}:yk (.ok ds) g t a ρ=unK (λxs=>.ok (.ol xs)) (e8 g t a ρ ds []):=rfl
theorem GC {g:PyData->Option Int->Option Int->R OD} {x:OD} {i j:Option Int}:slK g (.ok x) (.ok i) (.ok j)=g x.er i j:=rfl
theorem CB {xs:List OD} {y:OD} {i:Nat}:A0 (some (some (.ol xs))) (.ok y) i ρ=if xs.length<BIG then .ok (.nx (ρ.set i (some (.ol (xs++[y]))))) else .bad:=rfl
theorem AR {x:OD}:vU (some (some x))=.ok (.rt x):=rfl
theorem FL {x:OD} {i:Nat}:AQ (some (some x)) i ρ=ρ.set i (some (.sh x.er)):=rfl
theorem AL {x:OD}:wQ (.ok (.rt x))=.ok x:=rfl
theorem ze:wQ (.ok (.nx ρ))=.ok (.sh .none):=rfl
theorem DD (x:OD):tru (.ok x)=truth x.er:=rfl
theorem wj (c:Bool):truth (.bool c)=.ok c:=rfl
theorem FY {ds:List PyData}:Ct (.ok (.sh (.list ds))) b ρ=unK (λy=>uV ds y.er) (b ρ):=rfl
theorem EZ {d:PyData} {g:PyData->PyData->R OD} {y:OD} {i:Nat}:Az (some (some (.sh d))) g (.ok y) i ρ=unK (λz=>.ok (.nx (ρ.set i (some z)))) (g d y.er):=rfl
theorem C9 (ds:List PyData):lstK (.list ds)=.ok ds:=rfl
theorem Ej (ds:List PyData):tupK (.tuple ds)=.ok ds:=rfl
theorem GU (ds:List PyData):enK (.list ds)=.ok (jz ds):=rfl
theorem Gr (j:Int):r1K (.int j)=if bb j=true then .ok (jt 0 j.toNat) else .bad:=rfl
theorem GZ (i j:Int):r2F (.int i) (.int j)=if (bb i && bb j)=true then .ok (jt i (j-i).toNat) else .bad:=rfl
theorem DR (ds es:List PyData):DH (.list ds) (.list es)=.ok (yP ds es):=rfl
theorem Ah (i:Int):vc (.int i)=.ok (some i):=rfl
theorem BA (n:Nat) (ds:List PyData):kg n ds=(ds.map λd=>some (OD.sh d))++List.replicate (n-ds.length) none:=rfl
theorem Du (d:PyData):kL (some (some (.sh d)))=some (.sh d):=rfl
theorem Dh:kL (some none)=none:=rfl
theorem Bp (xs:List OD):kL (some (some (.ol xs)))=none:=rfl
theorem Dk (d:PyData):mkT [.sh d]=.sh (.tuple [d]):=rfl
theorem CA (d e:PyData):mkT [.sh d,.sh e]=.sh (.tuple [d,e]):=rfl
theorem CF (d e f:PyData):mkT [.sh d,.sh e,.sh f]=.sh (.tuple [d,e,f]):=rfl
theorem Eu (d e f g:PyData):mkT [.sh d,.sh e,.sh f,.sh g]=.sh (.tuple [d,e,f,g]):=rfl
theorem Ee (i j:Int):aO (.int i) (.int j)=.ok (.sh (.int (i+j))):=rfl
theorem EF (i j:Int):g4 (.int i) (.int j)=.ok (.sh (.int (i-j))):=rfl
theorem C5 (i j:Int):jH (.int i) (.int j)=if iR i j=true then .ok (.sh (.int (i * j))) else .bad:=rfl
theorem Ep (i j:Int):dM (.int i) (.int j)=if 0<j then .ok (.sh (.int (i % j))) else .bad:=rfl
theorem EN (i j:Int):gG (.int i) (.int j)=if 0<j/\j<1073741824 then .ok (.sh (.int (i / j))) else .bad:=rfl
theorem Er (i j:Int):Gw (.int i) (.int j)=if 0<=j/\j<=1000000/\i.natAbs<2 ^ 64 then .ok (.sh (.int (i ^ j.toNat))) else .bad:=rfl
theorem Ey (i:Int):jv (.int i)=.ok (.sh (.int (-i))):=rfl
theorem GV (i j:Int):gLt (.int i) (.int j)=.ok (.sh (.bool (decide (i<j)))):=rfl
theorem GA (i j:Int):gLe (.int i) (.int j)=.ok (.sh (.bool (decide (i<=j)))):=rfl
theorem G5 (i j:Int):gGt (.int i) (.int j)=.ok (.sh (.bool (decide (j<i)))):=rfl
theorem Gj (i j:Int):gGe (.int i) (.int j)=.ok (.sh (.bool (decide (j<=i)))):=rfl
theorem Gp (i j:Int):gEq (.int i) (.int j)=.ok (.sh (.bool (decide (i=j)))):=rfl
theorem Ga (i j:Int):gNe (.int i) (.int j)=.ok (.sh (.bool (!decide (i=j)))):=rfl
theorem Bm (i j:Int):rD (.int i) (.int j)=.ok (.sh (.int (i+j))):=rfl
theorem E2 (xs:List PyData) (i:Int):gIx (.list xs) (.int i)=jA (atI xs i):=rfl
theorem CP (xs:List PyData) (i:Int):gIx (.tuple xs) (.int i)=jA (atI xs i):=rfl
theorem zz (xs:List PyData):cg [.list xs]=.ok (.sh (.int xs.length)):=rfl
theorem Av (xs:List PyData):cg [.tuple xs]=.ok (.sh (.int xs.length)):=rfl
theorem BM (x:Str):cg [.str x]=if x.length<=BIG then .ok (.sh (.int x.length)) else .bad:=rfl
theorem BN (i j:Int):pf [.int i,.int j]=.ok (.sh (.int (if j<i then j else i))):=rfl
theorem Ca (i j:Int):pJ [.int i,.int j]=.ok (.sh (.int (if i<j then j else i))):=rfl
theorem BL (n:Int) (ns:List Int):nF [.list (PyData.int n :: ns.map PyData.int)]=.ok (.sh (.int (nM n ns))):=by
 show (match gC ((n :: ns).map PyData.int) with | some (n :: ns)=>oI (nM n ns) | _=>.bad)=_
 rw [kO];rfl
theorem Au (ds:List PyData):ke [.list ds]=.ok (.ol (ds.map OD.sh)):=rfl
theorem En (i:Int):sC [.int i]=.ok (.sh (.int i)):=rfl
theorem Ar (c:Bool):sC [.bool c]=.ok (.sh (.int (if c then 1 else 0))):=rfl
theorem EG (xs:List PyData) (i j:Option Int):xC (.list xs) i j=.ok (.ol ((cutD xs i j).map OD.sh)):=rfl
theorem Bf (d:PyData):jA (some d)=.ok (.sh d):=rfl
theorem at0 {α:Type} (x:α) (xs:List α):atI (x :: xs) 0=some x:=by
 have:atI (x :: xs) ((0:Nat):Int)=some x:=hG rfl;exact this
theorem at1 {α:Type} (x y:α) (xs:List α):atI (x :: y :: xs) 1=some y:=by
 have:atI (x :: y :: xs) ((1:Nat):Int)=some y:=hG rfl;exact this
theorem at2 {α:Type} (x y z:α) (xs:List α):atI (x :: y :: z :: xs) 2=some z:=by
 have:atI (x :: y :: z :: xs) ((2:Nat):Int)=some z:=hG rfl;exact this
theorem FF (c:Bool):oB c=.ok (.sh (.bool c)):=rfl
end
theorem w4 {i j:Int} (h1:-18446744073709551616<i) (h2:i<18446744073709551616):iR i j=true:=by
 unfold iR;rw [Bool.or_eq_true,Zu,decide_eq_true_eq,decide_eq_true_eq];exact .inl ⟨by lia,by lia⟩
theorem G0 {i j:Int} (h1:-18446744073709551616<j) (h2:j<18446744073709551616):iR i j=true:=by
 unfold iR;rw [Bool.or_eq_true,Zu,Zu,decide_eq_true_eq,decide_eq_true_eq,decide_eq_true_eq,decide_eq_true_eq];exact .inr ⟨by lia,by lia⟩
theorem qu {i:Int} (h1:-4611686018427387904<=i) (h2:i<4611686018427387904):bb i=true:=fY.mpr ⟨by lia,by lia⟩
theorem mw {n:Nat} (h:n<1000):(n<BIG)=True:=eq_true (ZG h (by decide))
theorem aN {n:Nat} (h:n<=1000):(n<=BIG)=True:=eq_true (ZE h (by decide))
theorem dF (i:Int) {j:Int} (h:0<j):0<=i % j/\i % j<j:=⟨Int.emod_nonneg _ (by lia),Int.emod_lt_of_pos _ h⟩
theorem kB {α:Type} (xs:List α) (i:Int) (h0:0<=i) (h1:i<xs.length):∃x,xs[i.toNat]?=some x/\atI xs i=some x:=by
 obtain ⟨j,rfl⟩:∃j:Nat,i=j:=⟨i.toNat,by lia⟩
 have hj:j<xs.length:=by lia
 exact ⟨xs[j],by simp [hj],hG (by simp [hj])⟩
theorem vf {g:Fg} {b:Fs} {ds:List PyData} {ρ:Env} {r:R Out} (hL:bG g b ds ρ=r) (S:Nat->Env->Prop) (h0:S 0 ρ) (st:∀(i:Nat) (d:PyData) (ρ:Env),ds[i]?=some d->S i ρ->∃ρ1 ρ2,g (.sh d) ρ=.ok ρ1/\(b ρ1=.ok (.nx ρ2)\/b ρ1=.ok (.ct ρ2))/\S (i+1) ρ2) :
  ∃ρ',r=.ok (.nx ρ')/\S ds.length ρ':=by
 obtain ⟨ρ',e,h⟩:=sQ S h0 st;exact ⟨ρ',by rw [<-hL,e],h⟩
noncomputable def kI (S:Env->Prop):R Out->Prop
 |.ok (.nx ρ)=>S ρ
 |.ok (.ct ρ)=>S ρ
 |_=>False
theorem Ez {S:Env->Prop} {ρ:Env}:kI S (.ok (.nx ρ))=S ρ:=rfl
theorem Cm {S:Env->Prop} {ρ:Env}:kI S (.ok (.ct ρ))=S ρ:=rfl
theorem rq {S:Env->Prop} {b:Fs} {r:R Env} (h:kI S (unK b r)):∃ρ1 ρ2,r=.ok ρ1/\(b ρ1=.ok (.nx ρ2)\/b ρ1=.ok (.ct ρ2))/\S ρ2:=by
 cases r with
 |ok ρ1 =>
  have h':kI S (b ρ1):=h;cases hb:b ρ1 with
  |ok o =>
   rw [hb]at h';cases o with
   |nx ρ2=>exact ⟨ρ1,ρ2,rfl,.inl hb,h'⟩
   |ct ρ2=>exact ⟨ρ1,ρ2,rfl,.inr hb,h'⟩
   |bk _=>exact h'.elim
   |rt _=>exact h'.elim
  |ex _=>rw [hb]at h';exact h'.elim
  |bad=>rw [hb]at h';exact h'.elim
 |ex c=>exact h.elim
 |bad=>exact h.elim
theorem oJ {P:Prop} {g:Fg} {b:Fs} {ds:List PyData} {ρ:Env} {r:R Out} (hL:bG g b ds ρ=r) (S:Nat->Env->Prop) (h0:S 0 ρ) (st:∀(i:Nat) (d:PyData) (ρ:Env),ds[i]?=some d->S i ρ->kI (S (i+1)) (unK b (g (.sh d) ρ)))
  (fin:∀ρ',r=.ok (.nx ρ')->S ds.length ρ'->P):P:=by
 obtain ⟨ρ',e,h⟩:=vf hL S h0 λi d ρ hd hS=>by
  obtain ⟨ρ1,ρ2,a,b,c⟩:=rq (st i d ρ hd hS);exact ⟨ρ1,ρ2,a,b,c⟩
 exact fin ρ' e h
theorem oV {P:Prop} {t:Ft} {b:Fs} {ρ:Env} {r:R Out} (hL:cM t b ρ=r) (I:Nat->Env->Prop) (m:Nat) (h0:I m ρ) (Q:Env->Prop) (st:∀m ρ,I m ρ->(t ρ=.ok false/\Q ρ)\/(t ρ=.ok true/\kI (fun ρ2=>∃m',m'<m/\I m' ρ2) (b ρ)))
  (fin:∀ρ',r=.ok (.nx ρ')->Q ρ'->P):P:=by
 obtain ⟨ρ',e,h⟩:=sv I Q (λm ρ hI=>by
  rcases st m ρ hI with h | ⟨h1,h2⟩
  ·exact .inl h
  ·obtain ⟨ρ1,ρ2,a,b,m',c,d⟩:=rq (r:=.ok ρ) h2
   cases a;exact .inr ⟨h1,ρ2,m',b,c,d⟩) m ρ h0
 exact fin ρ' (by rw [<-hL,e]) h
noncomputable def DV (o:Option (Option OD)) (a k:R OD) (i:Nat) (ρ:Env):R Out:=match o with
 |some (some (.ol xs))=>unK (λy=>unK (λz=>match z.er with
  |.int q=>match ixN xs.length q with
   |some j=>.ok (.nx (ρ.set i (some (.ol (xs.set j y)))))
   |none=>.bad
  |_=>.bad) k) a
 |_=>.bad
theorem qx {β:Type} (o:Option (Option OD)):o=none\/o=some none\/(∃d,o=some (some (.sh d)))\/(∃xs,o=some (some (.ol xs)))\/(∃xs,o=some (some (.ot xs)))\/∃xs,o=some (some (.od xs)):=by
 cases o with
 |none=>exact .inl rfl
 |some o =>
  cases o with
  |none=>exact .inr (.inl rfl)
  |some x =>
   cases x with
   |sh d=>exact .inr (.inr (.inl ⟨d,rfl⟩))
   |ol xs=>exact .inr (.inr (.inr (.inl ⟨xs,rfl⟩)))
   |ot xs=>exact .inr (.inr (.inr (.inr (.inl ⟨xs,rfl⟩))))
   |od xs=>exact .inr (.inr (.inr (.inr (.inr ⟨xs,rfl⟩))))
section
variable {ρ:Env} {a b k:Fe} {s t:Ft} {p q:Fs}
theorem v_sub (i:Nat):E_ i k a ρ=DV ρ[i]? (a ρ) (k ρ) i ρ:=by
 unfold E_ DV;generalize ρ[i]?=o
 rcases qx (β:=Nat) o with rfl | rfl | ⟨d,rfl⟩ | ⟨xs,rfl⟩ | ⟨xs,rfl⟩ | ⟨xs,rfl⟩
 ·rfl
 ·rfl
 ·rfl
 ·cases a ρ <;> cases k ρ <;> rfl
 ·rfl
 ·rfl
noncomputable def Ay (o:Option (Option OD)) (i:Nat) (ρ:Env):R Out:=match o with
 |some (some (.ol xs))=>.ok (.nx (ρ.set i (some (.ol xs.reverse))))
 |_=>.bad
noncomputable def zW (o:Option (Option OD)) (i:Nat) (ρ:Env):R Out:=match o with
 |some (some (.ol xs))=>.ok (.nx (ρ.set i (some (.ol []))))
 |_=>.bad
theorem CC (i:Nat):FW i ρ=Ay ρ[i]? i ρ:=by unfold FW Ay;rfl
theorem EY (i:Nat):Dy i ρ=zW ρ[i]? i ρ:=by unfold Dy zW;rfl
theorem Eb {xs:List OD} {i:Nat}:Ay (some (some (.ol xs))) i ρ=.ok (.nx (ρ.set i (some (.ol xs.reverse)))):=rfl
theorem ED {xs:List OD} {i:Nat}:zW (some (some (.ol xs))) i ρ=.ok (.nx (ρ.set i (some (.ol [])))):=rfl
noncomputable def wu (o:Option (Option OD)) (g:Fg) (i:Nat) (ρ:Env):R Out:=match o with
 |some (some (.ol xs))=>match xs.getLast? with
  |some (.sh d)=>unK (fun ρ'=>.ok (.nx ρ')) (g (.sh d) (ρ.set i (some (.ol xs.dropLast))))
  |_=>.bad
 |_=>.bad
theorem Cw (i:Nat) {g:Fg}:ET i g ρ=wu ρ[i]? g i ρ:=by
 unfold ET wu;generalize ρ[i]?=o
 rcases qx (β:=Nat) o with rfl | rfl | ⟨d,rfl⟩ | ⟨xs,rfl⟩ | ⟨xs,rfl⟩ | ⟨xs,rfl⟩
 ·rfl
 ·rfl
 ·rfl
 ·show (match xs.getLast? with
   |some (.sh d)=>(g (.sh d) (ρ.set i (some (.ol xs.dropLast)))).bind fun ρ'=>R.ok (Out.nx ρ')
   |_=>.bad)=(match xs.getLast? with
   |some (.sh d)=>unK (fun ρ'=>R.ok (Out.nx ρ')) (g (.sh d) (ρ.set i (some (.ol xs.dropLast))))
   |_=>R.bad)
  cases xs.getLast? with
  |none=>rfl
  |some x =>
   cases x with
   |sh d=>exact cH _ _
   |ol _=>rfl
   |ot _=>rfl
   |od _=>rfl
 ·rfl
 ·rfl
theorem FE {xs:List OD} {d:PyData} {i:Nat} {g:Fg}:wu (some (some (.ol (xs++[.sh d])))) g i ρ=unK (fun ρ'=>R.ok (Out.nx ρ')) (g (.sh d) (ρ.set i (some (.ol xs)))):=by
 have h1:(xs++[OD.sh d]).getLast?=some (.sh d):=by simp
 unfold wu;simp only [h1,List.dropLast_concat]
noncomputable def BE (o:Option (Option OD)) (a:R OD) (i:Nat) (ρ:Env):R Out:=match o with
 |some (some (.ol xs))=>unK (λy=>match y with
  |.ol ys=>if xs.length+ys.length<=BIG then .ok (.nx (ρ.set i (some (.ol (xs++ys))))) else .bad
  |_=>.bad) a
 |_=>.bad
theorem Dv (i:Nat):DQ i a ρ=BE ρ[i]? (a ρ) i ρ:=by
 unfold DQ BE;generalize ρ[i]?=o
 rcases qx (β:=Nat) o with rfl | rfl | ⟨d,rfl⟩ | ⟨xs,rfl⟩ | ⟨xs,rfl⟩ | ⟨xs,rfl⟩
 ·rfl
 ·rfl
 ·rfl
 ·cases a ρ with
  |ok y=>cases y <;> rfl
  |ex c=>rfl
  |bad=>rfl
 ·rfl
 ·rfl
theorem Fj {xs ys:List OD} {i:Nat}:BE (some (some (.ol xs))) (.ok (.ol ys)) i ρ=if xs.length+ys.length<=BIG then .ok (.nx (ρ.set i (some (.ol (xs++ys))))) else .bad:=rfl
end
theorem zd {α:Type} {g:Fg} {el:Fe} {ρ0:Env} {ds:List PyData} {r:R (List OD)} (hL:e8 g o9 el ρ0 ds []=r) (emb:α->PyData) (y:α->OD) (L:List α) (e:ds=L.map emb) (hl:L.length<=BIG) (h:∀x∈L,unK el (g (.sh (emb x)) ρ0)=.ok (y x)):r=.ok (L.map y):=by
 subst e;rw [<-hL];have go:∀(L:List α) (acc:List OD),(∀x∈L,unK el (g (.sh (emb x)) ρ0)=.ok (y x))->acc.length+L.length<=BIG->e8 g o9 el ρ0 (L.map emb) acc=.ok (acc++L.map y):=by
  intro L
  induction L with
  |nil=>intro acc _ _;rw [List.map_nil,e8,List.map_nil,Zw]
  |cons x L ih =>
   intro acc h hl;have hx:=h x Zf;rw [Zq]at hl;rw [Zj,e8];cases hg:g (.sh (emb x)) ρ0 with
   |ok ρ =>
    rw [hg]at hx;have hx':el ρ=.ok (y x):=hx;simp only [nT,a9,o9,if_true,hx'];rw [if_pos (by lia),ih (acc++[y x]) (λz hz=>h z (Ze _ hz)) (by rw [Zd,List.length_singleton];lia),Zj,ZB]
    rfl
   |ex c=>rw [hg]at hx;cases hx
   |bad=>rw [hg]at hx;cases hx
 rw [go L [] h (by simpa using hl)]
 rfl
theorem wM {α:Type} {g:Fg} {t:Ft} {el:Fe} {ρ0:Env} {ds:List PyData} {r:R (List OD)} (hL:e8 g t el ρ0 ds []=r) (emb:α->PyData) (p:α->Bool) (y:α->OD) (L:List α) (e:ds=L.map emb) (hl:L.length<=BIG) (h:∀x∈L,unK t (g (.sh (emb x)) ρ0)=.ok (p x)/\(p x=true->unK el (g (.sh (emb x)) ρ0)=.ok (y x))):r=.ok ((L.filter p).map y):=by
 subst e;rw [<-hL];have go:∀(L:List α) (acc:List OD),(∀x∈L,unK t (g (.sh (emb x)) ρ0)=.ok (p x)/\(p x=true->unK el (g (.sh (emb x)) ρ0)=.ok (y x)))->acc.length+L.length<=BIG->e8 g t el ρ0 (L.map emb) acc=.ok (acc++(L.filter p).map y):=by
  intro L
  induction L with
  |nil=>intro acc _ _;rw [List.map_nil,e8,List.filter_nil,List.map_nil,Zw]
  |cons x L ih =>
   intro acc h hl;obtain ⟨hx,hy⟩:=h x Zf;rw [Zq]at hl;rw [Zj,e8];cases hg:g (.sh (emb x)) ρ0 with
   |ok ρ =>
    rw [hg]at hx hy;have hx':t ρ=.ok (p x):=hx;have hy':p x=true->el ρ=.ok (y x):=hy;simp only [nT,a9,hx'];by_cases hp:p x=true
    ·rw [if_pos hp,hy' hp]
     simp only [a9];rw [if_pos (by lia),ih (acc++[y x]) (λz hz=>h z (Ze _ hz)) (by rw [Zd,List.length_singleton];lia),List.filter_cons_of_pos hp,Zj,ZB]
     rfl
    ·rw [if_neg hp,ih acc (λz hz=>h z (Ze _ hz)) (by lia),List.filter_cons_of_neg hp]
   |ex c=>rw [hg]at hx;cases hx
   |bad=>rw [hg]at hx;cases hx
 rw [go L [] h (by simpa using hl)]
 rfl
noncomputable def lay (n:Nat) (d:PyData):Prop:=d.canLay0=true/\d.depth<=n
theorem oo (i:Int):lay 0 (.int i):=⟨rfl,Zm _⟩
theorem oK {x:Str} (h:PyData.strOk x=true):lay 0 (.str x):=⟨h,Zm _⟩
theorem oE {n:Nat}:∀{xs:List PyData},(∀x∈xs,lay n x)->PyData.canLayAll0 xs=true/\PyData.depthAll xs<=n
 |[],_=>⟨rfl,Nat.zero_le _⟩
 |x :: xs,h=>by
  obtain ⟨a1,a2⟩:=h x Zf;obtain ⟨b1,b2⟩:=oE (xs:=xs) λy hy=>h y (Ze _ hy)
  unfold PyData.canLayAll0 PyData.depthAll;rw [a1,b1];exact ⟨rfl,by lia⟩
theorem kn {n:Nat} {xs:List PyData} (h:∀x∈xs,lay n x):lay (n+1) (.list xs):=by
 obtain ⟨b1,b2⟩:=oE h;refine ⟨by unfold PyData.canLay0;exact b1,?_⟩
 unfold PyData.depth
 lia
theorem mZ {n:Nat} {xs:List PyData} (h:∀x∈xs,lay n x):lay (n+1) (.tuple xs):=by
 obtain ⟨b1,b2⟩:=oE h;refine ⟨by unfold PyData.canLay0;exact b1,?_⟩
 unfold PyData.depth
 lia
theorem iH {n:Nat} {d:PyData} (h:lay n d) (hn:n<=64):SeqAt.shaped d=true:=by
 unfold SeqAt.shaped;rw [Zu];exact ⟨h.1,decide_eq_true (ZE h.2 hn)⟩
theorem o7 (a b:List PyData):eqD (.list a) (.list b)=jK (.list a) (.list b):=rfl
theorem nu (a b:List PyData):eqD (.tuple a) (.tuple b)=jK (.tuple a) (.tuple b):=rfl
theorem kx {n:Nat} {d:PyData} (h:lay n d) (hn:n<=64):jK d d=.ok true:=by
 unfold jK;rw [iH h hn,Bool.and_self,if_pos rfl,SeqAt.eqv_refl _ (SeqAt.canLay_of_shaped (iH h hn))]
theorem vo {n:Nat} {a:List PyData} (h:lay n (.list a)) (hn:n<=64:=by decide):gEq (.list a) (.list a)=.ok (.sh (.bool true)):=by
 unfold gEq;rw [o7,kx h hn];rfl
theorem Cr (z:Str) (i:Int):gIx (.str z) (.int i)=if z.length<=BIG then jA ((atI z.cps.toList i).map λc=>.str ⟨#[c]⟩) else .bad:=rfl
theorem AN (x y:Str):aO (.str x) (.str y)=if x.length+y.length<=BIG then .ok (.sh (.str (x++y))) else .bad:=rfl
theorem zq (x y:List PyData):aO (.list x) (.list y)=if x.length+y.length<=BIG then .ok (.ol ((x++y).map OD.sh)) else .bad:=rfl
theorem zf (xs:List PyData) (k:Int):jH (.list xs) (.int k)=if (decide (-(2 ^ 63)<=k) && decide (k<2 ^ 63) && decide (xs.length * k.toNat<=BIG))=true then .ok (.ol ((List.replicate k.toNat xs).flatten.map OD.sh)) else .bad:=rfl
theorem wF (x:PyData) (n:Nat) (h:n<=1000):jH (.list [x]) (.int n)=.ok (.ol ((List.replicate n x).map OD.sh)):=by
 rw [zf,if_pos]
 ·rw [Int.toNat_natCast]
  congr 2
  induction n with
  |zero=>rfl
  |succ n ih=>rw [List.replicate_succ,List.flatten_cons,Zk,ih (by lia),List.replicate_succ,Zj];rfl
 ·rw [Zu,Zu,decide_eq_true_eq,decide_eq_true_eq,decide_eq_true_eq]
  refine ⟨⟨by lia,by lia⟩,?_⟩
  rw [Int.toNat_natCast,List.length_singleton,Nat.one_mul];exact of_eq_true (aN h)
theorem C_ (x y:Str):gEq (.str x) (.str y)=.ok (.sh (.bool (decide (x=y)))):=rfl
theorem DZ (x y:Str):gNe (.str x) (.str y)=.ok (.sh (.bool (!decide (x=y)))):=rfl
noncomputable def m9 (S:Env->Prop) (T:OD->Prop):R Out->Prop
 |.ok (.nx ρ)=>S ρ
 |.ok (.ct ρ)=>S ρ
 |.ok (.rt x)=>T x
 |_=>False
theorem Fu {S:Env->Prop} {T:OD->Prop} {ρ:Env}:m9 S T (.ok (.nx ρ))=S ρ:=rfl
theorem FD {S:Env->Prop} {T:OD->Prop} {ρ:Env}:m9 S T (.ok (.ct ρ))=S ρ:=rfl
theorem Co {S:Env->Prop} {T:OD->Prop} {x:OD}:m9 S T (.ok (.rt x))=T x:=rfl
theorem lZ {P:Prop} {g:Fg} {b:Fs} {ds:List PyData} {ρ:Env} {r:R Out} (hL:bG g b ds ρ=r) (S:Nat->Env->Prop) (T:OD->Prop) (h0:S 0 ρ) (st:∀(i:Nat) (d:PyData) (ρ:Env),ds[i]?=some d->S i ρ->m9 (S (i+1)) T (unK b (g (.sh d) ρ)))
  (fin:∀ρ',r=.ok (.nx ρ')->S ds.length ρ'->P) (fin2:∀x,r=.ok (.rt x)->T x->P):P:=by
 have go:∀(es:List PyData) (k:Nat) (ρ:Env),S k ρ->(∀(i:Nat) (d:PyData) (ρ:Env),es[i]?=some d->S (k+i) ρ->m9 (S (k+i+1)) T (unK b (g (.sh d) ρ)))->(∃ρ',bG g b es ρ=.ok (.nx ρ')/\S (k+es.length) ρ')\/∃x,bG g b es ρ=.ok (.rt x)/\T x:=by
  intro es
  induction es with
  |nil=>exact λk ρ h _=>.inl ⟨ρ,rfl,h⟩
  |cons d es ih =>
   intro k ρ h st;have h1:=st 0 d ρ rfl h;rw [bG];cases hg:g (.sh d) ρ with
   |bad=>rw [hg]at h1;exact h1.elim
   |ex c=>rw [hg]at h1;exact h1.elim
   |ok ρ1 =>
    rw [hg]at h1;have h2:m9 (S (k+0+1)) T (b ρ1):=h1;rw [a9];cases hb:b ρ1 with
    |bad=>rw [hb]at h2;exact h2.elim
    |ex c=>rw [hb]at h2;exact h2.elim
    |ok o =>
     rw [hb]at h2;rw [a9];have nxt:∀ρ2,S (k+1) ρ2->(∃ρ',bG g b es ρ2=.ok (.nx ρ')/\S (k+(d :: es).length) ρ')\/∃x,bG g b es ρ2=.ok (.rt x)/\T x:=fun ρ2 h3=>by
      have:=ih (k+1) ρ2 h3 λi d' ρ hd hi=>by
       have:=st (i+1) d' ρ (by simpa using hd) (by rw [show k+(i+1)=k+1+i by lia];exact hi)
       rw [show k+(i+1)+1=k+1+i+1 by lia]at this
       exact this
      rw [Zq,show k+(es.length+1)=k+1+es.length by lia]
      exact this
     cases o with
     |nx ρ2=>exact nxt ρ2 h2
     |ct ρ2=>exact nxt ρ2 h2
     |bk _=>exact h2.elim
     |rt x=>exact .inr ⟨x,rfl,h2⟩
 rcases go ds 0 ρ h0 λi d ρ hd hi=>by rw [Nat.zero_add]at hi ⊢;exact st i d ρ hd hi with ⟨ρ',e,h⟩ | ⟨x,e,h⟩
 ·rw [Nat.zero_add]at h
  exact fin ρ' (by rw [<-hL,e]) h
 ·exact fin2 x (by rw [<-hL,e]) h
theorem rV {n:Nat} {a:List PyData} (h:lay n (.tuple a)) (hn:n<=64:=by decide):gNe (.tuple a) (.tuple a)=.ok (.sh (.bool false)):=by
 unfold gNe;rw [nu,kx h hn];rfl
end L3
namespace L3
open PySem L2 PySem.Spec PyProof.Rows
section
variable {X:Cx} {tg:Expr}
end
section
variable {M:Mx} {n:Nat} {H:Hp} {σ:St} {R':It->Hp->Prop} {X:Cx} {a b c e:Expr} {fa fb fc:Fe} {pos:Pos} {D:Ends}
end
section
variable {M:Mx} {n:Nat} {σ:L3.St} {H:Hp} {D:Ends}
end
section
variable {M:Mx} {X:Cx} {e b:Expr} {fa:Fe} {x y:Str} {p p1 p2 p3 pos pos':Pos}
end
section
variable {K:PySem.W.Frag} {F H:Hp}
end
section
variable {M:Mx} {n:Nat} {σ:L3.St} {H:Hp} {D:Ends} {Q:VK} {fa fb:Fe}
end
section
variable {M:Mx} {X:Cx} {a b e:Expr} {fa fb:Fe} {x:Str} {p pos pos':Pos}
end
section
variable {ρ:Env} {a b k:Fe}
end
noncomputable def gb (x:PyData) (lo hi:Option Int):R OD:=match x with
 |.str y=>if y.length<=BIG then .ok (.sh (.str (Txt.slice y lo hi))) else .bad
 |_=>.bad
noncomputable def Dz:V->Option Int->Option Int->Hp->VK->Prop:=λx lo hi H Q=>∃y,x=.str y/\y.length<=sizeLine/\Q (.str (Txt.slice y lo hi)) H
section
variable {X:Cx} {M:Mx}
theorem part_of {v:Value} {o:Option Int} (h:IsPart v o):∃l:Option (Int×Tok),v=partValue l/\l.map (·.1)=o:=by
 cases h with
 |none=>exact ⟨none,rfl,rfl⟩
 |int i t=>exact ⟨some (i,t),rfl,rfl⟩
theorem cx:SlR X Dz:=by
 intro pins s σ H x v vl vu lo hi sl Q I rx hs pl pu h;obtain ⟨y,rfl,hy,q⟩:=h;obtain ⟨t,rfl⟩:=rx;obtain ⟨l,rfl,rfl⟩:=part_of pl;obtain ⟨u,rfl,rfl⟩:=part_of pu;refine ⟨"str",_,PySem.F.slot_str_getitem.lookup,typeIs_str _ _ _,wpAny_getItem_str_slice (l:=l) (u:=u) (st:=none) hs rfl (post_val_or_str ⟨ZE (Txt.slice_le y _ _) hy,λt' k=>?_⟩)⟩
 exact ⟨.str _,H,I.tok k,⟨t',rfl⟩,q⟩
theorem cy (hK:X.K=M.K):OkS M Dz gb:=by
 intro x lo hi dx F H fp Q s rx p;unfold gb at p;split at p
 ·cases rx
  split at p
  ·rename_i hl
   exact ⟨_,rfl,ia hl,OkE.val s p (.str _)⟩
  ·exact p.elim
 ·exact p.elim
theorem fm (y:Str) (lo hi:Option Int):gb (.str y) lo hi=if y.length<=BIG then .ok (.sh (.str (Txt.slice y lo hi))) else .bad:=rfl
end
noncomputable def inS (x y:Str):Bool:=!(Builtin.Str.occurrences y x 0 y.length 1).isEmpty
noncomputable def gIn:PyData->PyData->R OD
 |.str x,.str y=>.ok (.sh (.bool (inS x y)))
 |_,_=>.bad
noncomputable def pE:PyData->PyData->R OD
 |.str x,.str y=>.ok (.sh (.bool (!inS x y)))
 |_,_=>.bad
section
variable {X:Cx} {M:Mx}
theorem oW:OpR X (compareOp .In) (λx y H Q=>∃i j,x=.str i/\y=.str j/\Q (.bl (!(Builtin.Str.occurrences j i 0 j.length 1).isEmpty)) H):=sJ
theorem jf:OpR X (compareOp .NotIn) (λx y H Q=>∃i j,x=.str i/\y=.str j/\Q (.bl (!(!(Builtin.Str.occurrences j i 0 j.length 1).isEmpty))) H):=oQ
theorem rB (_:X.K=M.K):Ok2 M (λx y H Q=>∃i j,x=.str i/\y=.str j/\Q (.bl (!(Builtin.Str.occurrences j i 0 j.length 1).isEmpty)) H) gIn:=by
 intro x y dx dy F H fp Q s rx ry p;unfold gIn at p;split at p
 ·cases rx;cases ry
  exact ⟨_,_,rfl,rfl,OkE.val s p (.bl _)⟩
 ·exact p.elim
theorem j6 (_:X.K=M.K):Ok2 M (λx y H Q=>∃i j,x=.str i/\y=.str j/\Q (.bl (!(!(Builtin.Str.occurrences j i 0 j.length 1).isEmpty))) H) pE:=by
 intro x y dx dy F H fp Q s rx ry p;unfold pE at p;split at p
 ·cases rx;cases ry
  exact ⟨_,_,rfl,rfl,OkE.val s p (.bl _)⟩
 ·exact p.elim
theorem pO (x y:Str):gIn (.str x) (.str y)=.ok (.sh (.bool (inS x y))):=rfl
theorem m6 (x y:Str):pE (.str x) (.str y)=.ok (.sh (.bool (!inS x y))):=rfl
end
noncomputable def Its (x:Str):It:=⟨λi _=>i<x.cps.size,λi H v H'=>H'=H/\∃c,x.cps[i]?=some c/\v=.str ⟨#[c]⟩,λi _=>x.cps.size<=i⟩
theorem sk {P:Program} {w:World} {K:PySem.W.Frag} {tg:Expr} (it:Addr) (x:Str) (t:Tok):Turn P w K tg (Its x) [it] it (λi h=>h.IsStrIter it "str_ascii_iterator" x t i) where
 mem:=by simp
 obj:=λi h st b hb=>by
  have e:b=it:=by simpa using hb
  subst e;obtain ⟨o,e,c,d⟩:=st;exact ⟨o,e,λv z=>by rw [d]at z;cases z⟩
 keep:=λi h h' st k=>let ⟨o,e,r⟩:=st;⟨o,k it (by simp) o e,r⟩
 item:=by
  intro X hP hw hK hc i pins s σ H E I hf st hg;subst hP hw hK;obtain ⟨f0,f1,f2,f3,f4,f5⟩:=hf it (by simp)
  have W:=PySem.Walks.strAscii (prog:=X.prog) (w:=X.w) (I.ok.hd hc) it x t;refine W.item i s _ _ hg st λv h' tk hv st' kk=>?_
  obtain ⟨c,u,hc1,rfl⟩:=hv;have I1:Inv X pins σ H { s with heap:=h',toks:=tk }:=I.turned (λb o hb e=>kk b o (by simpa using hb) e) f0 f1 f3 f4 f5
  obtain ⟨o,e,cc,d⟩:=id st';exact ⟨_,rfl,uU (s:={ s with heap:=h',toks:=tk }) e cc d (by decide) ⟨.str ⟨#[c]⟩,H,I1,⟨u,rfl⟩,⟨rfl,c,hc1,rfl⟩,st',λb hb=>(hf b hb).1⟩⟩
 done:=by
  intro X hP hw hK hc i pins s σ H E I hf st hg;subst hP hw hK;obtain ⟨f0,f1,f2,f3,f4,f5⟩:=hf it (by simp)
  exact wpAny_pyNext_ascii_end (I.ok.hd hc) st (by have:x.cps.size<=i:=hg;simp;lia) λh' eb=>⟨rfl,I.turned (t':=s.toks) (λb o hb e=>eb b o (by simpa using hb) e) f0 f1 f3 f4 f5⟩
 self:=λ_ _ _ _ _ st h=>wpAny_pyIter_striter_ascii st h
noncomputable def xW (tl:TE):TI:=fun σ H R=>tl σ H λx H1=>∃y,x=.str y/\y.cps.all (·<128)=true/\R (Its y) H1
theorem xc {X:Cx} {tg l:Expr} {tl:TE} (hl:PE X l tl):PI X tg l (xW tl):=by
 intro pins s σ H R I h;refine thn (hl pins s σ H _ I h) λv s1 ⟨x,H1,I1,r1,q1⟩=>?_
 obtain ⟨y,e,hy,q⟩:=q1;subst e;obtain ⟨t,rfl⟩:=r1;refine wpAny_pyIter_ascii hy ?_;refine ⟨s1.heap.objs.size,[s1.heap.objs.size],_,_,H1,rfl,I1.kept (t':=s1.toks) λb o e=>Heap.get?_push_of_some _ e,sk _ y t,⟨_,Heap.get?_push_size _ rfl,rfl,rfl⟩,λb hb=>?_,q⟩
 have e:b=s1.heap.objs.size:=by simpa using hb
 subst e;exact I1.fpOk (Zm _) (I1.hok.fresh (Zm _))
noncomputable def signs (x:Str):List PyData:=x.cps.toList.map λc=>PyData.str ⟨#[c]⟩
noncomputable def iTx (a:Fe):Fi:=fun ρ=>(a ρ).bind λx=>match x.er with
 |.str y=>if y.cps.all (·<128)=true then .ok (signs y) else .bad
 |_=>.bad
theorem Cb {M:Mx} {n:Nat} {σ:L3.St} {H:Hp} {R':It->Hp->Prop} {a:Fe} (h:tI M n (iTx a) σ H R'):xW (tD M n a) σ H R':=by
 obtain ⟨F,ρ,fp,S,p⟩:=h;refine ⟨F,ρ,fp,S,(aM.bind p).mono λx px v F1 H1 fx e1 r1 w1=>?_⟩
 obtain ⟨G1,d1,k1⟩:=r1.frz e1 w1;generalize x.er=d at px k1
 cases k1 with
 |str y =>
  have px':aM M H fp (OkI M.K F H R') (if y.cps.all (·<128)=true then .ok (signs y) else .bad):=px
  by_cases hy:y.cps.all (·<128)=true
  ·rw [if_pos hy]at px'
   refine ⟨y,rfl,hy,px' _ G1 H1 d1 λi G H' s1 s2=>⟨λd hd=>?_,λhl=>?_⟩⟩
   ·unfold signs at hd
    rw [Za]at hd;obtain ⟨c,hc,rfl⟩:=Zo.mp hd;have hc':y.cps[i]?=some c:=by rw [<-Array.getElem?_toList];exact hc
    refine ⟨(Array.getElem?_eq_some_iff.mp hc').1,λx H2 y'=>?_⟩
    obtain ⟨rfl,c',h1,rfl⟩:=y';rw [hc']at h1;cases h1;exact ⟨G,Ext.refl s2,.str _⟩
   ·unfold signs at hl
    rw [Zc]at hl;show y.cps.size<=i
    simpa using hl
  ·rw [if_neg hy]at px'
   exact px'.elim
 |non=>exact px.elim
 |bl _=>exact px.elim
 |int _=>exact px.elim
 |lst _ _=>exact px.elim
 |tup _ _=>exact px.elim
 |dct _ _ _=>exact px.elim
theorem oN {M:Mx} {X:Cx} {e:Expr} {fa:Fe} {tg:Expr} (h:DE M X e fa):DI M X tg e (iTx fa):=λhK hM =>
 λpins s σ H R' I z=>xc (tg:=tg) (h hK hM) pins s σ H R' I (Cb z)
theorem GI {a:Fe} {ρ:Env}:iTx a ρ=unK (λx=>match x.er with
 |.str y=>if y.cps.all (·<128)=true then .ok (signs y) else .bad
 |_=>.bad) (a ρ):=by
 unfold iTx;cases a ρ <;> rfl
section
variable {M:Mx} {n:Nat} {σ:L2.St} {H:Hp} {Q:VK} {al ak:Fa}
noncomputable def gK {α:Type} (m j:Nat) (us ws:List α):List α:=if us.length=m/\ws.length=j then us++ws else []
end
section
variable {M:Mx} {X:Cx} {e:Expr} {es:List Expr} {pos kpos:Pos} {fa:Fe} {al ak:Fa} {kws:List Keyword} {nm:Option Str}
end
structure FunD (K:PySem.W.Frag) (x qual:Str) (st:Stmt) (f:Addr) (fd:FuncData):Prop where
 ex:∃(oc:Value) (od:Option Addr) (dV kV doc pm:Value) (an:Option Addr) (cdv ct:Value) (osl:Array (Option Value)),
  fd=PySem.W.fnOf x qual (aT st) (aP st) (aq st) dV kV doc pm an cdv ct/\K.lookup f=some ⟨oc,od,.func fd,osl⟩/\PySem.W.codeIn K cdv qual=true
 kp:PySem.W.keepIn K (.ref f)=true
structure DefD (K:PySem.W.Frag) (mg:Str->Option Value) (x:Str) (st:Stmt) (ps ks:List Str) (m:Nat) (dvs:List V) (f:Addr) (fd:FuncData):Prop where
 F:FunD K x x st f fd
 g:mg x=some (.ref f)
 b:Binds K fd ps []
 d:∃ds,Binds K fd ps ds/\Vals dvs ds
 k:KBinds K fd ps ks (gK m dvs.length) (gK m dvs.length)
section
variable {M:Mx} {n:Nat} {σ:L2.St} {H:Hp} {D:Ends}
end
section
variable {M:Mx} {X:Cx} {e b:Expr} {x:Str} {p ap cp pos:Pos} {fa fb:Fe}
end
section
variable {ρ:Env} {k a:Fe}
end
section
variable {M:Mx} {n:Nat} {σ:L2.St} {H:Hp} {D:Ends}
end
section
variable {M:Mx} {X:Cx} {sc scope:Scope} {p p1 p2 p3 p4 p5 pos spos:Pos} {x y z b:Str}
end
end L3
namespace L3
open PySem L2
end L3
namespace L2
open PySem PySem.Spec PyProof.Rows
structure BlkK (X:Cx) (sc scope:Scope) (outs:List (Nat×Str)):Prop where
 hsc:X.env.scope=sc
 kind:scope.kind=.function
 loc:∀x∈scope.names,x.2=.local->scope.names.lookup x.1=some .local
 own:∀x∈scope.names,x.2=.cell->scope.names.lookup x.1=some .cell
 ap:∀x∈scope.names,x.2=.free->(x.1,NameKind.cell)∉scope.names
 fr:∀x∈scope.names,x.2=.free->sc.names.lookup x.1=some .cell\/sc.names.lookup x.1=some .free
 out:kv X scope outs
section
variable {X:Cx} {sc scope:Scope} {own:List Str} {outs:List (Nat×Str)} {elt tg iter:Expr} {ifs:List Expr} {pos:Pos} {g:TG} {tc:TT} {te:TE}
end
end L2
namespace L3
open PySem L2 PySem.Spec PyProof.Rows
section
variable {M:Mx} {X:Cx} {e a b c:Expr} {es:List Expr} {pos:Pos} {fa fb:Fe} {ta tb:Ft} {al:Fa} {x:Str} {p ap cp:Pos}
variable {sc scope:Scope} {outs:List (Nat×Str)} {elt tg iter:Expr} {ifs:List Expr} {it:Fi} {gg:Fg} {is:List Nat} {el:Fe}
end
theorem ig:∀{us:List Value} {ns:List Int},IntsAre us ns->Vals (ns.map V.int) us
 |_,_,.nil=>.nil
 |_,_,.cons n t r=>.cons ⟨t,rfl⟩ (ig r)
section
variable {X:Cx} {M:Mx}
end
section
variable {M:Mx} {n:Nat} {σ:L2.St} {H:Hp} {D:Ends} {Q Q':VK}
end
open Classical in
noncomputable def xq (F:Hp) (f:List Addr):Hp:=λb=>if b∈f then none else F b
theorem vD {F:Hp} {f:List Addr} {b:Addr} (h:b∉f):xq F f b=F b:=by unfold xq;rw [if_neg h]
section
variable {K:PySem.W.Frag} {F H:Hp} {f:List Addr}
end
section
variable {M:Mx} {n:Nat} {σ:L2.St} {H:Hp} {Q:VK}
end
section
variable {M:Mx} {X:Cx} {e:Expr} {fa fb:Fe}
theorem rF:∀ds:List PyData,shs (ds.map OD.sh)=some ds
 |[]=>rfl
 |d :: r=>by
  rw [Zj,shs,rF r]
end
theorem ex1 {α:Type} {us:List α} (h:us.length=1):∃a,us=[a]:=by
 cases us with
 |nil=>cases h
 |cons a r =>
  cases r with
  |nil=>exact ⟨a,rfl⟩
  |cons b r=>cases h
theorem ex2 {α:Type} {us:List α} (h:us.length=2):∃a b,us=[a,b]:=by
 cases us with
 |nil=>cases h
 |cons a r =>
  obtain ⟨b,e⟩:=ex1 (Nat.succ.inj h);exact ⟨a,b,by rw [e]⟩
theorem ex3 {α:Type} {us:List α} (h:us.length=3):∃a b c,us=[a,b,c]:=by
 cases us with
 |nil=>cases h
 |cons a r =>
  obtain ⟨b,c,e⟩:=ex2 (Nat.succ.inj h);exact ⟨a,b,c,by rw [e]⟩
theorem ex4 {α:Type} {us:List α} (h:us.length=4):∃a b c d,us=[a,b,c,d]:=by
 cases us with
 |nil=>cases h
 |cons a r =>
  obtain ⟨b,c,d,e⟩:=ex3 (Nat.succ.inj h);exact ⟨a,b,c,d,by rw [e]⟩
theorem ex5 {α:Type} {us:List α} (h:us.length=5):∃a b c d f,us=[a,b,c,d,f]:=by
 cases us with
 |nil=>cases h
 |cons a r =>
  obtain ⟨b,c,d,f,e⟩:=ex4 (Nat.succ.inj h);exact ⟨a,b,c,d,f,by rw [e]⟩
section
variable {M:Mx} {n:Nat} {σ:L2.St} {H:Hp} {Q:VK}
end
section
variable {X:Cx} {M:Mx}
noncomputable def yO:R2:=λx y H Q=>∃i n,x=.str i/\y=.int n/\MulOk i n/\Q (.str (Txt.mul i n)) H
theorem lj:OpR X (binaryOp .Mult) yO:=by
 intro pins s σ H x y v u Q I rx ry h;obtain ⟨i,n,rfl,rfl,hm,q⟩:=h;obtain ⟨t,rfl⟩:=rx;obtain ⟨t',rfl⟩:=ry;exact SB.mul hm λt2 k=>⟨.str _,H,I.kept (t':=k) (λ_ _ z=>z),⟨t2,rfl⟩,q⟩
end
end L3
namespace L3
open PySem L2 PySem.Spec PyProof.Rows PySem.W PySem.Calls
end L3
namespace L2
open PySem PySem.Spec PyProof.Rows
noncomputable def yL (n0 n:Nat):List Value:=(List.range n).map λj=>Value.ref (n0+j)
structure ZS (h:Heap) (n0 n:Nat) (ls:Nat->Nat) (is:Nat->Nat) (f0:Value) (arr:List Value):Prop where
 zp:h.get? (n0+n+2)=some { cls:=.type "zip",dict:=none,data:=.fields #[f0,.bool false,.bool false,.ref (n0+n),.ref (n0+n+1)],slots:=#[] }
 ti:h.get? (n0+n)=some { cls:=.type "tuple",data:=.seq (yL n0 n).toArray }
 to:h.get? (n0+n+1)=some { cls:=.type "tuple",data:=.seq arr.toArray }
 it:∀j,j<n->h.IsListIter (n0+j) (ls j) (is j)
section
variable {prog:Program} {w:World} {A:Around} {E:Value->Shared->Prop} {s:Shared}
end
end L2
namespace L3
open PySem L2 PySem.Spec PyProof.Rows
section
variable {M:Mx} {n:Nat} {F H:Hp} {σ:St} {D:Ends} {R':It->Hp->Prop} {X:Cx}
end
section
variable {M:Mx} {n:Nat} {F H:Hp} {σ:St} {D:Ends} {R':It->Hp->Prop} {X:Cx}
end
end L3
namespace L2
open PySem PySem.Spec PyProof.Rows
end L2
namespace L3
open PySem L2 PySem.Spec PyProof.Rows
section
variable {M:Mx} {n:Nat} {F H:Hp} {σ:St} {D:Ends} {X:Cx} {b e:Expr} {fa fb:Fe} {x:Str} {p pos:Pos}
end
end L3
namespace L2
open PySem PySem.Spec PyProof.Rows
section
variable {prog:Program} {w:World} {A:Around} {E:Value->Shared->Prop} {s:Shared}
end
structure ZT (h:Heap) (n0 n:Nat) (ls:Nat->Nat) (is:Nat->Nat) (f0:Value) (arr:List Value):Prop where
 zp:h.get? (n0+n+2)=some { cls:=.type "zip",dict:=none,data:=.fields #[f0,.bool false,.bool false,.ref (n0+n),.ref (n0+n+1)],slots:=#[] }
 ti:h.get? (n0+n)=some { cls:=.type "tuple",data:=.seq (yL n0 n).toArray }
 to:h.get? (n0+n+1)=some { cls:=.type "tuple",data:=.seq arr.toArray }
 it:∀j,j<n->h.IsTupleIter (n0+j) (ls j) (is j)
section
variable {prog:Program} {w:World} {A:Around} {E:Value->Shared->Prop} {s:Shared}
end
end L2
namespace L3
open PySem L2 PySem.Spec PyProof.Rows
section
variable {M:Mx} {n:Nat} {F H:Hp} {σ:St} {D:Ends} {R':It->Hp->Prop} {X:Cx} {a b:Expr} {fa fb:Fe} {pos:Pos}
end
theorem Bq {P:Program} {w:World} {K:PySem.W.Frag} {mg:Str->Option Value} {base:Heap} {CX:CXT} {k:Nat} {f:Addr} {fd:FuncData} {ps:List Str}:FnOk P w K mg base CX k f fd ps (sp3 K mg λ_=>.bad) :=
 ⟨λ_ _ _ _ h=>let ⟨_,_,_,_,p⟩:=h;p.elim,λ_ _ _ _ _ _ _ _ _ _ _ _ _ h=>let ⟨_,_,_,_,p⟩:=h;p.elim⟩
mutual
noncomputable def nol:PyData->Bool
 |.tuple ds=>vW ds
 |.list _=>false
 |.dict _=>false
 |.none=>true
 |.bool _=>true
 |.int _=>true
 |.str _=>true
noncomputable def vW:List PyData->Bool
 |[]=>true
 |d :: ds=>nol d && vW ds
end
section
variable {K:PySem.W.Frag} {F H:Hp} {f:List Addr}
mutual
theorem tE (hl:∀b∈f,∃ws,F b=some (.lst ws)) {v:V} {d:PyData}:Rep K F v d->nol d=true->Rep K (xq F f) v d
 |.non,_=>.non
 |.bl b,_=>.bl b
 |.int i,_=>.int i
 |.str x,_=>.str x
 |.lst _ _,e=>by rw [nol]at e;cases e
 |.dct _ _ _,e=>by unfold dD at e;rw [nol]at e;cases e
 |.tup (a:=a) h1 h2,e=>by
  rw [nol]at e;refine .tup ?_ (nj hl h2 e);rw [vD λm=>by
   obtain ⟨ws,q⟩:=hl a m;rw [h1]at q;cases q]
  exact h1
theorem nj (hl:∀b∈f,∃ws,F b=some (.lst ws)) {vs:List V} {ds:List PyData}:RepAll K F vs ds->vW ds=true->RepAll K (xq F f) vs ds
 |.nil,_=>.nil
 |.cons h r,e=>by
  rw [vW,Zu]at e;exact .cons (tE hl h e.1) (nj hl r e.2)
end
end
section
variable {M:Mx} {n:Nat} {σ:L2.St} {H:Hp} {Q:VK}
end
section
variable {M:Mx} {X:Cx} {e:Expr} {fa fb:Fe}
end
end L3
namespace L2
open PySem PySem.Spec PyProof.Rows
section
variable {prog:Program} {w:World} {A:Around} {E:Value->Shared->Prop} {s:Shared}
end
section
variable {prog:Program} {w:World} {A:Around} {E:Value->Shared->Prop} {s:Shared}
end
section
variable {prog:Program} {w:World} {A:Around} {E:Value->Shared->Prop} {s:Shared}
end
structure LZ (X:Cx) (H0 H:Hp) (xs ys:List V) (Ts:List Addr):Prop where
 up:aS H0 H
 new:∀c o,H c=some o->H0 c=some o\/c∈Ts
 free:∀T∈Ts,H0 T=none
 tup:∀(j:Nat) (T:Addr),Ts[j]?=some T->∃x y,xs[j]?=some x/\ys[j]?=some y/\H T=some (.tup [x,y])
theorem kK:∀Ts:List Addr,Vals (Ts.map V.ref) (Ts.map Value.ref)
 |[]=>.nil
 |_ :: Ts=>.cons rfl (kK Ts)
end L2
namespace L3
open PySem L2 PySem.Spec PyProof.Rows
section
variable {M:Mx} {X:Cx}
open Classical in
end
noncomputable def CXE (P:Program) (w:World):CXT:=λouter H s E e s'=>∃(ea:Addr) (cls a0:Value) (B:Heap) (H':Hp),
 e=.ref ea/\s'.os=s.os/\AllBare s'.gens/\Un (frs outer) [] H H' s.heap s'.heap/\HOk P w H' s'.heap/\Heap.FlyingW B outer ea cls a0 s'.heap /\
 (∀b o,s'.heap.get? b=some o->b∉frs outer->(H' b≠none\/s.heap.get? b≠none)->B.get? b=some o)/\E cls none H'
theorem jb {env:PySem.Env} {L:Addr} {outer:List PySem.Env} (h:env.frame=some L):frs (env :: outer)=L :: frs outer:=by
 unfold frs;rw [List.filterMap_cons,h]
theorem nB {P:Program} {w:World} {H:Hp} {h:Heap} {a:Addr} {o:HO} (x:fW P w H h a o):∃u,h.get? a=some u:=by
 cases o with
 |lst xs=>obtain ⟨_,_,_,_,e⟩:=x;exact ⟨_,e⟩
 |tup xs=>obtain ⟨_,_,_,_,e,_⟩:=x;exact ⟨_,e⟩
 |dK kvs=>obtain ⟨_,_,_,_,o,_,_,e,_⟩:=x;exact ⟨_,e⟩
 |dT kvs=>obtain ⟨_,_,_,_,o,_,_,e,_⟩:=x;exact ⟨_,e⟩
 |set S n=>obtain ⟨o,_,_,_,e,_⟩:=x;exact ⟨_,e⟩
 |ins C dx fs=>obtain ⟨_,_,_,e,_⟩:=x;exact ⟨_,e⟩
 |own y=>exact x
 |xd fs=>obtain ⟨_,⟨_,_,_,e,_⟩,_⟩:=x;exact ⟨_,e⟩
 |rng lo hi=>obtain ⟨_,_,_,e⟩:=x;exact ⟨_,e⟩
 |frz ob u=>exact ⟨_,x.1⟩
 |tbl ps=>exact ⟨_,(show h.get? a=some _ from x)⟩
 |met f y=>exact ⟨_,(show h.get? a=some _ from x)⟩
 |ext φ=>exact x.2.1
section
variable {X:Cx} {pins:List (Addr×Obj)} {σ:St} {H':Hp} {s':Shared} {B h'':Heap}
theorem rT (J:Inv X pins σ H' s') (hst:X.stack=X.env :: X.outer) (hfr:X.env.frame=some X.env.locals) (hex:X.ex=[]) (up:s'.heap.UpToSlots h'') (stay:B.StaysIn h'')
  (cov:∀b o,s'.heap.get? b=some o->b∉frs X.stack->(H' b≠none\/X.s₀.heap.get? b≠none)->B.get? b=some o) :
  Un (frs X.outer) [] X.H₀ H' X.s₀.heap h''/\HOk X.prog X.w H' h''/\∀b o,h''.get? b=some o->b∉frs X.outer->(H' b≠none\/X.s₀.heap.get? b≠none)->B.get? b=some o:=by
 have nb:∀b o,X.s₀.heap.get? b=some o->b≠X.env.locals:=λb o q=>Nat.ne_of_lt (ZG (Heap.lt_size q) J.ok.above)
 have ns:∀b,b∉frs X.outer->b≠X.env.locals->b∉frs X.stack:=λb h1 h2=>by
  rw [hst,jb hfr];exact λm=>(Zn.mp m).elim h2 h1
 have nx:∀b,b∉X.ex:=λb=>by rw [hex];simp
 have tr:∀b,H' b≠none->b∉frs X.stack:=λb n m=>n (J.stkFree b m)
 have old:∀b o,X.s₀.heap.get? b=some o->b∉frs X.outer->∀o',s'.heap.get? b=some o'->h''.get? b=some o':=λb o q n o' q' =>
  stay b o' (cov b o' q' (ns b n (nb b o q)) (.inr (by rw [q];simp)))
 have fr:∀b o,b∈frs X.outer->s'.heap.get? b=some o->∃sl,h''.get? b=some { o with slots:=sl }:=λb o m q=>by
  have m':b∈frs X.stack:=by rw [hst,jb hfr];exact Ze _ m
  obtain ⟨_,o',q',nf⟩:=J.stack.mem m';rw [q]at q';cases q';exact up b o q nf
 refine ⟨⟨λb o q n hb _=>?_,λb o q n hb _=>?_,λb o q n _=>J.base.free b o q n (nx b),λb o q _=>?_,J.base.tups,J.base.frzs,J.base.tbls⟩,λb u e=>?_,λb o q n hc=>?_⟩
 ·exact old b o q hb o (J.base.keep b o q n hb (nx b))
 ·obtain ⟨sl,e1⟩:=J.base.slot b o q n hb (nx b)
  obtain ⟨sl',e2⟩:=fr b _ hb e1;exact ⟨sl',e2⟩
 ·obtain ⟨o',e1⟩:=J.base.there b o q (nx b)
  by_cases hb:b∈frs X.outer
  ·obtain ⟨sl',e2⟩:=fr b _ hb e1
   exact ⟨_,e2⟩
  ·exact ⟨o',old b o q hb o' e1⟩
 ·refine (J.hok b u e).stay (λc v hc q=>stay c v (cov c v q (tr c ?_) (.inl ?_))) (λ_ q=>q) λ_ _ q=>q
  ·rcases hc with rfl | hc
   ·rw [e];simp
   ·rw [hc];simp
  ·rcases hc with rfl | hc
   ·rw [e];simp
   ·rw [hc];simp
 ·have ex:∃o',s'.heap.get? b=some o':=by
   rcases hc with hc | hc
   ·cases z:H' b with
    |none=>exact absurd z hc
    |some u=>exact nB (J.hok b u z)
   ·cases z:X.s₀.heap.get? b with
    |none=>exact absurd z hc
    |some u=>exact J.base.there b u z (nx b)
  obtain ⟨o',e1⟩:=ex;have nl:b≠X.env.locals:=by
   rcases hc with hc | hc
   ·exact λz=>hc (z▸J.free)
   ·cases z:X.s₀.heap.get? b with
    |none=>exact absurd z hc
    |some u=>exact nb b u z
  have e2:=cov b o' e1 (ns b n nl) hc;have e3:=stay b o' e2;rw [q]at e3;cases e3;exact e2
end
noncomputable def Lv (X:Cx) (E:XK):Prop:=X.stack=X.env :: X.outer/\X.env.frame=some X.env.locals/\X.ex=[] /\
 ∀(e:Value) (s':Shared),wpAny (model X.prog X.w) X.A (leaving X.env e) (λ_ s''=>CXE X.prog X.w X.outer X.H₀ X.s₀ E e s'') (λe' s''=>CXE X.prog X.w X.outer X.H₀ X.s₀ E e' s'') s'->X.xe e s'
theorem Lv.of {P:Program} {w:World} {K:PySem.W.Frag} {mg:Str->Option Value} {base:Heap} {N:List Str} {qual:Str} {scope:Scope} {f:Addr} {cd:Value} {A:Around} {outer:List PySem.Env} {s:Shared} {H:Hp} {E:XK} :
  Lv (iQ (CXE P w) P w K mg base N qual scope f cd A outer s H E) E:=⟨rfl,rfl,rfl,λ_ _ h=>h⟩
section
variable {X:Cx} {E:XK} {pins:List (Addr×Obj)} {σ:St} {H:Hp} {s s':Shared} {e:Value}
theorem Lv.pass (L:Lv X E):Passes (CXE X.prog X.w) X E:=λpins σ H s e s' I x=>by
 obtain ⟨hst,hfr,hex,hxe⟩:=L;obtain ⟨ea,cls,a0,B,H',rfl,os,bare,un,hok,fl,cov,hE⟩:=x;have J:Inv X pins σ H' s':=I.call' os un hok bare λb z=>absurd z (by simp)
 refine hxe _ _ ?_;rw [hst]at fl;refine wpAny_leaves_onW (by rw [<-hst];exact I.ok.frames) hfr fl λh'' fl' up=>?_
 have cov':∀b o,s'.heap.get? b=some o->b∉frs X.stack->(H' b≠none\/X.s₀.heap.get? b≠none)->B.get? b=some o:=λb o q n hc=>cov b o q n <| hc.imp_right λz=>by
  cases y:X.s₀.heap.get? b with
  |none=>exact absurd y z
  |some u =>
   obtain ⟨o',q'⟩:=I.base.there b u y (by rw [hex];simp)
   rw [q'];simp
 obtain ⟨u1,u2,u3⟩:=rT J hst hfr hex up fl'.1 cov';exact ⟨ea,cls,a0,B,H',rfl,J.os,bare,u1,u2,fl',u3,hE⟩
theorem Lv.made (L:Lv X E) (I:Inv X pins σ H s) {h':Heap} {e C:Addr} {args:List Value} (hx:Heap.MadeExcOf s.heap h' e (.ref C) args) (hE:E (.ref C) none H):X.xe (.ref e) { s with heap:=h' }:=by
 obtain ⟨hst,hfr,hex,hxe⟩:=L;refine hxe _ _ ?_;have hin:∀env∈(X.env :: X.outer),∀b,env.frame=some b->b∈frs (X.env :: X.outer):=λenv he b hb=>List.mem_filterMap.mpr ⟨env,he,hb⟩
 have fr:=I.stack;rw [hst]at fr;refine wpAny_leaves_madeW (base:=PySem.W.hideAll s.heap (frs (X.env :: X.outer))) (by rw [<-hst];exact I.ok.frames) hfr (λb o q=>PySem.W.of_hideAll _ q) (PySem.W.funFrames_hide fr hin) hx λh'' t fl _ _ up=>?_
 have up':s.heap.UpToSlots h'':=(Heap.UpToSlots.of_keeps hx.keeps).trans up;obtain ⟨u1,u2,u3⟩:=rT I hst hfr hex up' fl.1 λb o q n _=>PySem.W.hideAll_get _ q (by rw [<-hst];exact n)
 exact ⟨e,_,_,_,H,rfl,I.os,I.bare,u1,u2,fl,u3,hE⟩
end
noncomputable abbrev vE:List Value:=[.type "ValueError",.type "Exception",.type "BaseException",.type "object"]
noncomputable abbrev vN:String := "ValueError.__new__"
theorem j5 {K:PySem.W.Frag} {h:Heap} {C:Addr} (X:K.In h) (q:PySem.W.excIn K C vE vN=true) :
  ∃mr N y1 y2 y3 y4 y5 y6 y7 y8 y9 z0 z1 z2 z3 z5 mN,h.get? C=some (excClassObj y1 y2 C N y3 mr y4 y5 y6 y7 y8 y9 z0 z1 z2 z3 z5 vN)/\h.Ns N mN/\mN "__init__" = none/\OwnTail h vE mr:=by
 unfold PySem.W.excIn at q;split at q
 case h_2=>cases q
 case h_1 y9 cd sl hl =>
  split at q
  case h_2=>cases q
  case h_1 C1 mr z0 z1 z2 z3 z4 z5 e1 e2 =>
   simp only [Zu,beq_iff_eq,Bool.not_eq_true']at q;obtain ⟨⟨⟨⟨⟨c1,c2⟩,c3⟩,c4⟩,c5⟩,c6⟩:=q;cases c1;cases c2;cases cd with
   |mk y1 y3 m0 N y2 y4 y5 y6 y7 y8 dl =>
    dsimp only at e1 c3 c5 c6
    cases e1;cases c3;cases sl with
    |mk ls =>
     dsimp only at e2
     cases e2;exact ⟨mr,N,y1,y2,y3,y4,y5,y6,y7,y8,y9,z0,z1,z2,z3,z5,_,X _ _ hl,.of_isNs (PySem.W.isNs_of_in X c5),PySem.W.nsMap_none_of_in X c5 c6,PySem.W.tail_of_in X c4⟩
noncomputable def fK (c:Str):Fs:=λ_=>.ex c
section
variable {M:Mx} {X:Cx} {x t:Str} {j:Nat} {np cpos pos p2:Pos}
theorem dS {C:Addr} (L:Lv X M.E) (hc:X.calm=true) (hg:Gl X x) (hm:M.mg x=some (.ref C)) (hk:PySem.W.excIn M.K C vE vN=true) (hd:(x == ("__debug__" : Str))=false:=by decide)
  (hs:starEach [.Constant (.str t) j p2] X.env=(false,eval (.Constant (.str t) j p2) X.env) :: starEach [] X.env:=by rfl) :
  DS M X (.Raise (some (.Call (.Name x np) [.Constant (.str t) j p2] [] cpos)) none pos) (fK x):=λhK hM pins s σ H D I q=>by
 obtain ⟨F,ρ,fp,S,cv,e1,e2⟩:=q;rw [hm]at e1;cases e1;have hE:=e2 none H λ_ _ z _=>z
 rw [<-hK]at hk;obtain ⟨mr,N,y1,y2,y3,y4,y5,y6,y7,y8,y9,z0,z1,z2,z3,z5,mN,hC,hN,hni,T⟩:=j5 I.mod.kin hk;refine wpAny_Raise_call_subU (C:=C) (nm:=y1) (q:=y2) (N:=N) (bs:=y3) (bm:=mr) (hdct:=y4) (sn:=y5) (sub:=y6) (ab:=y7) (col:=y8) (dd:=y9) (k0:=z0) (k1:=z1) (k2:=z2) (k3:=z3) (k5:=z5)
  PySem.F.excBase_ValueError (by decide) PySem.F.excBase_ValueError (mN:=mN) (T.hasType PySem.F.excBase_ValueError.hasBase) (I.ok.hd hc) (by rw [hs];rfl) hni (jj I hg (by rw [hM];exact hm) ⟨rfl,?_⟩ hd)
 have ha:PA X [.Constant (.str t) j p2] _:=bc lM c_ hs;have hw:=ha cpos pins s σ H (λvs H'=>H'=H/\vs.length<=sizeLine) I ⟨rfl,show 1<=sizeLine by decide⟩
 rw [hs]at hw ⊢;refine Calls.evalArgs_plain (wpAny_mono hw (λus s2 hz=>?_) λ_ _ y=>y)
 obtain ⟨vs,H2,I2,r2,rfl,hl⟩:=hz;exact ⟨rfl,by rw [<-r2.length];exact hl,I2.bk _ _ hC,hN.keeps I2.bk,T.keeps I2.bk,λh' e hx=>L.made I2 hx hE⟩
end
end L3
namespace L3
open PySem L2 PySem.Spec PyProof.Rows Builtin Builtin.ObjectAttr Builtin.Getset_descriptor
structure ExcK (K:PySem.W.Frag) (C:Addr):Prop where
 ex:PySem.W.excIn K C vE vN=true
 ga:PySem.W.findIn K (.ref C) "__getattribute__" = some (some (.builtin "BaseException.__getattribute__"))
 ca:PySem.W.findIn K (.ref C) "__class__" = some (some (.builtin "object.__class__"))
 ng:PySem.W.findIn K (.ref C) "__getattr__" = some none
 mo:PySem.W.mroIn K C (.type "object")=some true
section
variable {prog:Program} {w:World} {A:Around} {E:Value->Shared->Prop} {h:Heap} {g:Array GenState} {d:Drawn} {t:Nat} {os:OsState} {a C:Addr} {o:Obj} {K:PySem.W.Frag}
theorem BR {tp:Value} {R:Result->Shared->Prop} (Z:ExcK K C) (X:K.In h) (hx:h.get? a=some o) (hc:o.cls=.ref C) (hq:R (.ok (.ret (.ref C))) ⟨h,g,d,t,os⟩) :
  codeAny (model prog w) A (.call (.builtin "getset_descriptor.__get__") ⟨[.builtin "object.__class__",.ref a,tp],[]⟩) R ⟨h,g,d,t,os⟩:=by
 have L0:PySem.W.Looks (model prog w) h (typeOf (.ref a)) (.ref C):=hc▸(PySem.W.Looks.ld hx).andThen .now;have L1:=PySem.W.looks_mroIn (M:=model prog w) X Z.mo;refine codeAny_call_builtin PySem.W.KF.slot_gs.plain PySem.W.KF.entry_gs (PySem.W.KF.slot_gs.check _ _ _ _ _ _ _ _ PySem.W.KF.type_class (PySem.W.KF.args_gs _ _ _) ?_);unfold Builtin.«getset_descriptor.__get__» descrGet;rw [PySem.W.dga_obj];refine wpAny_bind (wpAny_pure ?_);unfold descrGetter descrCheckInstance descrNameAndClass isInstance;simp only [PySem.W.KF.owner_class]
 repeat lk
 refine ⟨Code.quiet_builtin _ (by decide +kernel),codeAny_builtin PySem.W.KF.entry_class ?_⟩;unfold Builtin.«object.__class__» shownTypeOf
 repeat lk
 exact hq
theorem vg {tk:Tok} {Q:Fin->Shared->Prop} (Z:ExcK K C) (X:K.In h) (hx:h.get? a=some o) (hc:o.cls=.ref C) (hq:Q (.done (.ret (.ref C))) ⟨h,g,d,t,os⟩) :
  wpAny (model prog w) A (Builtin.«object.__getattribute__» ⟨[.ref a,.str "__class__" tk],[]⟩) Q E ⟨h,g,d,t,os⟩:=by
 have hT:(⟨h,g,d,t,os⟩:Shared).TypeIs (.builtin "object.__class__") "getset_descriptor" := PySem.F.typeOf_object_class;have f5:=PySem.F.typeOf_object_class;have f6:=PySem.F.slot_gs_get.lookup;have f7:=PySem.F.slot_gs_set.lookup;have L2:=PySem.W.looks_findIn (M:=model prog w) X Z.ca
 repeat (any_goals (first | assumption | (with_reducible refine wpAny_loadPart_at hx ?_;rw [hc]) | with_reducible refine L2.at ?_ | wp_step))
 refine BR Z X hx hc ?_
 repeat (any_goals (first | assumption | wp_step))
theorem vv {M:Model} {nameV:Value} {Q:Unit->Shared->Prop} (Z:ExcK K C) (X:K.In h) (hx:h.get? a=some o) (hc:o.cls=.ref C) (hq:Q () ⟨h,g,d,t,os⟩) :
  wpAny M A (checkBuiltinCall "BaseException.__getattribute__" ⟨[.ref a,nameV],[]⟩) Q E ⟨h,g,d,t,os⟩:=by
 obtain ⟨mr,N,y1,y2,y3,y4,y5,y6,y7,y8,y9,z0,z1,z2,z3,z5,mN,hC,hN,hni,T⟩:=j5 X Z.ex;have k1:builtinKind "BaseException.__getattribute__" = some .slot:=by decide +kernel
 have k2:splitId "BaseException.__getattribute__" = some ("BaseException", "__getattribute__"):=by decide +kernel
 have k3:(Value.ref C :: mr).contains (.type "BaseException")=true:=by
  rw [List.contains_cons,T.hasType PySem.F.excBase_ValueError.hasBase];rfl
 have k4:=PySem.F.args_bexc_ga (.ref a) nameV;simp only [checkBuiltinCall,k1,k2];refine wpAny_bind ?_;unfold isInstance
 repeat (first | (with_reducible refine wpAny_loadPart_at hx ?_;rw [hc]) | (with_reducible refine wpAny_isSubtype_exc hC ?_;rw [k3]) | wp_step)
 exact hq
theorem CI {tk:Tok} {fill expr:Bool} {Q:Value->Shared->Prop} (Z:ExcK K C) (X:K.In h) (hx:h.get? a=some o) (hc:o.cls=.ref C) (hq:Q (.ref C) ⟨h,g,d,t,os⟩) :
  wpAny (model prog w) A (getAttrBy (.ref a) (.str "__class__" tk) fill expr) Q E ⟨h,g,d,t,os⟩:=by
 have FB:=PySem.F.attrBase_ValueError;have f3:=FB.ga.bind (.ref a);have n1:(expr && onTheHeap (Value.builtin "BaseException.__getattribute__"))=false:=by cases expr <;> rfl
 have n2:(Value.builtin "BaseException.__getattribute__" == Value.builtin "object.__getattribute__")=false:=by decide +kernel
 have n3:(onTheHeap (Value.ref C) && Value.builtin "BaseException.__getattribute__" == Value.builtin "object.__getattribute__")=false:=by rw [n2];rfl
 have L1:=PySem.W.looks_findIn (M:=model prog w) X Z.ga;have L3:=PySem.W.looks_findIn (M:=model prog w) X Z.ng
 repeat (any_goals (first | assumption | (with_reducible refine wpAny_loadPart_at hx ?_;rw [hc]) | with_reducible refine L1.at ?_ | with_reducible refine L3.at ?_ | wp_step))
 refine codeAny_call_builtin FB.ga.plain PySem.F.entry_bexc_ga (vv Z X hx hc (vg Z X hx hc ?_))
 repeat (any_goals (first | assumption | wp_step))
theorem xt {Q:Option Value->Shared->Prop} (Z:ExcK K C) (X:K.In h) (hx:h.get? a=some o) (hc:o.cls=.ref C) (hq:Q (some (.ref C)) ⟨h,g,d,t+1,os⟩) :
  wpAny (model prog w) A (getAttr? (.ref a) "__class__") Q E ⟨h,g,d,t,os⟩:=by
 unfold getAttr? getAttrBy?
 repeat (any_goals (first | assumption | with_reducible apply CI Z X hx hc | wp_step))
end
end L3
namespace L3
open PySem L2 PySem.Spec PyProof.Rows
noncomputable def CY (a C:Addr) (h:Heap):Prop:=∃o,h.get? a=some o/\o.cls=.ref C
theorem pv {K:PySem.W.Frag} {a C:Addr} (Z:ExcK K C):PySem.W.KitX K (.ref a) (.ref C) (CY a C) where
 ty:=λM h _ p=>by
  obtain ⟨o,h1,h2⟩:=p;exact h2▸(PySem.W.Looks.ld h1).andThen .now
 it:=λM h X _=>by
  obtain ⟨mr,N,y1,y2,y3,y4,y5,y6,y7,y8,y9,z0,z1,z2,z3,z5,mN,hC,_⟩:=j5 X Z.ex;intro A Q E s k q;unfold isType loadHead;exact wpAny_bind (wpAny_loadPart (k _ _ hC) (wpAny_pure q))
 ne:=λh tp dd its n sl X htp=>by
  obtain ⟨mr,N,y1,y2,y3,y4,y5,y6,y7,y8,y9,z0,z1,z2,z3,z5,mN,hC,_⟩:=j5 X Z.ex;refine Bool.eq_false_iff.mpr λq=>?_
  have e:C=tp:=Value.ref.inj (beq_iff_eq.mp q);rw [<-e,hC]at htp;have y:=congrArg Obj.data (Zx htp);cases y
 ca:=fun {prog w A E Q s} X p k=>by
  obtain ⟨o,h1,h2⟩:=p;obtain ⟨h,g,d,t,os⟩:=s;exact xt Z X h1 h2 k
section
variable {M:Model} {A:Around} {E:Value->Shared->Prop} {h:Heap} {g:Array GenState} {d:Drawn} {t:Nat} {os:OsState} {e C D:Addr} {o:Obj} {K:PySem.W.Frag}
theorem AI {b:Bool} {Q:Bool->Shared->Prop} (X:K.In h) (hD:PySem.W.excIn K D vE vN=true) (hs:PySem.W.subIn K (.ref C) (.ref D)=some b) (he:h.get? e=some o) (hc:o.cls=.ref C) (hq:Q b ⟨h,g,d,t,os⟩) :
  wpAny M A (excMatches (.ref e) (.ref D)) Q E ⟨h,g,d,t,os⟩:=by
 obtain ⟨mr,N,y1,y2,y3,y4,y5,y6,y7,y8,y9,z0,z1,z2,z3,z5,mN,hd,hN,hni,T⟩:=j5 X hD;have hB:(Value.ref D :: mr).contains (.type "BaseException")=true:=by
  rw [List.contains_cons,T.hasType PySem.F.excBase_ValueError.hasBase,Bool.or_true]
 have f:=tc_notTuple;have LS:=PySem.W.looks_subIn (M:=M) X hs;unfold excMatches
 repeat (first | (with_reducible refine wpAny_loadPart_at he ?_;rw [hc]) | with_reducible refine LS.at ?_ | with_reducible refine wpAny_loadPart_at hd ?_ | (with_reducible refine wpAny_isSubtype_exc hd ?_;rw [hB]) | wp_step)
 cases b <;> (wp_walk;exact hq)
end
noncomputable def cxM (X:Cx) (ea:Addr) (oe:Obj):Cx:={ X with A:=X.A.mark (some (.ref ea)),calm:=false,xe:=λ_ _=>False,pn:=(ea,oe) :: X.pn }
section
variable {X:Cx} {ea:Addr} {oe:Obj} {pins:List (Addr×Obj)} {σ:St} {H:Hp} {s:Shared}
theorem xk (I:Inv X pins σ H s) (hp:s.heap.get? ea=some oe/\H ea=none/\ea≠X.env.locals/\ea∉X.fs/\∀v,oe.data≠.cell v):Inv (cxM X ea oe) pins σ H s :=
  ⟨⟨I.ok.mod,I.ok.kind,I.ok.glob,I.ok.blt,I.ok.above,I.ok.inj,I.ok.has,I.ok.cab,λz=>(by cases z),I.ok.frames,I.ok.stk,I.ok.exf,I.ok.bs,I.ok.bsz,I.ok.noex,I.ok.exfs,I.ok.funs,I.ok.frf⟩,
    I.os,I.bare,I.base,I.loc,I.cell,I.free,I.freeC,λp m=>by
      rcases Zn.mp (show p∈(ea,oe) :: (X.pn++pins) from m) with rfl | m
      · exact hp
      · exact I.pin p m,I.hok,I.len⟩
theorem vy (hc:X.calm=true->X.A.handled=none) (hf:X.A.frames=some X.stack) (I:Inv (cxM X ea oe) pins σ H s):Inv X pins σ H s :=
  ⟨⟨I.ok.mod,I.ok.kind,I.ok.glob,I.ok.blt,I.ok.above,I.ok.inj,I.ok.has,I.ok.cab,hc,hf,I.ok.stk,I.ok.exf,I.ok.bs,I.ok.bsz,I.ok.noex,I.ok.exfs,I.ok.funs,I.ok.frf⟩,
    I.os,I.bare,I.base,I.loc,I.cell,I.free,I.freeC,λp m=>I.pin p (Ze _ m),I.hok,I.len⟩
end
noncomputable def tB (P:St->Prop) (b:Bool):TE:=fun σ H Q=>P σ/\∀H',aS H H'->Q (.bl b) H'
section
variable {X:Cx} {P:St->Prop} {a b e:Expr} {c d:Bool} {pos p p2 p3:Pos} {i j:Nat} {x y:Str}
theorem n6 {ea C:Addr} {oe:Obj} (Z:ExcK X.K C) (hp:(ea,oe)∈X.pn) (ho:oe.cls=.ref C) :
  dW X (.builtin "isinstance") (λxs H Q=>∃v b,xs=[.ref ea,v]/\((∃u,RelV v u/\(∀u',RelV v u'->u'=u)/\PySem.W.kitOne X.K (.ref C) u=some b) \/
   ∃p vs us,v=.ref p/\H p=some (.tup vs)/\(∀us',Vals vs us'->us'=us)/\PySem.W.kitAny X.K (.ref C) us=some b)/\Q (.bl b) H):=by
 intro pins s σ H xs us Q I r h;obtain ⟨v,b,rfl,h1,q⟩:=h;obtain ⟨u1,u2,rfl,ru,rv⟩:=Vals.two r;cases (show u1=Value.ref ea from ru)
 have fin:∀tk,EP X pins σ Q (.bool b) { s with toks:=tk }:=λtk=>⟨.bl b,H,I.tok tk,rfl,q⟩
 have hx:CY ea C s.heap:=⟨oe,(I.pin _ (Zv _ hp)).1,ho⟩;rcases h1 with ⟨u,r1,r2,e⟩ | ⟨p,vs,ws,rfl,hv,r2,e⟩
 ·cases r2 _ rv
  exact PySem.W.kia_one (pv Z) I.kIn hx e (λz=>nomatch z) fin
 ·cases (show u2=Value.ref p from rv)
  obtain ⟨_,its,k1,o,k2,k3,n,k4⟩:=(show fW X.prog X.w H s.heap p (.tup vs) from I.hok p _ hv)
  cases r2 _ k1;obtain ⟨oc,od,odt,osl⟩:=o;cases k3;cases k4;exact PySem.W.kia_tup (pv Z) I.kIn hx k2 e (λz=>nomatch z) fin
end
noncomputable def tCs (Ds:List Addr):TA:=λ_ H Q=>Q (Ds.map V.ref) H
theorem kK:∀(Ds:List Addr) (us:List Value),Vals (Ds.map V.ref) us->us=Ds.map Value.ref:=by
 intro Ds
 induction Ds with
 |nil=>exact λus h=>Vals.zero h
 |cons D r ih =>
  intro us h;cases h with
  |cons q t =>
   rw [Zj,ih _ t];exact congrArg (· :: _) (show _=Value.ref D from q)
structure Xs (X:Cx) (C ea:Addr) (oe:Obj):Prop where
 k:ExcK X.K C
 pin:(ea,oe)∈X.pn
 ob:oe.cls=.ref C
section
variable {X:Cx} {P:St->Prop} {es:List Expr} {c:Bool} {pos p p2 p3:Pos} {i j x1:Nat} {x y:Str} {C ea D:Addr} {oe:Obj} {Ds:List Addr}
theorem x9:PA X [] (tCs []):=c_
theorem jy (hg:Gl X x) (hm:X.mg x=some (.ref D)) (h:PA X es (tCs Ds)) (hd:(x == ("__debug__" : Str))=false:=by decide) (hs:starEach (.Name x p :: es) X.env=(false,eval (.Name x p) X.env) :: starEach es X.env:=by rfl) :
  PA X (.Name x p :: es) (tCs (D :: Ds)):=λps pins s σ H Q I q=>bc (lr (v:=.ref D) hg hm rfl hd) h hs ps pins s σ H Q I q
theorem ll (Z:Xs X C ea oe) (hP:∀σ,P σ->σ[i]?=some (some (.ref ea))) (hN:X.N[i]?=some y) (hv:Vis X.env.scope y) (hgi:Gl X "isinstance") (hmi:X.mg "isinstance" = none) (hg:Gl X x) (hm:X.mg x=some (.ref D))
  (e:PySem.W.kitOne X.K (.ref C) (.ref D)=some c) (hd:(x == ("__debug__" : Str))=false:=by decide) (hdy:(y == ("__debug__" : Str))=false:=by decide) (hcd:(y == ("__classdict__" : Str))=false:=by decide)
  (hs1:starEach [.Name y p2,.Name x p3] X.env=(false,eval (.Name y p2) X.env) :: starEach [.Name x p3] X.env:=by rfl) (hs2:starEach [.Name x p3] X.env=(false,eval (.Name x p3) X.env) :: starEach [] X.env:=by rfl)
  (hpl:(backTo pos (starEach [.Name x p3] X.env)).any (·.1)=false:=by rfl) :
  PE X (.Call (.Name "isinstance" p) [.Name y p2,.Name x p3] [] pos) (tB P c) :=
 peI (i6 (n6 Z.k Z.pin Z.ob) hgi hmi d8 (bc (eS hN hv hdy hcd) (bc (lr (v:=.ref D) hg hm rfl hd) c_ hs2) hs1) (by decide) (by decide) hs1 hpl) fun σ H Q q =>
  ⟨_,hP σ q.1,_,c,rfl,.inl ⟨.ref D,rfl,λ_ h=>h,e⟩,q.2 H (aS.refl _)⟩
theorem rz {T:String} (Z:Xs X C ea oe) (hP:∀σ,P σ->σ[i]?=some (some (.ref ea))) (hN:X.N[i]?=some y) (hv:Vis X.env.scope y) (hgi:Gl X "isinstance") (hmi:X.mg "isinstance" = none) (hg:Gl X x) (hm:X.mg x=none) (hT:bootBuiltins x=some (.type T))
  (e:PySem.W.kitOne X.K (.ref C) (.type T)=some c) (hn:x ≠ "__name__" := by decide) (hd:(x == ("__debug__" : Str))=false:=by decide) (hdy:(y == ("__debug__" : Str))=false:=by decide) (hcd:(y == ("__classdict__" : Str))=false:=by decide)
  (hs1:starEach [.Name y p2,.Name x p3] X.env=(false,eval (.Name y p2) X.env) :: starEach [.Name x p3] X.env:=by rfl) (hs2:starEach [.Name x p3] X.env=(false,eval (.Name x p3) X.env) :: starEach [] X.env:=by rfl)
  (hpl:(backTo pos (starEach [.Name x p3] X.env)).any (·.1)=false:=by rfl) :
  PE X (.Call (.Name "isinstance" p) [.Name y p2,.Name x p3] [] pos) (tB P c) :=
 peI (i6 (n6 Z.k Z.pin Z.ob) hgi hmi d8 (bc (eS hN hv hdy hcd) (bc (q_ (v:=V.ty T) hg hm hT rfl hn hd) c_ hs2) hs1) (by decide) (by decide) hs1 hpl) fun σ H Q q =>
  ⟨_,hP σ q.1,_,c,rfl,.inl ⟨.type T,rfl,λ_ h=>h,e⟩,q.2 H (aS.refl _)⟩
theorem rQ (Z:Xs X C ea oe) (hP:∀σ,P σ->σ[i]?=some (some (.ref ea))) (hN:X.N[i]?=some y) (hv:Vis X.env.scope y) (hgi:Gl X "isinstance") (hmi:X.mg "isinstance" = none) (ht:PA X es (tCs Ds)) (hl:Ds.length<=9)
  (e:PySem.W.kitAny X.K (.ref C) (Ds.map Value.ref)=some c) (hdy:(y == ("__debug__" : Str))=false:=by decide) (hcd:(y == ("__classdict__" : Str))=false:=by decide)
  (hs1:starEach [.Name y p2,.Tuple es x1 p3] X.env=(false,eval (.Name y p2) X.env) :: starEach [.Tuple es x1 p3] X.env:=by rfl) (hs2:starEach [.Tuple es x1 p3] X.env=(false,eval (.Tuple es x1 p3) X.env) :: starEach [] X.env:=by rfl)
  (hpl:(backTo pos (starEach [.Tuple es x1 p3] X.env)).any (·.1)=false:=by rfl) :
  PE X (.Call (.Name "isinstance" p) [.Name y p2,.Tuple es x1 p3] [] pos) (tB P c) :=
 peI (i6 (n6 Z.k Z.pin Z.ob) hgi hmi d8 (bc (eS hN hv hdy hcd) (bc (mz ht) c_ hs2) hs1) (by decide) (by decide) hs1 hpl) fun σ H Q q =>
  ⟨_,hP σ q.1,by rw [Zc];exact ZE hl (by decide),λp hp=>⟨_,c,rfl,.inr ⟨p,_,_,rfl,bU,kK Ds,e⟩,q.2 _ λa o z=>by rw [aU (bj z hp)];exact z⟩⟩
end
section
variable {P:Program} {w:World} {fs:List Addr} {H1 H':Hp} {h1 hs h5 B:Heap}
theorem Ag (un:Un fs [] H1 H' h1 hs) (hok:HOk P w H' hs) (stay:B.StaysIn h5) (up:hs.UpToSlots h5) (cov:∀b o,hs.get? b=some o->b∉fs->(H' b≠none\/h1.get? b≠none)->B.get? b=some o)
  (hf:∀b∈fs,∀o,hs.get? b=some o->∀vs,o.data≠.fields vs) (hn:∀b∈fs,H' b=none):Un fs [] H1 H' h1 h5/\HOk P w H' h5:=by
 refine ⟨⟨λb o q n hb hx=>?_,λb o q n hb hx=>?_,un.free,λb o q hx=>?_,un.tups,un.frzs,un.tbls⟩,λb u e=>?_⟩
 ·exact stay b o (cov b o (un.keep b o q n hb hx) hb (.inr (by rw [q];simp)))
 ·obtain ⟨sl,e1⟩:=un.slot b o q n hb hx
  obtain ⟨sl',e2⟩:=up b _ e1 (hf b hb _ e1);exact ⟨sl',e2⟩
 ·obtain ⟨o',e1⟩:=un.there b o q hx
  by_cases hb:b∈fs
  ·obtain ⟨sl',e2⟩:=up b _ e1 (hf b hb _ e1)
   exact ⟨_,e2⟩
  ·exact ⟨o',stay b o' (cov b o' e1 hb (.inr (by rw [q];simp)))⟩
 ·have tr:∀c,H' c≠none->∀v,hs.get? c=some v->h5.get? c=some v:=λc hc v q=>stay c v (cov c v q (λm=>hc (hn c m)) (.inl hc))
  refine (hok b u e).stay (λc v hc q=>tr c ?_ v q) (λ_ q=>q) λ_ _ q=>q
  rcases hc with rfl | hc
  ·rw [e];simp
  ·rw [hc];simp
end
section
variable {X:Cx} {pins:List (Addr×Obj)} {σ:St} {H:Hp} {s:Shared} {i:Nat} {n:Str}
theorem se {M:Model} {A:Around} {E:Value->Shared->Prop} {v:V} {Q:Unit->Shared->Prop} (I:Inv X pins σ H s) (hN:X.N.Nodup) (hi:X.N[i]?=some n) (hl:X.env.scope.names.lookup n=some .local) (hv:σ[i]?=some (some v))
  (h:∀s',Inv X pins (σ.set i none) H s'->Q () s'):wpAny M A (unbindName X.env n) Q E s:=by
 obtain ⟨m,hn,hm⟩:=id I.loc;have cne:=I.cne;have hp:(X.env.scope.kind == .class || (X.env.scope.kind == .module && X.env.locals != X.env.globals))=false:=by rw [I.ok.kind];rfl
 obtain ⟨u,_,lk⟩:=hm i n v hi hv (.inl hl);have hu:m n=some u:=by
  rcases lk with ⟨_,e⟩ | ⟨e,_⟩
  ·exact e
  ·rcases e with e | e
   ·rw [show X.env.kindOf n=some .local from hl]at e;cases e
   ·rw [show X.env.kindOf n=some .local from hl]at e;cases e
 obtain ⟨oL,_,_,hoL,_⟩:=id hn;refine wpAny_unbindName_local hl hn hu hp λh' u' hn' hs=>h _ ?_
 have old:∀b o,X.s₀.heap.get? b=some o->b≠X.env.locals:=λb o e=>Nat.ne_of_lt (ZG (Heap.lt_size e) I.ok.above)
 refine ⟨I.ok,I.os,I.bare,⟨?_,?_,I.base.free,?_,I.base.tups,I.base.frzs,I.base.tbls⟩,⟨_,hn',?_⟩,?_,I.free,I.freeC,?_,?_,?_⟩
 ·exact λb o e n1 n2 n3=>(hs.2 b (old b o e)).trans (I.base.keep b o e n1 n2 n3)
 ·exact λb o e n1 n2 n3=>(I.base.slot b o e n1 n2 n3).imp λsl q=>(hs.2 b (old b o e)).trans q
 ·exact λb o e n1=>(I.base.there b o e n1).imp λo' q=>(hs.2 b (old b o e)).trans q
 ·intro j y v' e1 e2 e3
  by_cases hj:j=i
  ·subst hj
   rw [List.getElem?_set]at e2;split at e2
   ·split at e2 <;> cases e2
   ·rename_i z
    exact absurd rfl z
  ·rw [List.getElem?_set_ne (Ne.symm hj)]at e2
   obtain ⟨w',r',q⟩:=hm j y v' e1 e2 e3;refine ⟨w',r',q.imp (λz=>⟨z.1,?_⟩) λz=>⟨z.1,?_⟩⟩
   ·have ny:y≠n:=λe=>hj (lV hN e1 (e▸hi))
    show (if y=n then u' else m y)=some w'
    rw [if_neg ny];exact z.2
   ·obtain ⟨_,c,e,z'⟩:=z
    exact ⟨c,e,z'.sameBut hs (cne y c e)⟩
 ·exact λy c e=>(I.cell y c e).imp λw' z=>z.sameBut hs (cne y c e)
 ·exact λp m=>let ⟨q1,q2,q3,q4,q5⟩:=I.pin p m;⟨(hs.2 p.1 q3).trans q1,q2,q3,q4,q5⟩
 ·intro b ob e
  refine (I.hok b ob e).stay (λc w' hc q=>(hs.2 c ?_).trans q) (λ_ q=>q) λ_ _ q=>q
  intro z;subst z;rcases hc with z | hc
  ·rw [<-z,I.free]at e;cases e
  ·rw [I.free]at hc;cases hc
 ·rw [ZH]
  exact I.len
end
section
variable {X:Cx} {pins:List (Addr×Obj)} {σ:St} {H1:Hp} {s1 s':Shared} {E':XK} {ev:Value} {D:Addr} {dx n:Str} {b0:Stmt} {suite:List Stmt} {hpos np:Pos} {Q:Flow->Shared->Prop} {E:Value->Shared->Prop} {i j:Nat}
theorem xo (I:Inv X pins σ H1 s1) (x:CXE X.prog X.w X.stack H1 s1 E' ev s') (hst:X.stack=X.env :: X.outer) (hfr:X.env.frame=some X.env.locals) {nm:Option Str}
  (hD:PySem.W.excIn X.K D vE vN=true) (hgD:Gl X dx) (hmD:X.mg dx=some (.ref D)) (hd:(dx == ("__debug__" : Str))=false)
  (h:∀ea cls H' ,ev=.ref ea->E' cls none H'->∃C,cls=.ref C/\PySem.W.subIn X.K (.ref C) (.ref D)=some true /\
   ∀s5,(∀(Q':Unit->Shared->Prop) (E'':Value->Shared->Prop),(∀oe s6,oe.cls=.ref C->Inv (cxM X ea oe) pins σ H' s6->Q' () s6)->wpAny (model X.prog X.w) (X.A.mark (some (.ref ea))) (setFlight (.ref ea) none) Q' E'' s5) ->
    codeAny (model X.prog X.w) (X.A.mark (some (.ref ea))) (.handlers (.ref ea) [.ExceptHandler none nm (b0 :: suite) hpos] X.env) (λr s₂=>match r with
     |.ok f=>(match nm with
      |none=>Q f s₂
      |some n=>wpAny (model X.prog X.w) X.A (do bindName X.env n .none;unbindBehindTheSuite X.env n hpos) (λ_ s₃=>Q f s₃) E s₂)
     |.error x=>cameBackBy (model X.prog X.w) X.A X.env E x s₂) s5) :
  wpAny (model X.prog X.w) X.A (noteFrame ev X.env) (λ_ s₂=>wpAny (model X.prog X.w) X.A (setFlight ev none) (λ_ s₃ =>
   wpAny (model X.prog X.w) X.A (handleBy ev X.env [.ExceptHandler (some (.Name dx np)) nm (b0 :: suite) hpos]) Q E s₃) E s₂) E s':=by
 obtain ⟨ea,cls,a0,B,H',rfl,os,bare,un,hok,fl,cov,hE'⟩:=x;obtain ⟨C,rfl,hsub,hh⟩:=h ea cls H' rfl hE';have J:Inv X pins σ H' s':=I.call' os un hok bare λb z=>absurd z (by simp)
 have nf:∀b∈frs X.stack,∀o,s'.heap.get? b=some o->∀vs,o.data≠.fields vs:=λb m o q vs=>by
  obtain ⟨_,o',q',k⟩:=J.stack.mem m;rw [q]at q';cases q';exact k vs
 have later:∀h5,B.StaysIn h5->s'.heap.UpToSlots h5->Inv X pins σ H' { s' with heap:=h5 }:=λh5 st up=>by
  obtain ⟨u5,k5⟩:=Ag un hok st up cov nf J.stkFree;exact I.call' (s':={ s' with heap:=h5 }) os u5 k5 bare λb z=>absurd z (by simp)
 obtain ⟨oe,vs,hoe,hoc,hod,_⟩:=fl.first
 have eaF:ea∉frs X.stack:=λm=>nf ea m oe hoe vs hod
 have eaN:H' ea=none:=by
  cases z:H' ea with
  |none=>rfl
  |some u =>
   have q:=cov ea oe hoe eaF (.inl (by rw [z];simp))
   rw [fl.2.1]at q;cases q
 have eaL:ea≠X.env.locals:=λz=>eaF (by rw [hst,jb hfr,z];exact Zf)
 have eaO:ea∉X.fs:=λm=>eaF (by rw [hst,jb hfr];exact Ze _ m)
 have mk:∀h5 o v,h5.get? ea=some o->o.data=.fields v->Inv X pins σ H' { s' with heap:=h5 }->Inv (cxM X ea o) pins σ H' { s' with heap:=h5 }:=λh5 o v q1 q2 I5 =>
  xk I5 ⟨q1,eaN,eaL,eaO,λz=>by rw [q2];intro y;cases y⟩
 rw [hst]at fl;refine wpAny_looks_onW (by rw [<-hst];exact I.ok.frames) hfr fl λh4 fl4 up4=>?_
 refine wpAny_landsW fl4 λh5 fl5 up5=>?_
 have I5:=later h5 fl5.1 (up4.trans up5);obtain ⟨oe5,vs5,hoe5,hoc5,hod5,_⟩:=fl5.first
 have M5:=mk h5 oe5 vs5 hoe5 hod5 I5;refine wpAny_handleBy_cons (codeAny_handlers_test ?_) (by intro q;cases q)
 refine jj (X:=cxM X ea oe5) M5 hgD hmD ?_ hd;refine AI (h:=h5) (K:=X.K) I5.kIn hD hsub hoe5 hoc5 ?_;refine hh _ λQ' E'' hq=>?_
 refine lands_againW fl5 λh6 fl6 up6=>?_
 obtain ⟨oe6,vs6,hoe6,hoc6,hod6,_⟩:=fl6.first
 exact hq oe6 _ hoc6 (mk h6 oe6 vs6 hoe6 hod6 (later h6 fl6.1 ((up4.trans up5).trans up6)))
end
section
variable {X:Cx} {pins:List (Addr×Obj)} {σ:St} {H':Hp} {C ea:Addr} {n:Str} {b0:Stmt} {suite:List Stmt} {hpos:Pos} {Q:Flow->Shared->Prop} {E:Value->Shared->Prop} {i j:Nat} {b:Bool}
end
theorem Cv {X:Cx} {xe:Value->Shared->Prop} {pins:List (Addr×Obj)} {σ:St} {H:Hp} {s:Shared} (I:Inv X pins σ H s):Inv { X with xe:=xe } pins σ H s :=
  ⟨⟨I.ok.mod,I.ok.kind,I.ok.glob,I.ok.blt,I.ok.above,I.ok.inj,I.ok.has,I.ok.cab,I.ok.hd,I.ok.frames,I.ok.stk,I.ok.exf,I.ok.bs,I.ok.bsz,I.ok.noex,I.ok.exfs,I.ok.funs,I.ok.frf⟩,
    I.os,I.bare,I.base,I.loc,I.cell,I.free,I.freeC,I.pin,I.hok,I.len⟩
theorem zA {X:Cx} {xe:Value->Shared->Prop} {pins:List (Addr×Obj)} {σ:St} {H:Hp} {s:Shared} (I:Inv { X with xe:=xe } pins σ H s):Inv X pins σ H s :=
  ⟨⟨I.ok.mod,I.ok.kind,I.ok.glob,I.ok.blt,I.ok.above,I.ok.inj,I.ok.has,I.ok.cab,I.ok.hd,I.ok.frames,I.ok.stk,I.ok.exf,I.ok.bs,I.ok.bsz,I.ok.noex,I.ok.exfs,I.ok.funs,I.ok.frf⟩,
    I.os,I.bare,I.base,I.loc,I.cell,I.free,I.freeC,I.pin,I.hok,I.len⟩
section
variable {M:Mx} {X:Cx} {k:Nat} {f:Addr} {fd:FuncData} {ps:List Str} {x dx:Str} {p pos cpos epos hpos np:Pos} {fn:Fn} {al:Fa} {e:Expr} {es:List Expr} {D:Addr} {nm:Option Str} {b0:Stmt} {suite:List Stmt} {ok:L3.Env->Bool} {j:Nat} {tbl:List (Str×Bool)}
end
theorem oM {P:Program} {w:World} {K:PySem.W.Frag} {mg:Str->Option Value} {base:Heap} {x qual:Str} {st:Stmt} {f:Addr} {fd:FuncData} {N ps:List Str} {k np n:Nat} {body:Fs} {fn:Fn} (hf:fn=bx np n body) (hp:ps.length=np) (hn:N.length=n) (F:Fun K x qual st f fd) (S:FnScope N ps (aq st))
  (h:∀(cdv:Value) (A:Around) (outer:List PySem.Env) (s:Shared) (H:Hp) (E:XK),Room k (A.deeper (envOfC qual (aq st) s.heap.objs.size f cdv))->DSs ⟨K,mg,E⟩ (iQ (CXE P w) P w K mg base N qual (aq st) f cdv A outer s H E) (aP st) body) :
  FnOk P w K mg base (CXE P w) (k+1) f fd ps (sp3 K mg fn):=by
 subst hf hp hn;have hpl:ps.length<=N.length:=by
  have:=congrArg List.length S.pre;rw [ZC]at this
  lia
 have hlen:∀vs H Q E,sp3 K mg (bx ps.length N.length body) vs H Q E->vs.length=ps.length:=by
  rintro vs H Q E ⟨F,ds,sm,ra,p⟩;by_cases hl:ds.length=ps.length
  ·rw [RepAll.len ra]
   exact hl
  ·unfold bx at p
   rw [if_neg hl]at p;exact p.elim
 obtain ⟨oc,od,kV,doc,pm,an,cdv,ct,osl,rfl,lk,hcd⟩:=F.ex;refine yF lk hcd S hlen λA outer s H vs Q E hr hs=>?_
 have hvl:=hlen _ _ _ _ hs;obtain ⟨F0,ds,sm,ra,p⟩:=hs;have hdl:ds.length=ps.length:=by rw [<-RepAll.len ra];exact hvl
 unfold bx at p;rw [if_pos hdl]at p;refine ⟨_,h cdv A outer s H E hr rfl rfl,F0,kg N.length ds,[],⟨sm,?_,List.nodup_nil,(λ_ m=>by cases m),?_⟩,(aM.bind p).mono λo po=>?_⟩
 ·unfold L2.start kg
  rw [hvl,hdl];exact kM _ ra
 ·unfold kg
  show _=N.length
  rw [Zd,Zc,List.length_replicate,hdl]
  lia
 ·cases o with
  |nx ρ=>exact fun σ' F' H' fp' S' st=>po .non F' H' [] ⟨st.ff,λa o q=>st.keep a o q (by simp),S'.same,λa q z=>st.nw a q (by simp) z⟩ (Res.sh .non) λ_ m=>by cases m
  |rt y=>exact λv F' H' fx sm' r st=>po v F' H' fx ⟨st.ff,λa o q=>st.keep a o q (by simp),sm',λa q z=>st.nw a q (by simp) z⟩ r λa m=>(st.new a m).elim (λz=>by cases z) id
  |bk ρ=>exact po.elim
  |ct ρ=>exact po.elim
section
variable {M:Mx} {X:Cx} {e:Expr} {pos:Pos} {fa:Fe}
end
end L3
namespace L3
open PySem L2
section
variable {c:Str} {ρ:L3.Env} {p:Fs}
theorem cN:sy (.ex c) p=.ex c:=rfl
theorem qH {r:R (List OD)}:tH (.ex c) r=.ex c:=rfl
theorem cO:wQ (.ex c)=.ex c:=rfl
theorem cE (c:Str):fK c ρ=.ex c:=rfl
end
end L3
namespace L3
open PySem L2 PySem.Spec PyProof.Rows
section
variable {M:Mx} {X:Cx} {e:Expr} {pos p2:Pos} {fa:Fe}
end
noncomputable def eCh (a b c:Fe):Fe:=fun ρ=>(a ρ).bind λx=>(b ρ).bind λy=>match x.er,y.er with
 |.int i,.int j=>if i<=j then (c ρ).bind λz=>(match z.er with
  |.int k=>oB (decide (j<=k))
  |_=>.bad) else oB false
 |_,_=>.bad
noncomputable def tCh (ta tb tc:TE):TE:=fun σ H Q=>ta σ H λx H1=>tb σ H1 λy H2=>∃i j,x=.int i/\y=.int j/\if i<=j then tc σ H2 λz H3=>∃k,z=.int k/\Q (.bl (decide (j<=k))) H3 else Q (.bl false) H2
section
variable {M:Mx} {X:Cx} {a b c:Expr} {pos:Pos} {fa fb fc:Fe}
theorem E9 {ta tb tc:TE} (ha:PE X a ta) (hb:PE X b tb) (hc:PE X c tc) (hm:lastMarks [.LtE,.LtE] [b,c]=false:=by with_unfolding_all rfl):PE X (.Compare a [.LtE,.LtE] [b,c] pos) (tCh ta tb tc):=by
 intro pins s σ H Q I h;refine Compare_chain (thn (ha pins s σ H _ I h) λv s1 ⟨x,H1,I1,r1,q1⟩=>chain_link (thn (hb pins s1 σ H1 _ I1 q1) λu s2 ⟨y,H2,I2,r2,q2⟩=>?_)) hm
 obtain ⟨i,j,rfl,rfl,q⟩:=q2;obtain ⟨t1,rfl⟩:=r1;obtain ⟨t2,rfl⟩:=r2;refine le_int (wpAny_truthy_bool ?_);by_cases hij:i<=j
 ·rw [if_pos hij]at q
  rw [decide_eq_true hij,if_pos rfl];refine chain_last (thn (hc pins s2 σ H2 _ I2 q) λz s3 ⟨w,H3,I3,r3,q3⟩=>?_)
  obtain ⟨k,rfl,q3⟩:=q3;obtain ⟨t3,rfl⟩:=r3;exact le_int ⟨.bl _,H3,I3,rfl,q3⟩
 ·rw [if_neg hij]at q
  rw [decide_eq_false hij,if_neg (by simp)]
  exact ⟨.bl false,H2,I2,rfl,q⟩
theorem GH {n:Nat} {σ:St} {H:Hp} {Q:VK} (h:tD M n (eCh fa fb fc) σ H Q):tCh (tD M n fa) (tD M n fb) (tD M n fc) σ H Q:=by
 obtain ⟨F,ρ,fp,S,p⟩:=h;refine ⟨F,ρ,fp,S,(aM.bind p).mono λx px v F1 H1 fx e1 r1 w1=>?_⟩
 obtain ⟨G1,d1,k1⟩:=r1.frz e1 w1;refine ⟨G1,ρ,fp,S.ext d1,((aM.bind px).ext d1).mono λy py v2 F2 H2 fy e2 r2 w2=>?_⟩
 obtain ⟨G2,d2,k2⟩:=r2.frz e2 w2;have py2:=py.ext (d1.trans d2);split at py2
 ·rename_i i j hi hj
  rw [hi]at k1;rw [hj]at k2;cases k1;cases k2;refine ⟨i,j,rfl,rfl,?_⟩;split at py2
  ·rename_i hij
   rw [if_pos hij];refine ⟨G2,ρ,fp,(S.ext d1).ext d2,(aM.bind py2).mono λz pz v3 F3 H3 fz e3 r3 w3=>?_⟩
   obtain ⟨G3,d3,k3⟩:=r3.frz e3 w3;split at pz
   ·rename_i k hk
    rw [hk]at k3;cases k3;exact ⟨k,rfl,OkE.val d3.fh (OkE.pre ((d1.trans d2).trans d3) pz) (.bl _)⟩
   ·exact pz.elim
  ·rename_i hij
   rw [if_neg hij];exact OkE.val d2.fh (OkE.pre (d1.trans d2) py2) (.bl false)
 ·exact py2.elim
theorem E7 (ha:DE M X a fa) (hb:DE M X b fb) (hc:DE M X c fc) (hm:lastMarks [.LtE,.LtE] [b,c]=false:=by with_unfolding_all rfl):DE M X (.Compare a [.LtE,.LtE] [b,c] pos) (eCh fa fb fc):=λhK hM =>
 peI (E9 (ha hK hM) (hb hK hM) (hc hK hM) hm) λ_ _ _ q=>GH q
end
theorem Gz {fa fb fc:Fe} {ρ:L3.Env} {x y z:OD} {i j k:Int} (h1:fa ρ=.ok x) (h2:x.er=.int i) (h3:fb ρ=.ok y) (h4:y.er=.int j) (h5:fc ρ=.ok z) (h6:z.er=.int k):eCh fa fb fc ρ=.ok (.sh (.bool (decide (i<=j/\j<=k)))):=by
 unfold eCh;rw [h1,a9,h3,a9];simp only [h2,h4];by_cases hij:i<=j
 ·rw [if_pos hij,h5,a9]
  simp only [h6];unfold oB;simp [hij]
 ·rw [if_neg hij]
  unfold oB;simp [hij]
noncomputable def ni:List PyData->Option (List Bool)
 |[]=>some []
 |.bool b :: r=>(ni r).map (b :: ·)
 |_ :: _=>none
noncomputable def vL:List PyData->R OD
 |[.list ds]=>(match ni ds with
  |some bs=>oB (bs.all id)
  |none=>.bad)
 |_=>.bad
noncomputable def Fb (K:PySem.W.Frag):List V->Hp->VK->Prop:=λxs H Q=>∃(a:Addr) (bs:List Bool),xs=[.ref a]/\RdK K H a (bs.map V.bl)/\Q (.bl (bs.all id)) H
theorem p_:∀{bs:List Bool} {us:List Value},Vals (bs.map V.bl) us->us=bs.map Value.bool:=by
 intro bs
 induction bs with
 |nil=>exact λh=>Vals.zero h
 |cons b r ih =>
  intro us h;cases h with
  |cons q t =>
   rw [Zj,ih t];exact congrArg (· :: _) (show _=Value.bool b from q)
end L3
namespace L3
open PySem L2 PySem.Spec PyProof.Rows PySem.W
section
variable {M:Mx} {X:Cx}
theorem vB (hc:X.calm=true):dW X (.builtin "all") (Fb X.K):=by
 intro pins s σ H xs us Q I r h;obtain ⟨a,bs,rfl,hq,q⟩:=h;obtain ⟨u,rfl,ru⟩:=Vals.one r;cases (show u=Value.ref a from ru)
 obtain ⟨its,rv,pl,hz⟩:=I.list hq.sq;have hi:=p_ rv;subst hi;have hl:=pl.isList;have na:a<s.heap.objs.size:=by
  obtain ⟨_,z,_⟩:=hl;exact Heap.lt_size z
 have sz:(bs.map Value.bool).toArray.size=bs.length:=by simp
 refine PySem.call_all_walk (wpAny_pyIter_list hl ⟨s.heap.objs.size,[s.heap.objs.size,a],[s.heap.objs.size],(bs.map Value.bool).toArray.size,_,_,λi=>(bs[i]?).getD true,rfl,
  Walks.list (A:=X.A.in1) (I.ok.hd hc) _ a (Nat.ne_of_lt na) (bs.map Value.bool).toArray,⟨⟨_,Heap.get?_push_size _ rfl,rfl,rfl⟩,hl.push _⟩,λi v s' Q' E' hP hQ=>?_,λh' tk hk=>?_⟩)
 ·have hv:(bs.map Value.bool)[i]?=some v:=by simpa using hP
  rw [Za]at hv;obtain ⟨b,hb,rfl⟩:=Zo.mp hv;simp only [hb,Option.getD_some]at hQ;exact wpAny_truthy_bool hQ
 ·have e:((List.range (bs.map Value.bool).toArray.size).all λi=>(bs[i]?).getD true)=bs.all id:=by
   rw [sz];exact LSm.range_all bs
  rw [e];exact ⟨.bl _,H,I.kept (LSm.kept_iter hk),rfl,q⟩
theorem rW:∀{ds:List PyData} {bs:List Bool},ni ds=some bs->ds=bs.map PyData.bool:=by
 intro ds
 induction ds with
 |nil =>
  intro bs h;cases h;rfl
 |cons d r ih =>
  intro bs h;cases d with
  |bool b =>
   unfold ni at h;obtain ⟨cs,h1,rfl⟩:=Zo.mp h;rw [ih h1];rfl
  |_=>cases h
theorem Fp {K:PySem.W.Frag} {F:Hp}:∀{bs:List Bool} {vs:List V},RepAll K F vs (bs.map PyData.bool)->vs=bs.map V.bl:=by
 intro bs
 induction bs with
 |nil =>
  intro vs h;cases h;rfl
 |cons b r ih =>
  intro vs h;cases h with
  |cons q t =>
   cases q;rw [ih t];rfl
theorem Bx (hK:X.K=M.K):OkC M (Fb X.K) vL:=by
 rw [hK];intro x dx F H fp Q s rx p;unfold vL at p;split at p
 ·rename_i ds
  split at p
  ·rename_i bs hb
   cases rx with
   |cons r t =>
    cases t;have e:=rW hb;subst e;cases r with
    |lst h1 h2 =>
     have e2:=Fp h2;subst e2;exact ⟨_,bs,rfl,h1.same s,OkE.val s p (.bl _)⟩
  ·exact p.elim
 ·exact p.elim
end
theorem tX:∀bs:List Bool,ni (bs.map PyData.bool)=some bs:=by
 intro bs
 induction bs with
 |nil=>rfl
 |cons b r ih =>
  rw [Zj];unfold ni;rw [ih];rfl
theorem Dg (bs:List Bool):vL [.list (bs.map PyData.bool)]=.ok (.sh (.bool (bs.all id))):=by
 have e:=tX bs;unfold vL;simp only [e];rfl
end L3
namespace L3
open PySem L2
noncomputable def pS (S:L3.Env->Prop) (T:Prop) (c:Str):R Out->Prop
 |.ok (.nx ρ)=>S ρ
 |.ok (.ct ρ)=>S ρ
 |.ex e=>e=c/\T
 |_=>False
theorem Ea {S:L3.Env->Prop} {T:Prop} {c:Str} {ρ:L3.Env}:pS S T c (.ok (.nx ρ))=S ρ:=rfl
theorem uy {S:L3.Env->Prop} {T:Prop} {c:Str}:pS S T c (.ex c)=T:=by
 show (c=c/\T)=T
 simp
theorem zh {P:Prop} {g:Fg} {b:Fs} {ds:List PyData} {ρ:L3.Env} {r:R Out} (hL:bG g b ds ρ=r) (S:Nat->L3.Env->Prop) (T:Prop) (c:Str) (h0:S 0 ρ) (st:∀(i:Nat) (d:PyData) (ρ:L3.Env),ds[i]?=some d->S i ρ->pS (S (i+1)) T c (unK b (g (.sh d) ρ)))
  (fin:∀ρ',r=.ok (.nx ρ')->S ds.length ρ'->P) (fin2:r=.ex c->T->P):P:=by
 have go:∀(es:List PyData) (k:Nat) (ρ:L3.Env),S k ρ->(∀(i:Nat) (d:PyData) (ρ:L3.Env),es[i]?=some d->S (k+i) ρ->pS (S (k+i+1)) T c (unK b (g (.sh d) ρ)))->(∃ρ',bG g b es ρ=.ok (.nx ρ')/\S (k+es.length) ρ')\/(bG g b es ρ=.ex c/\T):=by
  intro es
  induction es with
  |nil=>exact λk ρ h _=>.inl ⟨ρ,rfl,h⟩
  |cons d es ih =>
   intro k ρ h st;have h1:=st 0 d ρ rfl h;have nxt:∀ρ2,S (k+0+1) ρ2->(∃ρ',bG g b es ρ2=.ok (.nx ρ')/\S (k+(d :: es).length) ρ')\/(bG g b es ρ2=.ex c/\T):=fun ρ2 h2=>by
    rcases ih (k+1) ρ2 h2 (λi d' ρ' hd hS=>by
     have:=st (i+1) d' ρ' (by simpa using hd) (by rw [show k+(i+1)=k+1+i by lia];exact hS)
     rw [show k+(i+1)+1=k+1+i+1 by lia]at this
     exact this) with ⟨ρ',a,b⟩ | q
    ·exact .inl ⟨ρ',a,by rw [Zq,show k+(es.length+1)=k+1+es.length by lia];exact b⟩
    ·exact .inr q
   rw [bG];cases hg:g (.sh d) ρ with
   |bad=>rw [hg]at h1;exact h1.elim
   |ex e =>
    rw [hg]at h1;obtain ⟨rfl,hT⟩:=h1;exact .inr ⟨rfl,hT⟩
   |ok ρ1 =>
    rw [hg]at h1;rw [a9];have h2:pS (S (k+0+1)) T c (b ρ1):=h1;cases hb:b ρ1 with
    |bad=>rw [hb]at h2;exact h2.elim
    |ex e =>
     rw [hb]at h2;obtain ⟨rfl,hT⟩:=h2;exact .inr ⟨rfl,hT⟩
    |ok o =>
     rw [hb]at h2;cases o with
     |nx ρ2=>exact nxt ρ2 h2
     |ct ρ2=>exact nxt ρ2 h2
     |bk ρ2=>exact h2.elim
     |rt x=>exact h2.elim
 rcases go ds 0 ρ h0 (λi d ρ hd hS=>by rw [Nat.zero_add]at hS ⊢;exact st i d ρ hd hS) with ⟨ρ',a,b⟩ | ⟨a,hT⟩
 ·exact fin ρ' (hL.symm.trans a) (by rw [Nat.zero_add]at b;exact b)
 ·exact fin2 (hL.symm.trans a) hT
end L3
namespace L3
open PySem L2 PySem.Spec PyProof.Rows PySem.W
noncomputable def rTx (op:Str->Str->V):V->List V->Hp->VK->Prop:=λx xs H Q=>∃a b,x=.str a/\xs=[.str b]/\a.length<=sizeLine/\Q (op a b) H
noncomputable def gTx (op:Str->Str->PyData):PyData->PyData->R OD
 |.str s,.str t=>if s.length<=BIG then .ok (.sh (op s t)) else .bad
 |_,_=>.bad
noncomputable def eTx (op:Str->Str->PyData) (a b:Fe):Fe:=fun ρ=>(a ρ).bind λx=>match x.er with
 |.str s=>if s.length<=BIG then (b ρ).bind λy=>gTx op (.str s) y.er else .bad
 |_=>.bad
section
variable {M:Mx} {X:Cx} {e a:Expr} {fa fb:Fe}
theorem mX {op:Str->Str->PyData} {opV:Str->Str->V} {name:Str} {id:String} {ap cp:Pos} (slot:Slot "str" name id) (hty:typeOf (.builtin id)=pure (.type "method_descriptor")) (hm:MtR X id (rTx opV)) (hr:∀K F a b,Rep K F (opV a b) (op a b)) (ha:DE M X a fa) (h:DE M X e fb)
  (hbase:attributeBase a name X.env (eval a X.env)=eval a X.env:=by rfl)
  (hfew:((backTo cp (starEach [e] X.env)).all (λx=>!x.1) && (backToKw cp (keywordEach [] X.env)).all (λx=>x.1.isSome) && decide (([e]:List Expr).length+([]:List Keyword).length+(if ([]:List Keyword).isEmpty then 0 else 1)<30))=true:=by rfl)
  (hline:(ap.endLine == cp.line)=true:=by rfl) (hs:starEach [e] X.env=(false,eval e X.env) :: starEach [] X.env:=by rfl) (hplain:(backTo cp (starEach [] X.env)).any (·.1)=false:=by rfl) :
  DE M X (.Call (.Attribute a name ap) [e] [] cp) (eTx op fa fb):=λhK hM=>by
 have q:=pX (apos:=ap) (cpos:=cp) PySem.F.plainAttrs_str slot hty hm (ha hK hM) (bc (h hK hM) c_ hs) hbase hfew hline hs hplain;refine peI q fun σ H Q h=>?_
 obtain ⟨F,ρ,fp,S,p⟩:=h;refine ⟨F,ρ,fp,S,(aM.bind p).mono λx px v F1 H1 fx e1 r1 w1=>?_⟩
 obtain ⟨G1,d1,k1⟩:=r1.frz e1 w1;generalize x.er=d at px k1
 cases k1 with
 |str z =>
  have px':aM M H fp (OkE M F H Q) (if z.length<=BIG then (fb ρ).bind λy=>gTx op (.str z) y.er else .bad):=px
  split at px'
  ·rename_i hz
   refine ⟨rfl,G1,ρ,fp,S.ext d1,((aM.bind px').ext d1).mono λy py w F2 H2 fy e2 r2 w2=>?_⟩
   obtain ⟨G2,d2,k2⟩:=r2.frz e2 w2;generalize y.er=d' at py k2
   cases k2 with
   |str z2 =>
    have py':aM M H fp (OkE M F H Q) (if z.length<=BIG then .ok (.sh (op z z2)) else .bad):=py
    rw [if_pos hz]at py';exact ⟨z,z2,rfl,rfl,ia hz,OkE.val d2.fh (OkE.pre (d1.trans d2) py') (hr _ _ _ _)⟩
   |non=>exact py.elim
   |bl _=>exact py.elim
   |int _=>exact py.elim
   |dct _ _ _=>exact py.elim
   |lst _ _=>exact py.elim
   |tup _ _=>exact py.elim
  ·exact px'.elim
 |non=>exact px.elim
 |bl _=>exact px.elim
 |int _=>exact px.elim
 |dct _ _ _=>exact px.elim
 |lst _ _=>exact px.elim
 |tup _ _=>exact px.elim
noncomputable def l4:List PyData->Option (List Str)
 |[]=>some []
 |.str s :: r=>(l4 r).map (s :: ·)
 |_ :: _=>none
noncomputable def gJn (s:Str):PyData->R OD
 |.list ds=>(match l4 ds with
  |some ts=>if JoinOk s ts=true then .ok (.sh (.str (Txt.join s ts))) else .bad
  |none=>.bad)
 |_=>.bad
noncomputable def eJn (a b:Fe):Fe:=fun ρ=>(a ρ).bind λx=>match x.er with
 |.str s=>(b ρ).bind λy=>gJn s y.er
 |_=>.bad
theorem sT:∀{ds:List PyData} {ts:List Str},l4 ds=some ts->ds=ts.map PyData.str:=by
 intro ds
 induction ds with
 |nil =>
  intro bs h;cases h;rfl
 |cons d r ih =>
  intro bs h;cases d with
  |str b =>
   unfold l4 at h;obtain ⟨cs,h1,rfl⟩:=Zo.mp h;rw [ih h1];rfl
  |_=>cases h
theorem uC (ts:List Str):l4 (ts.map PyData.str)=some ts:=by
 induction ts with
 |nil=>rfl
 |cons b r ih =>
  rw [Zj];unfold l4;rw [ih];rfl
theorem EB {K:PySem.W.Frag} {F:Hp}:∀{ts:List Str} {vs:List V},RepAll K F vs (ts.map PyData.str)->vs=ts.map V.str:=by
 intro bs
 induction bs with
 |nil =>
  intro vs h;cases h;rfl
 |cons b r ih =>
  intro vs h;cases h with
  |cons q t =>
   cases q;rw [ih t];rfl
theorem xH:∀{ts:List Str} {us:List Value},Vals (ts.map V.str) us->∃l:List (Str×Tok),us=strValues l/\l.map (·.1)=ts:=by
 intro ts
 induction ts with
 |nil =>
  intro us h;cases h;exact ⟨[],rfl,rfl⟩
 |cons b r ih =>
  intro us h;cases h with
  |cons q t =>
   obtain ⟨k,rfl⟩:=q;obtain ⟨l,rfl,h2⟩:=ih t;exact ⟨(b,k) :: l,rfl,by rw [Zj,h2]⟩
theorem xE:MtR X "str.join" (λx xs H Q=>∃a p ts,x=.str a/\xs=[.ref p]/\SqL X.K H p (ts.map V.str)/\JoinOk a ts=true/\Q (.str (Txt.join a ts)) H):=by
 intro pins s σ H x xs v us Q I rx rxs h;obtain ⟨a,p,ts,rfl,rfl,hq,hj,q⟩:=h;obtain ⟨t,rfl⟩:=rx;obtain ⟨u,rfl,ru⟩:=Vals.one rxs;cases (show u=Value.ref p from ru)
 obtain ⟨its,rs,pl,hz⟩:=I.list hq;obtain ⟨l,rfl,hl⟩:=xH rs;exact SC.join pl.isList hl hj λt' k=>⟨.str _,H,I.tok k,⟨t',rfl⟩,q⟩
theorem fR {ap cp:Pos} (ha:DE M X a fa) (h:DE M X e fb)
  (hbase:attributeBase a "join" X.env (eval a X.env)=eval a X.env:=by rfl)
  (hfew:((backTo cp (starEach [e] X.env)).all (λx=>!x.1) && (backToKw cp (keywordEach [] X.env)).all (λx=>x.1.isSome) && decide (([e]:List Expr).length+([]:List Keyword).length+(if ([]:List Keyword).isEmpty then 0 else 1)<30))=true:=by rfl)
  (hline:(ap.endLine == cp.line)=true:=by rfl) (hs:starEach [e] X.env=(false,eval e X.env) :: starEach [] X.env:=by rfl) (hplain:(backTo cp (starEach [] X.env)).any (·.1)=false:=by rfl) :
  DE M X (.Call (.Attribute a "join" ap) [e] [] cp) (eJn fa fb):=λhK hM=>by
 have q:=pX (apos:=ap) (cpos:=cp) PySem.F.plainAttrs_str PySem.F.slot_str_join PySem.F.type_str_join xE (ha hK hM) (bc (h hK hM) c_ hs) hbase hfew hline hs hplain;refine peI q fun σ H Q h=>?_
 obtain ⟨F,ρ,fp,S,p⟩:=h;refine ⟨F,ρ,fp,S,(aM.bind p).mono λx px v F1 H1 fx e1 r1 w1=>?_⟩
 obtain ⟨G1,d1,k1⟩:=r1.frz e1 w1;generalize x.er=d at px k1
 cases k1 with
 |str z =>
  have px':aM M H fp (OkE M F H Q) ((fb ρ).bind λy=>gJn z y.er):=px
  refine ⟨rfl,G1,ρ,fp,S.ext d1,((aM.bind px').ext d1).mono λy py w F2 H2 fy e2 r2 w2=>?_⟩
  obtain ⟨G2,d2,k2⟩:=r2.frz e2 w2;generalize y.er=d' at py k2
  cases k2 with
  |@lst a' vs ds h1 h2 =>
   have py':aM M H fp (OkE M F H Q) (match l4 ds with
    |some ts=>if JoinOk z ts=true then .ok (.sh (.str (Txt.join z ts))) else .bad
    |none=>.bad):=py
   split at py'
   ·rename_i ts ht
    split at py'
    ·rename_i hj
     have e:=sT ht;subst e;have e2:=EB h2;subst e2;exact ⟨z,a',ts,rfl,rfl,by rw [hK];exact (h1.same d2.fh).sq,hj,OkE.val d2.fh (OkE.pre (d1.trans d2) py') (.str _)⟩
    ·exact py'.elim
   ·exact py'.elim
  |non=>exact py.elim
  |bl _=>exact py.elim
  |int _=>exact py.elim
  |str _=>exact py.elim
  |dct _ _ _=>exact py.elim
  |tup _ _=>exact py.elim
 |non=>exact px.elim
 |bl _=>exact px.elim
 |int _=>exact px.elim
 |dct _ _ _=>exact px.elim
 |lst _ _=>exact px.elim
 |tup _ _=>exact px.elim
end
section
variable {op:Str->Str->PyData} {fa fb:Fe} {ρ:L3.Env} {x y:OD} {s t:Str}
noncomputable def txK (op:Str->Str->PyData) (r1 r2:R OD):R OD:=r1.bind λx=>match x.er with
 |.str s=>if s.length<=BIG then r2.bind λy=>gTx op (.str s) y.er else .bad
 |_=>.bad
theorem lK:eTx op fa fb ρ=txK op (fa ρ) (fb ρ):=rfl
theorem lN:txK op (.ok x) (.ok y)=gTx op x.er y.er:=by
 show (match x.er with
  |.str s=>if s.length<=BIG then gTx op (.str s) y.er else R.bad
  |_=>R.bad)=_
 generalize x.er=d
 cases d with
 |str s =>
  show (if s.length<=BIG then gTx op (.str s) y.er else R.bad)=_
  generalize y.er=d'
  cases d' with
  |str t =>
   show (if s.length<=BIG then (if s.length<=BIG then R.ok (OD.sh (op s t)) else R.bad) else R.bad)=(if s.length<=BIG then R.ok (OD.sh (op s t)) else R.bad)
   split <;> rfl
  |_=>split <;> rfl
 |_=>rfl
theorem lW:gTx op (.str s) (.str t)=if s.length<=BIG then .ok (.sh (op s t)) else .bad:=rfl
noncomputable def jnK (r1 r2:R OD):R OD:=r1.bind λx=>match x.er with
 |.str s=>r2.bind λy=>gJn s y.er
 |_=>.bad
theorem Ew:eJn fa fb ρ=jnK (fa ρ) (fb ρ):=rfl
theorem Dx:jnK (.ok (.sh (.str s))) (.ok y)=gJn s y.er:=rfl
theorem FT (ts:List Str):gJn s (.list (ts.map PyData.str))=if JoinOk s ts=true then .ok (.sh (.str (Txt.join s ts))) else .bad:=by
 have e:=uC ts;unfold gJn;simp only [e]
end
end L3
namespace L3
open PySem L2
section
variable {K:PySem.W.Frag} {F H:Hp} {σ:St} {ρ:Env} {g fp:List Addr} {n:Nat}
end
section
variable {M:Mx} {X:Cx} {n:Nat} {H:Hp} {σ:St} {D:Ends} {x y:Str} {p p2 ap cp pos:Pos}
end
end L3
namespace L3
open PySem L2 PySem.Spec PyProof.Rows PySem.W
section
variable {M:Mx} {X:Cx}
end
noncomputable def g8:List PyData->R OD
 |[.int i]=>if bb i=true then .ok (.sh (.str (Str.ofString (toString i)))) else .bad
 |_=>.bad
noncomputable def yf:List V->Hp->VK->Prop:=λxs H Q=>∃i:Int,xs=[.int i]/\bb i=true/\Q (.str (Str.ofString (toString i))) H
section
variable {M:Mx} {X:Cx} {e a:Expr} {fa fb:Fe}
theorem ee:dW X (.type "str") yf:=by
 intro pins s σ H xs us Q I r h;obtain ⟨i,rfl,hs,q⟩:=h;obtain ⟨h1,h2⟩:=fY.mp hs;obtain ⟨u,rfl,t,rfl⟩:=Vals.one r;refine P.str_of_int (shown_abs (N:=4611686018427387905) (by split <;> lia) (by decide +kernel)) ?_
 exact ⟨.str (Str.ofString (toString i)),H,I.tok _,⟨_,rfl⟩,q⟩
theorem gx:OkC M yf g8:=by
 intro x dx F H fp Q s rx p;unfold g8 at p;split at p
 ·cases rx with
  |cons h r =>
   cases r;cases h;split at p
   ·rename_i hc
    exact ⟨_,rfl,hc,OkE.val s p (.str _)⟩
   ·exact p.elim
 ·exact p.elim
theorem Bh {i:Int} (h:bb i=true):g8 [.int i]=.ok (.sh (.str (Str.ofString (toString i)))):=by
 show (if bb i=true then _ else _)=_
 rw [if_pos h]
noncomputable def iO (s t:Str):List PyData:=[.str (Txt.partition s t).1,.str (Txt.partition s t).2.1,.str (Txt.partition s t).2.2]
noncomputable def qF (s:Str):PyData->R OD
 |.str t=>if (t.length == 0)=false then .ok (.sh (.tuple (iO s t))) else .bad
 |_=>.bad
noncomputable def mV (a b:Fe):Fe:=fun ρ=>(a ρ).bind λx=>match x.er with
 |.str s=>if s.length<=BIG then (b ρ).bind λy=>qF s y.er else .bad
 |_=>.bad
noncomputable def C4:V->List V->Hp->VK->Prop:=λx xs H Q=>∃a b,x=.str a/\xs=[.str b]/\(b.length == 0)=false/\a.length<=sizeLine /\
 ∀p,H p=none->Q (.ref p) (upd H p (.tup [.str (Txt.partition a b).1,.str (Txt.partition a b).2.1,.str (Txt.partition a b).2.2]))
theorem wC:MtR X "str.partition" C4:=by
 intro pins s σ H x xs v us Q I rx rxs h;obtain ⟨a,b,rfl,rfl,hb,hl,q⟩:=h;obtain ⟨t,rfl⟩:=rx;obtain ⟨u,rfl,t2,rfl⟩:=Vals.one rxs;refine call_meets PySem.F.slot_str_partition (typeIs_str _ _ _) PySem.F.entry_str_partition (PySem.F.args_str_partition_2 _ _) (meets_str_partition a b t t2 hb hl) ?_;have hq:=q s.heap.objs.size (I.hok.fresh (Zm _));unfold Txt.partition at hq
 revert hq
 cases Builtin.Str.occurrences a b 0 a.length 1 with
 |nil =>
  intro hq;exact ⟨.ref s.heap.objs.size,upd H s.heap.objs.size (.tup [.str a,.str Str.empty,.str Str.empty]),I.laid (o:=.tup [.str a,.str Str.empty,.str Str.empty]) (λb u e=>Heap.get?_push_of_some _ e) (Zm _) ⟨(by show 3<=sizeLine;decide),_,.cons ⟨_,rfl⟩ (.cons ⟨_,rfl⟩ (.cons ⟨_,rfl⟩ .nil)),⟨_,Heap.get?_push_size _ rfl,rfl,_,rfl⟩⟩,rfl,hq⟩
 |cons i r =>
  intro hq;exact ⟨.ref s.heap.objs.size,upd H s.heap.objs.size (.tup [.str (Builtin.Str.strSub a 0 i),.str b,.str (Builtin.Str.strSub a (i+b.length) a.length)]),I.laid (o:=.tup [.str (Builtin.Str.strSub a 0 i),.str b,.str (Builtin.Str.strSub a (i+b.length) a.length)]) (λb u e=>Heap.get?_push_of_some _ e) (Zm _) ⟨(by show 3<=sizeLine;decide),_,.cons ⟨_,rfl⟩ (.cons ⟨_,rfl⟩ (.cons ⟨_,rfl⟩ .nil)),⟨_,Heap.get?_push_size _ rfl,rfl,_,rfl⟩⟩,rfl,hq⟩
theorem nN {ap cp:Pos} (ha:DE M X a fa) (h:DE M X e fb)
  (hbase:attributeBase a "partition" X.env (eval a X.env)=eval a X.env:=by rfl)
  (hfew:((backTo cp (starEach [e] X.env)).all (λx=>!x.1) && (backToKw cp (keywordEach [] X.env)).all (λx=>x.1.isSome) && decide (([e]:List Expr).length+([]:List Keyword).length+(if ([]:List Keyword).isEmpty then 0 else 1)<30))=true:=by rfl)
  (hline:(ap.endLine == cp.line)=true:=by rfl) (hs:starEach [e] X.env=(false,eval e X.env) :: starEach [] X.env:=by rfl) (hplain:(backTo cp (starEach [] X.env)).any (·.1)=false:=by rfl) :
  DE M X (.Call (.Attribute a "partition" ap) [e] [] cp) (mV fa fb):=λhK hM=>by
 have q:=pX (apos:=ap) (cpos:=cp) PySem.F.plainAttrs_str PySem.F.slot_str_partition PySem.F.type_str_partition wC (ha hK hM) (bc (h hK hM) c_ hs) hbase hfew hline hs hplain;refine peI q fun σ H Q h=>?_
 obtain ⟨F,ρ,fp,S,p⟩:=h;refine ⟨F,ρ,fp,S,(aM.bind p).mono λx px v F1 H1 fx e1 r1 w1=>?_⟩
 obtain ⟨G1,d1,k1⟩:=r1.frz e1 w1;generalize x.er=d at px k1
 cases k1 with
 |str z =>
  have px':aM M H fp (OkE M F H Q) (if z.length<=BIG then (fb ρ).bind λy=>qF z y.er else .bad):=px
  split at px'
  ·rename_i hz
   refine ⟨rfl,G1,ρ,fp,S.ext d1,((aM.bind px').ext d1).mono λy py w F2 H2 fy e2 r2 w2=>?_⟩
   obtain ⟨G2,d2,k2⟩:=r2.frz e2 w2;generalize y.er=d' at py k2
   cases k2 with
   |str z2 =>
    have py':aM M H fp (OkE M F H Q) (if (z2.length == 0)=false then .ok (.sh (.tuple (iO z z2))) else .bad):=py
    split at py'
    ·rename_i h0
     exact ⟨z,z2,rfl,rfl,h0,ia hz,λp hp=>OkE.tupF (ds:=iO z z2) d2.fh py' (d1.trans d2) (.cons (.str _) (.cons (.str _) (.cons (.str _) .nil))) hp⟩
    ·exact py'.elim
   |non=>exact py.elim
   |bl _=>exact py.elim
   |int _=>exact py.elim
   |dct _ _ _=>exact py.elim
   |lst _ _=>exact py.elim
   |tup _ _=>exact py.elim
  ·exact px'.elim
 |non=>exact px.elim
 |bl _=>exact px.elim
 |int _=>exact px.elim
 |dct _ _ _=>exact px.elim
 |lst _ _=>exact px.elim
 |tup _ _=>exact px.elim
end
noncomputable def m8:List PyData->R OD
 |[.str x]=>match PySem.intText? x with
  |some n=>if x.length<=640 then .ok (.sh (.int n)) else .bad
  |none=>.bad
 |_=>.bad
noncomputable def yr:List V->Hp->VK->Prop:=λxs H Q=>∃x n,xs=[.str x]/\PySem.intText? x=some n/\x.length<=640/\Q (.int n) H
section
variable {M:Mx} {X:Cx}
theorem nr:dW X (.type "int") yr:=by
 intro pins s σ H xs us Q I r h;obtain ⟨x,n,rfl,hn,hl,q⟩:=h;obtain ⟨u,rfl,t,rfl⟩:=Vals.one r;exact KIN.call_text hn hl ⟨.int n,H,I.tok _,⟨_,rfl⟩,q⟩
theorem qS:OkC M yr m8:=by
 intro x dx F H fp Q s rx p;unfold m8 at p;split at p
 ·rename_i z
  cases rx with
  |cons h r =>
   cases r;cases h;split at p
   ·rename_i n hn
    split at p
    ·rename_i hl
     exact ⟨z,n,rfl,hn,hl,OkE.val s p (.int _)⟩
    ·exact p.elim
   ·exact p.elim
 ·exact p.elim
theorem xQ:MtR X "str.find" (rTx λa b=>.int (Txt.find a b)):=by
 intro pins s σ H x xs v us Q I rx rxs h;obtain ⟨a,b,rfl,rfl,hl,q⟩:=h;obtain ⟨t,rfl⟩:=rx;obtain ⟨u,rfl,t2,rfl⟩:=Vals.one rxs;exact SC.find ⟨.int _,H,I.tok _,⟨_,rfl⟩,q⟩
noncomputable def yU (s t:Str):PyData:=.int (Txt.find s t)
noncomputable def ptK (r:R OD):PyData->R OD
 |.str s=>if s.length<=BIG then unK (λy=>qF s y.er) r else .bad
 |_=>.bad
theorem fG {a b:Fe} {ρ:Env}:mV a b ρ=unK (λx=>ptK (b ρ) x.er) (a ρ):=by
 unfold mV;rw [cH];congr 1
theorem vT {s t:Str} (h:s.length<=BIG) (h0:(t.length == 0)=false):ptK (.ok (.sh (.str t))) (.str s)=.ok (.sh (.tuple (iO s t))):=by
 show (if s.length<=BIG then qF s (OD.sh (.str t)).er else .bad)=_
 rw [if_pos h,iU];show (if (t.length == 0)=false then _ else _)=_
 rw [if_pos h0]
theorem Bn {x:Str} {n:Int} (hn:PySem.intText? x=some n) (hl:x.length<=640):m8 [.str x]=.ok (.sh (.int n)):=by
 simp only [m8,hn,if_pos hl]
end
noncomputable def gLj (s:Str):PyData->R OD
 |.int i=>if PadOk i=true then .ok (.sh (.str (Txt.ljust s i))) else .bad
 |_=>.bad
noncomputable def eLj (a b:Fe):Fe:=fun ρ=>(a ρ).bind λx=>match x.er with
 |.str s=>(b ρ).bind λy=>gLj s y.er
 |_=>.bad
noncomputable def tR (s:Str):PyData->R OD
 |.str t=>if (t.length == 0)=false then .ok (.ol (((Txt.split s t).map PyData.str).map OD.sh)) else .bad
 |_=>.bad
noncomputable def Ax (a b:Fe):Fe:=fun ρ=>(a ρ).bind λx=>match x.er with
 |.str s=>if s.length<=BIG then (b ρ).bind λy=>tR s y.er else .bad
 |_=>.bad
noncomputable def Gb:V->List V->Hp->VK->Prop:=λx xs H Q=>∃a b,x=.str a/\xs=[.str b]/\(b.length == 0)=false/\a.length<=BIG/\∀p,H p=none->Q (.ref p) (upd H p (.lst ((Txt.split a b).map V.str)))
theorem m7:∀(l:List (Str×Tok)),Vals ((l.map (·.1)).map V.str) (strValues l)
 |[]=>.nil
 | (x,t) :: l=>.cons ⟨t,rfl⟩ (m7 l)
section
variable {M:Mx} {X:Cx} {e a:Expr} {fa fb:Fe}
theorem ve:MtR X "str.split" Gb:=by
 intro pins s σ H x xs v us Q I rx rxs h;obtain ⟨a,b,rfl,rfl,hb,hl,q⟩:=h;obtain ⟨t,rfl⟩:=rx;obtain ⟨u,rfl,t2,rfl⟩:=Vals.one rxs;have hq:=q s.heap.objs.size (I.hok.fresh (Zm _));have hsl:=split_le a b;have hbig:a.length+2<=sizeLine:=ZE (Nat.add_le_add_right hl 2) (by decide)
 have fin:∀(l:List (Str×Tok)) (k:Nat),l.map (·.1)=Txt.split a b->EP X pins σ Q (.ref s.heap.objs.size) { s with toks:=k,heap:=s.heap.push { cls:=.type "list",data:=.seq (strValues l).toArray } }:=λl k e=>by
  have hv:=m7 l;rw [e]at hv;exact ⟨.ref s.heap.objs.size,upd H s.heap.objs.size (.lst ((Txt.split a b).map V.str)),I.laid (t':=k) (o:=.lst ((Txt.split a b).map V.str)) (λb u e=>Heap.get?_push_of_some _ e) (Zm _) ⟨by rw [Zc];lia,_,_,hv,Heap.get?_push_size _ rfl⟩,rfl,hq⟩
 cases h1:(decide (a.length<b.length) || decide (Builtin.Str.strKind a<Builtin.Str.strKind b))
 ·cases hf:(Builtin.Str.occurrences a b 0 a.length (a.length+1)).isEmpty
  ·have e0:Txt.split a b=Builtin.Str.partsBetween a (Builtin.Str.occurrences a b 0 a.length (a.length+1)) b.length:=by
    unfold Txt.split;rw [if_neg (ne_true_of_eq_false h1),if_neg (ne_true_of_eq_false hf)]
   refine call_meets PySem.F.slot_str_split (typeIs_str _ _ _) PySem.F.entry_str_split (PySem.F.args_str_split_2 _ _) (meets_str_split_sep a b t t2 h1 hb hf (by lia) (by rw [<-e0];lia)) ?_
   show wants _ _ _ { s with toks:=_,heap:=s.heap.push { cls:=.type "list",data:=.seq (strsFrom s.toks (Builtin.Str.partsBetween a (Builtin.Str.occurrences a b 0 a.length (a.length+1)) b.length)).toArray } }
   rw [strsFrom_eq];exact fin (numbered s.toks _) _ ((numbered_texts _ _).trans e0.symm)
  ·refine call_meets PySem.F.slot_str_split (typeIs_str _ _ _) PySem.F.entry_str_split (PySem.F.args_str_split_2 _ _) (meets_str_split_not_found a b t t2 h1 hb hf) ?_
   exact fin [(a,t)] s.toks (by unfold Txt.split;rw [if_neg (ne_true_of_eq_false h1),if_pos hf];rfl)
 ·refine call_meets PySem.F.slot_str_split (typeIs_str _ _ _) PySem.F.entry_str_split (PySem.F.args_str_split_2 _ _) (meets_str_split_cannot_occur a b t t2 h1) ?_
  exact fin [(a,t)] s.toks (by unfold Txt.split;rw [if_pos h1];rfl)
theorem pU {K:PySem.W.Frag} {F:Hp}:∀ts:List Str,RepAll K F (ts.map V.str) (ts.map PyData.str)
 |[]=>.nil
 |t :: ts=>.cons (.str t) (pU ts)
theorem zP {ap cp:Pos} (ha:DE M X a fa) (h:DE M X e fb)
  (hbase:attributeBase a "split" X.env (eval a X.env)=eval a X.env:=by rfl)
  (hfew:((backTo cp (starEach [e] X.env)).all (λx=>!x.1) && (backToKw cp (keywordEach [] X.env)).all (λx=>x.1.isSome) && decide (([e]:List Expr).length+([]:List Keyword).length+(if ([]:List Keyword).isEmpty then 0 else 1)<30))=true:=by rfl)
  (hline:(ap.endLine == cp.line)=true:=by rfl) (hs:starEach [e] X.env=(false,eval e X.env) :: starEach [] X.env:=by rfl) (hplain:(backTo cp (starEach [] X.env)).any (·.1)=false:=by rfl) :
  DE M X (.Call (.Attribute a "split" ap) [e] [] cp) (Ax fa fb):=λhK hM=>by
 have q:=pX (apos:=ap) (cpos:=cp) PySem.F.plainAttrs_str PySem.F.slot_str_split PySem.F.type_str_split ve (ha hK hM) (bc (h hK hM) c_ hs) hbase hfew hline hs hplain;refine peI q fun σ H Q h=>?_
 obtain ⟨F,ρ,fp,S,p⟩:=h;refine ⟨F,ρ,fp,S,(aM.bind p).mono λx px v F1 H1 fx e1 r1 w1=>?_⟩
 obtain ⟨G1,d1,k1⟩:=r1.frz e1 w1;generalize x.er=d at px k1
 cases k1 with
 |str z =>
  have px':aM M H fp (OkE M F H Q) (if z.length<=BIG then (fb ρ).bind λy=>tR z y.er else .bad):=px
  split at px'
  ·rename_i hz
   refine ⟨rfl,G1,ρ,fp,S.ext d1,((aM.bind px').ext d1).mono λy py w F2 H2 fy e2 r2 w2=>?_⟩
   obtain ⟨G2,d2,k2⟩:=r2.frz e2 w2;generalize y.er=d' at py k2
   cases k2 with
   |str z2 =>
    have py':aM M H fp (OkE M F H Q) (if (z2.length == 0)=false then .ok (.ol (((Txt.split z z2).map PyData.str).map OD.sh)) else .bad):=py
    split at py'
    ·rename_i h0
     exact ⟨z,z2,rfl,rfl,h0,hz,λp hp=>OkE.lstD d2.fh (OkE.pre (d1.trans d2) py') (pU _) hp⟩
    ·exact py'.elim
   |non=>exact py.elim
   |bl _=>exact py.elim
   |int _=>exact py.elim
   |dct _ _ _=>exact py.elim
   |lst _ _=>exact py.elim
   |tup _ _=>exact py.elim
  ·exact px'.elim
 |non=>exact px.elim
 |bl _=>exact px.elim
 |int _=>exact px.elim
 |dct _ _ _=>exact px.elim
 |lst _ _=>exact px.elim
 |tup _ _=>exact px.elim
end
section
variable {M:Mx} {X:Cx}
end
noncomputable def CO (r t:R OD):R OD:=r.bind λx=>match x.er with
 |.str s=>if s.length<=BIG then t.bind λy=>tR s y.er else .bad
 |_=>.bad
theorem DP {fa fb:Fe} {ρ:L3.Env}:Ax fa fb ρ=CO (fa ρ) (fb ρ):=rfl
theorem Dl {s t:Str} (h:s.length<=BIG) (h2:(t.length == 0)=false):CO (.ok (.sh (.str s))) (.ok (.sh (.str t)))=.ok (.ol (((Txt.split s t).map PyData.str).map OD.sh)):=by
 show (if s.length<=BIG then tR s (.str t) else .bad)=_
 rw [if_pos h];unfold tR
 dsimp only
 rw [if_pos h2]
noncomputable abbrev Fm:=List PyData->List PyData->R (PyData×List PyData)
noncomputable def okM (K:PySem.W.Frag) (F H:Hp) (a:Addr) (Q:VK):R (PyData×List PyData)->Prop
 |.ok r=>flat r.1=true/\∀v us' H',Rep K F v r.1->RepAll K F us' r.2->(∀b o,H b=some o->b≠a->H' b=some o)->H' a=some (.lst us')->Q v H'
 |_=>False
noncomputable def spM (K:PySem.W.Frag) (f:Fm):Sp:=λvs H Q _=>∃F v1 v2 d1 d2 a us xs,vs=[v1,v2,.ref a]/\aS F H/\Rep K F v1 d1/\Rep K F v2 d2/\H a=some (.lst us)/\F a=none/\RepAll K F us xs/\okM K F H a Q (f [d1,d2] xs)
noncomputable def sI (i i1 i2 j:Nat) (f:Fm):Fs:=fun ρ=>match ρ[i1]?,ρ[i2]?,ρ[j]? with
 |some (some (.sh d1)),some (some (.sh d2)),some (some (.ol xs))=>(match shs xs with
  |some ds=>(f [d1,d2] ds).bind λr=>if flat r.1=true then .ok (.nx ((ρ.set j (some (.ol (r.2.map OD.sh)))).set i (some (.sh r.1)))) else .bad
  |none=>.bad)
 |_,_,_=>.bad
section
variable {M:Mx} {X:Cx}
theorem FX {n:Nat} {σ:L2.St} {H:Hp} {D:Ends} {i i1 i2 j:Nat} {f:Fm} (hi:i<n) (hne:∀ds xs c,f ds xs≠.ex c) (h:tS M n (sI i i1 i2 j f) D σ H) :
  r9 (qL (spM M.K f) [] M.E (iM (i8 i1) (iM (i8 i2) (iM (i8 j) qs)))) (nh i) D σ H:=by
 obtain ⟨F,ρ,fp,S,p⟩:=h;unfold sI at p;split at p
 ·rename_i d1 d2 xs e1 e2 e3
  split at p
  ·rename_i ds hd
   obtain ⟨v1,_,_,_,q1,o1,_,_⟩:=S.own.at e1;obtain ⟨v2,_,_,_,q2,o2,_,_⟩:=S.own.at e2;cases o1 with
   |sh r1 =>
    cases o2 with
    |sh r2 =>
     obtain ⟨a,us,g,h1,h2,h3,nf,ff,wr⟩:=S.write e3;obtain ⟨g0,ru⟩:=OwnL.of_shs h3 hd;have fa:F a=none:=by
      obtain ⟨w,f0,g1,g2,k1,k2,k3,_⟩:=S.own.at e3;rw [h1]at k1;cases k1;cases k2 with
      |ol ha hv=>exact S.fr a (by rw [k3];exact Zp _ (Zv _ Zf))
     refine ⟨v1,q1,v2,q2,.ref a,h1,?_⟩;show spM M.K f ([v1,v2,.ref a]++[]) H _ M.E
     refine ⟨F,v1,v2,d1,d2,a,us,ds,rfl,S.same,r1,r2,h2,fa,ru,?_⟩;cases hf:f [d1,d2] ds with
     |bad =>
      rw [hf]at p;exact p.elim
     |ex c=>exact absurd hf (hne _ _ c)
     |ok r =>
      rw [hf]at p;have p':aM M H fp (iu M n F H fp D) (if flat r.1=true then .ok (.nx ((ρ.set j (some (.ol (r.2.map OD.sh)))).set i (some (.sh r.1)))) else .bad):=p
      by_cases hfl:flat r.1=true
      ·rw [if_pos hfl]at p'
       refine ⟨hfl,λv us' H' rv ru' keep ha'=>?_⟩
       have E1:Ext F H F (upd H' a (.lst us)):=by
        refine ⟨aS.refl _,λb o q=>?_,λb o q=>?_,λ_ _ z=>z⟩
        ·by_cases hb:b=a
         ·subst hb
          rw [bU,<-h2];exact q
         ·rw [aU hb]
          exact keep b o q hb
        ·by_cases hb:b=a
         ·subst hb
          rw [fa]at q;cases q
         ·rw [aU hb]
          exact keep b o (S.same b o q) hb
       obtain ⟨fp',S',st,_⟩:=wr F (upd H' a (.lst us)) us' (r.2.map OD.sh) [] E1 (OwnL.shs ru') List.nodup_nil (λ_ m=>by cases m) (λ_ m=>by cases m)
       have eH:upd (upd H' a (.lst us)) a (.lst us')=H':=by
        rw [w6]
        funext b
        by_cases hb:b=a
        ·subst hb
         rw [bU,ha']
        ·rw [aU hb]
       rw [eH]at S' st;obtain ⟨fp2,S2,sub⟩:=S'.set hi (Res.sh rv) (λ_ m=>by cases m)
       exact p' _ F H' fp2 S2 ⟨st.ff,st.keep,λb m=>(sub b m).elim (st.new b) (λz=>by cases z),st.nw⟩
      ·rw [if_neg hfl]at p'
       exact p'.elim
  ·exact p.elim
 ·exact p.elim
theorem u7 {CX:CXT} {k:Nat} {g:Addr} {fd:FuncData} {ps:List Str} {i i1 i2 j:Nat} {f:Fm} {x nm:Str} {p pp pos cpos:Pos} {e1 e2 e3:Expr} (G:FnOk X.prog X.w M.K M.mg X.base CX k g fd ps (spM M.K f)) (hne:∀ds xs c,f ds xs≠.ex c) (hr:Room k X.A) (hg:Gl X nm) (hm:M.mg nm=some (.ref g)) (hk:PySem.W.keepIn M.K (.ref g)=true)
  (hb:Binds M.K fd ps []) (hx:Passes CX X M.E) (v1:PE X e1 (i8 i1)) (v2:PE X e2 (i8 i2)) (v3:PE X e3 (i8 j)) (hN:X.N.Nodup) (hi:X.N[i]?=some x) (hl:Loc X.env.scope x)
  (hs:swapsWith (.Call (.Name nm pp) [e1,e2,e3] [] cpos) (some (.Name x p)) pos.line X.env=pure false:=by rfl)
  (hf:X.fn x=true\/X.env.scope.names.lookup x=some .local:=by first | exact .inl rfl | exact .inr rfl | assumption)
  (hdb:(nm == ("__debug__" : Str))=false:=by decide) (he:starEach [e1,e2,e3] X.env=(false,eval e1 X.env) :: starEach [e2,e3] X.env:=by rfl) (hpl:(backTo cpos (starEach [e2,e3] X.env)).any (·.1)=false:=by rfl)
  (s1:starEach [e1,e2,e3] X.env=(false,eval e1 X.env) :: starEach [e2,e3] X.env:=by rfl) (s2:starEach [e2,e3] X.env=(false,eval e2 X.env) :: starEach [e3] X.env:=by rfl) (s3:starEach [e3] X.env=(false,eval e3 X.env) :: starEach [] X.env:=by rfl) :
  DS M X (.Assign [.Name x p] (.Call (.Name nm pp) [e1,e2,e3] [] cpos) pos) (sI i i1 i2 j f):=λhK hM=>by
 have G':FnOk X.prog X.w X.K X.mg X.base CX k g fd ps (spM M.K f):=by
  rw [hK,hM];exact G
 have q:PE X (.Call (.Name nm pp) [e1,e2,e3] [] cpos) (qL (spM M.K f) [] M.E (iM (i8 i1) (iM (i8 i2) (iM (i8 j) qs)))):=by
  refine qJ (ds:=[]) (dvs:=[]) G' hr hg (by rw [hM];exact hm) (by rw [hK];exact hk) (by rw [hK];exact hb) .nil hx (bc v1 (bc v2 (bc v3 c_ s3) s2) s1) hdb he hpl
 exact psI (vG hN hi hl q hs hf) λ_ _ _ z=>FX (kR hi) hne z
end
noncomputable def mF (d:PyData) (p:Int) (xs:List PyData):Env:=[some (.sh d),some (.sh (.int p)),some (.ol (xs.map OD.sh))]
noncomputable def shR (ta:Ft) (d:PyData):Nat->Int->List PyData->R (PyData×List PyData)
 |0,p,xs=>(match ta (mF d p xs) with
  |.ok false=>.ok (.int p,xs)
  |_=>.bad)
 |m+1,p,xs=>(match ta (mF d p xs) with
  |.ok true=>if xs.length=m+1 then shR ta d m (p+1) xs.dropLast else .bad
  |.ok false=>.ok (.int p,xs)
  |_=>.bad)
noncomputable def shF (ta:Ft):Fm
 |[d,.int p],xs=>shR ta d xs.length p xs
 |_,_=>.bad
theorem Cf {ta:Ft} {d:PyData}:∀(m:Nat) (p:Int) (xs:List PyData) (c:Str),shR ta d m p xs≠.ex c:=by
 intro m
 induction m with
 |zero =>
  intro p xs c;unfold shR;split
  ·intro z;cases z
  ·intro z;cases z
 |succ m ih =>
  intro p xs c;unfold shR;split
  ·split
   ·exact ih _ _ c
   ·intro z;cases z
  ·intro z;cases z
  ·intro z;cases z
theorem s_ {ta:Ft}:∀(ds xs:List PyData) (c:Str),shF ta ds xs≠.ex c:=by
 intro ds xs c;unfold shF;split
 ·exact Cf _ _ _ c
 ·intro z;cases z
theorem fnM {P:Program} {w:World} {K:PySem.W.Frag} {mg:Str->Option Value} {base:Heap} {x qual:Str} {st:Stmt} {f:Addr} {fd:FuncData} {n0 n1 n2:Str} {k:Nat} {c er:Expr} {b1 b2:Stmt} {wp rp:Pos} {ta:Ft} (F:Fun K x qual st f fd) (S:FnScope [n0,n1,n2] [n0,n1,n2] (aq st)) (hb:aP st=[.While c [b1,b2] [] wp,.Return (some er) rp])
  (h:∀(cdv:Value) (A:Around) (outer:List PySem.Env) (s:Shared) (H:Hp) (E:XK),Room k (A.deeper (envOfC qual (aq st) s.heap.objs.size f cdv)) ->
   DT ⟨K,mg,E⟩ (iQ CX0 P w K mg base [n0,n1,n2] qual (aq st) f cdv A outer s H E).nox c ta/\PS (iQ CX0 P w K mg base [n0,n1,n2] qual (aq st) f cdv A outer s H E).nox b1 (mS (Ac K "list" Al (i8 2))) /\
   PS (iQ CX0 P w K mg base [n0,n1,n2] qual (aq st) f cdv A outer s H E).nox b2 (wB 1 (tC (.int 1)) (ipI λi j=>i+j))/\PE (iQ CX0 P w K mg base [n0,n1,n2] qual (aq st) f cdv A outer s H E).nox er (i8 1)) :
  FnOk P w K mg base CX0 (k+1) f fd [n0,n1,n2] (spM K (shF ta)):=by
 have hlen:∀vs H Q E,spM K (shF ta) vs H Q E->vs.length=[n0,n1,n2].length:=by
  rintro vs H Q E ⟨F,v1,v2,d1,d2,a,us,xs,rfl,_⟩;rfl
 refine F.ok S hlen λcdv A outer s H vs Q E hr hs=>?_
 obtain ⟨F0,v1,v2,d1,d2,a,us0,xs0,rfl,sm,r1,r2,ha0,fa,ru0,ok0⟩:=hs;obtain ⟨hT,hP,hA,hR⟩:=h cdv A outer s H E hr;cases d2 with
 |int p0 =>
  cases r2;refine ⟨xI (ql (tT ⟨K,mg,E⟩ 3 ta) (xI (mS (Ac K "list" Al (i8 2))) (wB 1 (tC (.int 1)) (ipI λi j=>i+j)))) (sY (i8 1)),?_,?_⟩
  ·rw [hb]
   exact j0 (o8 PassesOwn.never (hT rfl rfl) (j0 hP (jh hA))) (jh (kJ hR))
  ·refine ⟨λm σ H1=>∃p xs us,σ=[some v1,some (.int p),some (.ref a)]/\m=xs.length/\H1 a=some (.lst us)/\RepAll K F0 us xs/\(∀b o,H b=some o->b≠a->H1 b=some o)/\okM K F0 H a Q (shR ta d1 xs.length p xs),⟨_,p0,xs0,us0,rfl,rfl,ha0,ru0,λ_ _ q _=>q,ok0⟩,?_⟩
   rintro m σ H1 ⟨p,xs,us,rfl,rfl,ha,ru,keep,ok⟩;have same1:aS F0 H1:=λb o q=>keep b o (sm b o q) (by rintro rfl;rw [fa]at q;cases q)
   have Sx:Stt K 3 F0 H1 [some v1,some (.int p),some (.ref a)] (mF d1 p xs) [a]:=by
    refine ⟨same1,.yes (f:=[]) (.sh r1) (.yes (f:=[]) (.sh (.int p)) (.yes (f:=[a]) (.ol ha (OwnL.shs ru)) .nil)),List.nodup_cons.mpr ⟨by simp,List.nodup_nil⟩,λb m=>?_,rfl⟩
    rw [List.mem_singleton]at m;subst m;exact fa
   refine ⟨F0,mF d1 p xs,[a],Sx,?_⟩;have fin:∀H2,Ext F0 H1 F0 H2\/True->True:=λ_ _=>trivial
   have ex:∀(F2 H2:Hp),Ext F0 H1 F2 H2->H2 a=some (.lst us)/\∀b o,H b=some o->b≠a->H2 b=some o:=λF2 H2 e=>⟨e.hh a _ ha,λb o q hb=>e.hh b o (keep b o q hb)⟩
   have stop:ta (mF d1 p xs)=.ok false->okM K F0 H a Q (.ok (.int p,xs)):=λhta=>by
    cases hm:xs.length with
    |zero =>
     rw [hm]at ok;unfold shR at ok;rw [hta]at ok;exact ok
    |succ m =>
     rw [hm]at ok;unfold shR at ok;rw [hta]at ok;exact ok
   cases hta:ta (mF d1 p xs) with
   |bad =>
    exfalso
    cases hm:xs.length with
    |zero =>
     rw [hm]at ok;unfold shR at ok;rw [hta]at ok;exact ok
    |succ m =>
     rw [hm]at ok;unfold shR at ok;rw [hta]at ok;exact ok
   |ex c =>
    exfalso
    cases hm:xs.length with
    |zero =>
     rw [hm]at ok;unfold shR at ok;rw [hta]at ok;exact ok
    |succ m =>
     rw [hm]at ok;unfold shR at ok;rw [hta]at ok;exact ok
   |ok b =>
    intro F2 H2 e2;obtain ⟨ha2,keep2⟩:=ex F2 H2 e2;cases b with
    |false =>
     rw [if_neg Zl];obtain ⟨_,q⟩:=stop hta;exact ⟨_,rfl,q (.int p) us H2 (.int p) ru keep2 ha2⟩
    |true =>
     rw [if_pos rfl];refine ⟨fun σ' H'=>∃m',m'<xs.length/\∃p xs us,σ'=[some v1,some (.int p),some (.ref a)]/\m'=xs.length/\H' a=some (.lst us)/\RepAll K F0 us xs/\(∀b o,H b=some o->b≠a->H' b=some o)/\okM K F0 H a Q (shR ta d1 xs.length p xs),fun σ' H' h=>h,?_⟩
     cases hm:xs.length with
     |zero =>
      exfalso
      rw [hm]at ok;unfold shR at ok;rw [hta]at ok;exact ok
     |succ m =>
      rw [hm]at ok;unfold shR at ok;rw [hta,hm]at ok;have ok2:okM K F0 H a Q (if m+1=m+1 then shR ta d1 m (p+1) xs.dropLast else .bad):=ok
      rw [if_pos rfl]at ok2;have ul:us.length=m+1:=by rw [RepAll.len ru,hm]
      have hy:us[us.length-1]?=some (us[us.length-1]'(by lia)):=Zg _
      refine ⟨.ref a,rfl,.inl ⟨rfl,us,SqL.of ha2⟩,a,us,_,rfl,rfl,ha2,hy,.int p,rfl,p,1,rfl,rfl,?_⟩;have rd:RepAll K F0 us.dropLast xs.dropLast:=by
       rw [List.dropLast_eq_take,List.dropLast_eq_take,RepAll.len ru];exact RepAll.take _ ru
      refine ⟨m,Nat.lt_succ_self m,p+1,xs.dropLast,us.dropLast,rfl,by rw [List.length_dropLast];lia,bU,rd,λb o q hb=>?_,?_⟩
      ·rw [aU hb]
       exact keep2 b o q hb
      ·rw [List.length_dropLast,hm]
       exact ok2
 |none=>exact ok0.elim
 |bool _=>exact ok0.elim
 |str _=>exact ok0.elim
 |list _=>exact ok0.elim
 |tuple _=>exact ok0.elim
 |dict _=>exact ok0.elim
end L3
namespace L3
open PySem L2 PySem.Spec PyProof.Rows
noncomputable def F2 (h:Heap) (e:Addr):Prop:=∃o v,h.get? e=some o/\o.data=.fields v/\v[2]?=some .none
section
variable {M:Model} {A:Around} {E:Value->Shared->Prop} {s:Shared} {B:Heap} {env:PySem.Env} {out:List PySem.Env} {L e:Addr} {cls a0:Value}
end
section
variable {M:Mx} {X:Cx} {E:XK} {pins:List (Addr×Obj)} {σ:St} {H:Hp} {s s':Shared} {e:Value} {x t:Str} {j:Nat} {np cpos pos p2:Pos}
end
end L3
namespace L3
open PySem L2 PySem.Spec PyProof.Rows Builtin
section
variable {prog:Program} {w:World} {A:Around} {E:Value->Shared->Prop} {s:Shared} {e ea:Addr}
end
section
variable {prog:Program} {w:World} {A:Around} {E:Value->Shared->Prop} {s:Shared} {ea:Addr} {env:PySem.Env}
variable {nm q:Str} {C N:Addr} {bs bm:List Value} {hdct:Bool} {sn:List Str} {sub:List Value} {ab:Bool} {col:Option Bool} {dd:Option Addr} {k0 k1 k2 k3 k5:Option Value} {newId:String}
end
section
variable {M:Model} {A:Around} {E:Value->Shared->Prop} {s:Shared} {B:Heap} {env:PySem.Env} {out:List PySem.Env} {L e:Addr} {cls a0:Value}
end
section
variable {X:Cx} {E0:XK} {pins:List (Addr×Obj)} {σ:St} {H:Hp} {s:Shared}
end
section
variable {X:Cx} {pins:List (Addr×Obj)} {σ:St} {H:Hp} {s:Shared} {ea C:Addr} {oe:Obj} {v:Array Value} {x t:Str} {j:Nat} {np cpos pos p2 p5:Pos} {j2:Nat} {EE:Value->Shared->Prop} {Q:Flow->Shared->Prop}
theorem pinned (I:Inv (cxM X ea oe) pins σ H s):s.heap.get? ea=some oe:=(I.pin (ea,oe) Zf).1
end
section
variable {X:Cx} {E0 E':XK} {pins:List (Addr×Obj)} {σ:St} {H1:Hp} {s1 s':Shared} {ev:Value} {C2 D:Addr} {x dx t:Str} {j:Nat} {np np2 cpos pos p2 p5 hpos:Pos} {j2:Nat} {Q:Flow->Shared->Prop}
end
section
variable {M:Mx} {X:Cx} {C2 D:Addr} {x dx t:Str} {j:Nat} {np np2 cpos pos rpos p2 p5 hpos:Pos} {j2:Nat} {body:List Stmt} {f:Fs} {dn ps:List Str}
end
end L3
namespace L3
open PySem L2 PySem.Spec PyProof.Rows
noncomputable def jE:PyData->PyData->R OD
 |.str x,.int n=>if x.length<=100/\0<=n/\n<=1000 then .ok (.sh (.str (Txt.mul x n))) else .bad
 |_,_=>.bad
theorem xJ {x:Str} {n:Int} (h1:x.length<=100) (h2:0<=n) (h3:n<=1000):MulOk x n:=by
 have pr:(x.length:Int) * n<=100 * n:=Int.mul_le_mul_of_nonneg_right (by lia) h2
 refine ⟨?_,λhn _=>?_,λhn _=>?_⟩
 ·rw [Bool.or_eq_false_iff]
  exact ⟨decide_eq_false (by lia),decide_eq_false (by lia)⟩
 ·have:(x.length:Int)<=(2 ^ 63-1) / n:=by
   rw [Int.le_ediv_iff_mul_le (by lia)]
   lia
  lia
 ·unfold Builtin.Str.tooLong
  rw [sizeLine_eq];have:x.length * n.toNat<=100 * n.toNat:=Nat.mul_le_mul_right _ h1;exact decide_eq_false (by lia)
section
variable {X:Cx} {M:Mx}
theorem lD (_:X.K=M.K):Ok2 M yO jE:=by
 intro x y dx dy F H fp Q s rx ry p;unfold jE at p;split at p
 ·cases rx;cases ry
  split at p
  ·rename_i hc
   exact ⟨_,_,rfl,rfl,xJ hc.1 hc.2.1 hc.2.2,OkE.val s p (.str _)⟩
  ·exact p.elim
 ·exact p.elim
theorem oY {x:Str} {n:Int} (h1:x.length<=100) (h2:0<=n) (h3:n<=1000):jE (.str x) (.int n)=.ok (.sh (.str (Txt.mul x n))):=by
 show (if x.length<=100/\0<=n/\n<=1000 then R.ok (OD.sh (.str (Txt.mul x n))) else .bad)=_
 rw [if_pos ⟨h1,h2,h3⟩]
end
end L3
namespace L3
open PySem L2 PySem.Spec PyProof.Rows PySem.W
theorem qb {t:Ft} {b:Fs} {ρ:L3.Env} {n:Nat} (h:bw t b n ρ≠.bad):cM t b ρ=bw t b n ρ:=by
 have mono:∀(n:Nat) (ρ:L3.Env),bw t b n ρ≠.bad->∀m,n<=m->bw t b m ρ=bw t b n ρ:=by
  intro n
  induction n with
  |zero=>intro ρ hn;exact absurd rfl hn
  |succ n ih =>
   intro ρ hn m hm;obtain ⟨m,rfl⟩:∃k,m=k+1:=⟨m-1,by lia⟩
   rw [bw]at hn ⊢;rw [bw];cases ht:t ρ with
   |bad=>rfl
   |ex c=>rfl
   |ok c =>
    rw [ht,a9]at hn;rw [a9,a9];cases c with
    |false=>rfl
    |true =>
     rw [if_pos rfl]at hn ⊢;rw [if_pos rfl];cases hb:b ρ with
     |bad=>rfl
     |ex c=>rfl
     |ok o =>
      rw [hb,a9]at hn;rw [a9,a9];cases o with
      |nx ρ2=>exact ih ρ2 hn m (by lia)
      |ct ρ2=>exact ih ρ2 hn m (by lia)
      |bk ρ2=>rfl
      |rt x=>rfl
 unfold cM;have hx:∃n,bw t b n ρ≠.bad:=⟨n,h⟩;rw [dif_pos hx];have e1:=mono n ρ h (n+hx.choose) (by lia)
 have e2:=mono hx.choose ρ hx.choose_spec (n+hx.choose) (by lia)
 rw [<-e2,e1]
noncomputable def qG (S:L3.Env->Prop) (Q:R Out->Prop):R Out->Prop
 |.ok (.nx ρ)=>S ρ
 |.ok (.rt x)=>Q (.ok (.rt x))
 |.ex c=>Q (.ex c)
 |_=>False
theorem rj {S:L3.Env->Prop} {Q:R Out->Prop} {ρ:L3.Env}:qG S Q (.ok (.nx ρ))=S ρ:=rfl
theorem u6 {S:L3.Env->Prop} {Q:R Out->Prop} {x:OD}:qG S Q (.ok (.rt x))=Q (.ok (.rt x)):=rfl
theorem t_ {S:L3.Env->Prop} {Q:R Out->Prop} {c:Str}:qG S Q (.ex c)=Q (.ex c):=rfl
theorem rO {P:Prop} {t:Ft} {b:Fs} {ρ:L3.Env} {r:R Out} (hL:cM t b ρ=r) (I:Nat->L3.Env->Prop) (m:Nat) (h0:I m ρ) (Q:R Out->Prop) (hQ:¬Q .bad)
  (st:∀m ρ,I m ρ->(t ρ=.ok false/\Q (.ok (.nx ρ)))\/(t ρ=.ok true/\qG (fun ρ2=>∃m',m'<m/\I m' ρ2) Q (b ρ))) (fin:Q r->P):P:=by
 have go:∀(m:Nat) (ρ:L3.Env),I m ρ->∃n,Q (bw t b n ρ):=by
  intro m
  induction m using Nat.strongRecOn with
  |ind m ih =>
   intro ρ h;rcases st m ρ h with ⟨h1,h2⟩ | ⟨h1,h2⟩
   ·exact ⟨1,by rw [bw,h1];exact h2⟩
   ·cases hb:b ρ with
    |bad =>
     rw [hb]at h2;exact h2.elim
    |ex c =>
     rw [hb]at h2;exact ⟨1,by rw [bw,h1,a9,if_pos rfl,hb];exact h2⟩
    |ok o =>
     rw [hb]at h2;cases o with
     |nx ρ2 =>
      obtain ⟨m',h3,h4⟩:=h2;obtain ⟨n,q⟩:=ih m' h3 ρ2 h4;exact ⟨n+1,by rw [bw,h1,a9,if_pos rfl,hb,a9];exact q⟩
     |rt x=>exact ⟨1,by rw [bw,h1,a9,if_pos rfl,hb,a9];exact h2⟩
     |ct ρ2=>exact h2.elim
     |bk ρ2=>exact h2.elim
 obtain ⟨n,q⟩:=go m ρ h0;refine fin ?_;rw [<-hL,qb (n:=n) (λz=>hQ (by rw [z]at q;exact q))]
 exact q
section
variable {X:Cx}
theorem l3:MtR X "str.rfind" (rTx λa b=>.int (Txt.rfind a b)):=by
 intro pins s σ H x xs v us Q I rx rxs h;obtain ⟨a,b,rfl,rfl,hl,q⟩:=h;obtain ⟨t,rfl⟩:=rx;obtain ⟨u,rfl,t2,rfl⟩:=Vals.one rxs;exact SC.rfind ⟨.int _,H,I.tok _,⟨_,rfl⟩,q⟩
theorem pH:MtR X "str.count" (rTx λa b=>.int (Txt.count a b)):=by
 intro pins s σ H x xs v us Q I rx rxs h;obtain ⟨a,b,rfl,rfl,hl,q⟩:=h;obtain ⟨t,rfl⟩:=rx;obtain ⟨u,rfl,t2,rfl⟩:=Vals.one rxs;exact SC.count ⟨.int _,H,I.tok _,⟨_,rfl⟩,q⟩
end
noncomputable def qi (s t:Str):PyData:=.int (Txt.rfind s t)
noncomputable def uu (s t:Str):PyData:=.int (Txt.count s t)
theorem uG {s t:Str}:yU s t=.int (Txt.find s t):=rfl
theorem om {s t:Str}:qi s t=.int (Txt.rfind s t):=rfl
theorem qw {s t:Str}:uu s t=.int (Txt.count s t):=rfl
end L3
namespace L3
open PySem L2 PySem.Spec PyProof.Rows
noncomputable def Bb (X:Cx) (ea:Addr) (oe:Obj):Cx:={ X with calm:=false,pn:=(ea,oe) :: X.pn }
noncomputable def yI (P:St->Prop) (vs:List V):TS:=λD σ H=>P σ/\∀H1 p,aS H H1->H1 p=none->D.rt (.ref p) (upd H1 p (.tup vs))
structure WordOk (P:Program) (w:World) (K:PySem.W.Frag) (mg:Str->Option Value) (base:Heap) (f:Addr) (fd:FuncData) (ps:List Str) (C:Addr) (vs:List V):Prop where
 run:∀(A:Around) (outer:List PySem.Env) (s:Shared) (H:Hp) (args:Args) (ea:Addr) (oe:Obj) (Q:VK),A.depth<recursionLimit->Env0 P w K mg base A outer s H->BindsTo s fd args (ps.zip [.ref ea])->s.heap.get? ea=some oe->oe.cls=.ref C->H ea=none->ea∉frs outer->(∀v,oe.data≠.cell v) ->
  (∀H1 p,aS H H1->H1 p=none->Q (.ref p) (upd H1 p (.tup vs)))->codeAny (model P w) A (.call (.ref f) args) (CR CX0 outer P w H s Q E0) s
theorem rJ {P:Program} {w:World} {K:PySem.W.Frag} {mg:Str->Option Value} {base:Heap} {x qual pn:Str} {st:Stmt} {f C:Addr} {fd:FuncData} {vs:List V} (F:Fun K x qual st f fd) (S:FnScope [pn] [pn] (aq st))
    (h:∀(cdv:Value) (A:Around) (outer:List PySem.Env) (s:Shared) (H:Hp) (ea:Addr) (oe:Obj),oe.cls=.ref C->PSs (Bb (iQ CX0 P w K mg base [pn] qual (aq st) f cdv A outer s H E0) ea oe) (aP st) (yI (fun σ=>σ[0]?=some (some (.ref ea))) vs)) :
    WordOk P w K mg base f fd [pn] C vs:=by
  obtain ⟨oc,od,kV,doc,pm,an,cdv,ct,osl,rfl,lk,hcd⟩:=F.ex;refine ⟨λA outer s H args ea oe Q hr e0 hb hea hoc hH hfo hcl hq=>?_⟩
  have KX:K.In s.heap:=e0.mod.kin.keeps λb o e=>(e0.bs b o e).1
  have lim:s.heap.NoLimit:=e0.mod.nolimit.keeps λb o e=>(e0.bs b o e).1
  have hkind:∀y∈([pn]:List Str).zip [Value.ref ea],(aq st).names.lookup y.1=some .local\/((aq st).names.lookup y.1=some .cell/\((cellsFrom (s.heap.objs.size+1) (aq st).names []).lookup y.1).isSome=true):=λ⟨n,v⟩ hy=>by
    rcases S.par n (List.of_mem_zip hy).1 with q | q
    · exact .inl q
    · exact .inr ⟨q,PySem.W.cellsFrom_some _ _ _ (.inl q)⟩
  refine codeAny_call_function hr (KX _ _ lk) rfl S.co S.gen rfl (PySem.W.codeRec_of KX hcd) (hb _ _ _ _ ?_);refine wpAny_newFunctionEnv_cells S.kind hkind λenv he s1 x=>?_
  subst he;refine ⟨lim.keeps x.toInCall.keep,codeAny_func ?_⟩;have e0':Env0 P w K mg base { A with handled:=none } outer s H:=⟨e0.frames,e0.mod,e0.bs,e0.bsz,e0.funs,e0.frf,e0.hok,e0.bare⟩
  have I:Inv (iQ CX0 P w K mg base [pn] qual (aq st) f cdv { A with handled:=none } outer s H E0) [] (L2.start [pn] [.ref ea]) H s1:=mP S rfl e0' rfl (.cons rfl .nil) x
  have hlt:ea<s.heap.objs.size:=Heap.lt_size hea;have I2:Inv (Bb (iQ CX0 P w K mg base [pn] qual (aq st) f cdv A outer s H E0) ea oe) [] (L2.start [pn] [.ref ea]) H s1 :=
    ⟨⟨I.ok.mod,I.ok.kind,I.ok.glob,I.ok.blt,I.ok.above,I.ok.inj,I.ok.has,I.ok.cab,λz=>(by cases z),I.ok.frames,I.ok.stk,I.ok.exf,I.ok.bs,I.ok.bsz,I.ok.noex,I.ok.exfs,I.ok.funs,I.ok.frf⟩,
      I.os,I.bare,I.base,I.loc,I.cell,I.free,I.freeC,λp m=>by
        have m':p∈[(ea,oe)]:=by simpa [Bb,iQ]using m
        cases List.mem_singleton.mp m';exact ⟨I.base.keep ea oe hea hH hfo (by show ea∉([]:List Addr);simp),hH,Nat.ne_of_lt hlt,hfo,hcl⟩,I.hok,I.len⟩
  refine wpAny_mono (h cdv A outer s H ea oe hoc [] s1 (L2.start [pn] [.ref ea]) H { nx:=λ_ _=>False,rt:=Q } I2 ⟨rfl,hq⟩) (λfl s' hs=>?_) λe s' hs=>hs
  cases fl with
  |ret u =>
    obtain ⟨v,σ',H',J,rv,q⟩:=hs;exact ⟨v,H',J.os,J.bare,J.base,J.hok,rv,q⟩
  |next =>
    obtain ⟨σ',H',J,q⟩:=hs;exact False.elim q
  |brk =>
    obtain ⟨_,_,_,q⟩:=hs;exact False.elim q
  |cont =>
    obtain ⟨_,_,_,q⟩:=hs;exact False.elim q
section
variable {X:Cx} {P:St->Prop} {cv cn c1 c2 e0:Expr} {b1 b2:Bool} {q1 q2 q3 q4 q5 q6 q7 q8 q9 p1 p2 p3 p4 p5 p6:Pos} {k1 k2 x1 x2:Nat} {t:Str}
theorem lH (h5:PE X cv (tB P true)) (h6:PE X cn (tB P false)) (h1:PE X c1 (tB P b1)) (h2:PE X c2 (tB P b2)) (h0:∃t0,PE X e0 t0) (hgi:Gl X "int") (hmi:X.mg "int" = none) (hbi:bootBuiltins "int" = some (.type "int")) {n:Int} (hn:(if b1 then 1 else 0)+(2:Int) * (if b2 then 1 else 0)=n)
  (e5:∀whole,isTrue cv X.env whole=(do let v <-whole;standAt cv.pos;holding [v] (truthy v)):=by intro _;rfl)
  (e6:∀whole,isTrue cn X.env whole=(do let v <-whole;standAt cn.pos;holding [v] (truthy v)):=by intro _;rfl)
  (s1:starEach [c1] X.env=(false,eval c1 X.env) :: starEach [] X.env:=by rfl) (s2:starEach [c2] X.env=(false,eval c2 X.env) :: starEach [] X.env:=by rfl)
  (s3:starEach [.Constant (.str t) k1 p1,.BinOp (.Call (.Name "int" p2) [c1] [] q1) .Add (.BinOp (.Constant (.int 2) k2 p3) .Mult (.Call (.Name "int" p4) [c2] [] q2) q3) q4] X.env=(false,eval (.Constant (.str t) k1 p1) X.env) :: starEach [.BinOp (.Call (.Name "int" p2) [c1] [] q1) .Add (.BinOp (.Constant (.int 2) k2 p3) .Mult (.Call (.Name "int" p4) [c2] [] q2) q3) q4] X.env:=by rfl)
  (s4:starEach [.BinOp (.Call (.Name "int" p2) [c1] [] q1) .Add (.BinOp (.Constant (.int 2) k2 p3) .Mult (.Call (.Name "int" p4) [c2] [] q2) q3) q4] X.env=(false,eval (.BinOp (.Call (.Name "int" p2) [c1] [] q1) .Add (.BinOp (.Constant (.int 2) k2 p3) .Mult (.Call (.Name "int" p4) [c2] [] q2) q3) q4) X.env) :: starEach [] X.env:=by rfl)
  (g1:(backTo q1 (starEach [] X.env)).any (·.1)=false:=by rfl) (g2:(backTo q2 (starEach [] X.env)).any (·.1)=false:=by rfl) :
  PSs X [.If (.BoolOp .Or [.UnaryOp .Not cv q6,cn] q7) [.Return (some e0) q8] [] q9,
   .Return (some (.Tuple [.Constant (.str t) k1 p1,.BinOp (.Call (.Name "int" p2) [c1] [] q1) .Add (.BinOp (.Constant (.int 2) k2 p3) .Mult (.Call (.Name "int" p4) [c2] [] q2) q3) q4] x1 p5)) p6] (yI P [.str t,.int n]):=by
 subst hn;obtain ⟨t0,h0⟩:=h0;refine zC (j0 (xZ (x4 (vm (qc h5 e5)) (uM (qc h6 e6))).pt (jh (kJ h0)) qD)
  (jh (kJ (mz (bc lM (bc (uj uQ (kq jq hgi hmi hbi (bc h1 c_ s1) (by decide) (by decide) s1 g1) (uj ur l8 (kq jq hgi hmi hbi (bc h2 c_ s2) (by decide) (by decide) s2 g2))) c_ s4) s3))))) λD σ H q=>?_
 obtain ⟨P0,k⟩:=q;refine ⟨P0,λH1 e1=>⟨true,rfl,P0,λH2 e2=>⟨false,rfl,?_⟩⟩⟩
 refine ⟨P0,λH3 e3=>.inr ⟨b1,rfl,P0,λH4 e4=>.inr ⟨b2,rfl,?_⟩⟩⟩
 refine ⟨2,_,rfl,rfl,?_,?_⟩
 ·exact .inl ⟨by decide,by decide⟩
 ·refine ⟨_,_,rfl,rfl,by show 2<=sizeLine;decide,λp hp=>k H4 p (((e1.trans e2).trans e3).trans e4) hp⟩
end
section
variable {X:Cx} {pins:List (Addr×Obj)} {σ:L2.St} {H':Hp} {C ea f:Addr} {fd:FuncData} {n x pn:Str} {hpos p p2 cp rp:Pos} {Q:Flow->Shared->Prop} {E:Value->Shared->Prop} {i k:Nat} {vs:List V}
theorem nJ (W:WordOk X.prog X.w X.K X.mg X.base f fd [pn] C vs) (hr:Room k X.A) (hg:Gl X x) (hm:X.mg x=some (.ref f)) (hk:PySem.W.keepIn X.K (.ref f)=true) (hb:Binds X.K fd [pn] []) (hst:X.stack=X.env :: X.outer) (hfe:X.env.frame=some X.env.locals)
  (hca:X.calm=true->X.A.handled=none) (hfr:X.A.frames=some X.stack) (hN:X.N.Nodup) (hi:X.N[i]?=some n) (hl:X.env.scope.names.lookup n=some .local) (hlen:σ.length=X.N.length)
  (hq:∀u σ' H1 p s'',aS H' H1->H1 p=none->Inv X pins σ' (upd H1 p (.tup vs)) s''->RelV (.ref p) u->Q (.ret u) s'')
  (hd:(x == ("__debug__" : Str))=false:=by decide) (hdn:(n == ("__debug__" : Str))=false:=by decide) (hcd:(n == ("__classdict__" : Str))=false:=by decide)
  (he:starEach [.Name n p2] X.env=(false,eval (.Name n p2) X.env) :: starEach [] X.env:=by rfl) (hpl:(backTo cp (starEach [] X.env)).any (·.1)=false:=by rfl) :
  ∀s5,(∀(Q':Unit->Shared->Prop) (E'':Value->Shared->Prop),(∀oe s6,oe.cls=.ref C->Inv (cxM X ea oe) pins σ H' s6->Q' () s6)->wpAny (model X.prog X.w) (X.A.mark (some (.ref ea))) (setFlight (.ref ea) none) Q' E'' s5) ->
    codeAny (model X.prog X.w) (X.A.mark (some (.ref ea))) (.handlers (.ref ea) [.ExceptHandler none (some n) [.Return (some (.Call (.Name x p) [.Name n p2] [] cp)) rp] hpos] X.env) (λr s₂=>match r with
     |.ok f=>wpAny (model X.prog X.w) X.A (do bindName X.env n .none;unbindBehindTheSuite X.env n hpos) (λ_ s₃=>Q f s₃) E s₂
     |.error x=>cameBackBy (model X.prog X.w) X.A X.env E x s₂) s5:=by
 intro s5 hset;have iL:i<σ.length:=by rw [hlen];exact kR hi
 refine codeAny_handlers_suite_as (hset _ _ λoe s6 hoc I6=>?_)
 refine gI (X:=cxM X ea oe) I6 hN hi (.inl hl) (v:=.ref ea) (u:=.ref ea) rfl (λs7 I7=>?_) (.inr hl)
 have pr:PS (cxM X ea oe) (.Return (some (.Call (.Name x p) [.Name n p2] [] cp)) rp) (sY (fun σ H Q=>σ[i]?=some (some (.ref ea))/\∀H1 p,aS H H1->H1 p=none->Q (.ref p) (upd H1 p (.tup vs)))):=by
  refine kJ ?_;intro pins2 s σ2 H Q2 I h;refine wpAny_Call_Name_kw (jj I hg hm ?_ hd);refine PySem.W.callWith_K (h₀:=X.base) I.ok.mod.kin hk (thn (bc (X:=cxM X ea oe) (eS hi (Or.inl hl) hdn hcd) c_ he cp pins2 s σ2 H (λvs2 H2=>vs2=[V.ref ea]/\H2=H) I ⟨_,h.1,rfl,rfl⟩) λus s1 ⟨vs2,H1,I1,r,q⟩=>⟨I1.kIn,?_⟩) he hpl
  obtain ⟨rfl,rfl⟩:=q;obtain ⟨u,rfl,ru⟩:=Vals.one r;cases (show u=Value.ref ea from ru)
  obtain ⟨k1,k2,k3,k4,k5⟩:=I1.pin (ea,oe) (Zv _ Zf);have nf:ea∉frs (cxM X ea oe).stack:=λz=>by
   have z':ea∈frs X.stack:=z;rw [hst,jb hfe]at z';rcases Zn.mp z' with z' | z'
   ·exact k3 z'
   ·exact k4 z'
  have bd:=hb s1 [Value.ref ea] I1.kIn rfl;refine wpAny_call (codeAny_mono (W.run (X.A.mark (some (.ref ea))) X.stack s1 H1 ⟨[.ref ea],[]⟩ ea oe Q2 hr.depth I1.kg bd k1 hoc k2 nf k5 h.2) λr s' hz=>?_)
  cases r with
  |error e=>exact False.elim hz
  |ok fl =>
   cases fl with
   |ret u=>exact I1.after hz
   |next=>exact False.elim hz
   |brk=>exact False.elim hz
   |cont=>exact False.elim hz
 refine wpAny_mono (jh pr pins s7 (σ.set i (some (.ref ea))) H' ⟨λ_ _=>False,λv H2=>∃H1 p,aS H' H1/\H1 p=none/\v=.ref p/\H2=upd H1 p (.tup vs),λ_ _=>False,λ_ _=>False⟩ I7
  ⟨List.getElem?_set_self iL,λH1 p a b=>⟨H1,p,a,b,rfl,rfl⟩⟩) (λfl s8 q=>?_) λ_ _ z=>z.elim
 cases fl with
 |next =>
  obtain ⟨_,_,_,z⟩:=q;exact z.elim
 |ret u =>
  obtain ⟨v,σ',H'',I8,ru,H1,pp,sm,hn1,rfl,rfl⟩:=q;have I9:=vy hca hfr I8;have iL2:i<σ'.length:=by rw [I9.len];exact kR hi
  show wpAny _ _ _ _ _ _
  refine wpAny_bind (wpAny_bindName (gI I9 hN hi (.inl hl) (v:=.non) (u:=.none) rfl (λs10 I10=>?_) (.inr hl)))
  unfold unbindBehindTheSuite;exact wpAny_onRaise (se (v:=.non) I10 hN hi hl (List.getElem?_set_self iL2) λs11 I11=>hq u _ H1 pp s11 sm hn1 I11 ru)
 |brk =>
  obtain ⟨_,_,_,z⟩:=q;exact z.elim
 |cont =>
  obtain ⟨_,_,_,z⟩:=q;exact z.elim
end
noncomputable def rK (fn:Fn) (al:Fa) (j:Nat) (tbl:List (Str×PyData)):Fs:=fun ρ=>(al ρ).bind λxs=>match fn (xs.map OD.er) with
 |.ok z=>.ok (.nx (ρ.set j (some (.sh z.er))))
 |.ex c=>(match tbl.lookup c with
  |some d=>.ok (.rt (.sh d))
  |none=>.bad)
 |.bad=>.bad
section
variable {M:Mx} {X:Cx} {k j:Nat} {f:Addr} {fd:FuncData} {ps:List Str} {x y dx:Str} {p yp pos cpos epos hpos np:Pos} {fn:Fn} {al:Fa} {e:Expr} {es:List Expr} {D:Addr} {nm:Option Str} {b0:Stmt} {suite:List Stmt} {tbl:List (Str×PyData)}
theorem wq (F:FnOk X.prog X.w M.K M.mg X.base (CXE X.prog X.w) k f fd ps (sp3 M.K M.mg fn)) (hr:Room k X.A) (hg:Gl X x) (hm:M.mg x=some (.ref f)) (hk:PySem.W.keepIn M.K (.ref f)=true) (hb:Binds M.K fd ps [])
  (ha:∀xe,DA M { X with xe:=xe } (e :: es) al) (hst:X.stack=X.env :: X.outer) (hfr:X.env.frame=some X.env.locals) (hN:X.N.Nodup) (hj:X.N[j]?=some y) (hy:X.env.scope.names.lookup y=some .local)
  (hD:PySem.W.excIn M.K D vE vN=true) (hgD:Gl X dx) (hmD:M.mg dx=some (.ref D))
  (hT:∀c d,tbl.lookup c=some d->∃C vs ds,d=.tuple ds/\(∀F,RepAll M.K F vs ds)/\M.mg c=some (.ref C)/\PySem.W.subIn M.K (.ref C) (.ref D)=some true /\
   ∀(pins:List (Addr×Obj)) (σ:St) (H':Hp) (ea:Addr) (Q:Flow->Shared->Prop) (E:Value->Shared->Prop),(X.calm=true->X.A.handled=none)->X.A.frames=some X.stack->σ.length=X.N.length ->
    (∀u σ' H1 p s'',aS H' H1->H1 p=none->Inv X pins σ' (upd H1 p (.tup vs)) s''->RelV (.ref p) u->Q (.ret u) s'') ->
    ∀s5,(∀(Q':Unit->Shared->Prop) (E'':Value->Shared->Prop),(∀oe s6,oe.cls=.ref C->Inv (cxM X ea oe) pins σ H' s6->Q' () s6)->wpAny (model X.prog X.w) (X.A.mark (some (.ref ea))) (setFlight (.ref ea) none) Q' E'' s5) ->
    codeAny (model X.prog X.w) (X.A.mark (some (.ref ea))) (.handlers (.ref ea) [.ExceptHandler none nm (b0 :: suite) hpos] X.env) (λr s₂=>match r with
     |.ok f=>(match nm with
      |none=>Q f s₂
      |some n=>wpAny (model X.prog X.w) X.A (do bindName X.env n .none;unbindBehindTheSuite X.env n hpos) (λ_ s₃=>Q f s₃) E s₂)
     |.error x=>cameBackBy (model X.prog X.w) X.A X.env E x s₂) s5)
  (hd:(x == ("__debug__" : Str))=false:=by decide) (hdD:(dx == ("__debug__" : Str))=false:=by decide)
  (he:starEach (e :: es) X.env=(false,eval e X.env) :: starEach es X.env:=by rfl) (hpl:(backTo cpos (starEach es X.env)).any (·.1)=false:=by rfl)
  (hs:swapsWith (.Call (.Name x p) (e :: es) [] cpos) (some (.Name y yp)) epos.line X.env=pure false:=by rfl) :
  DS M X (.Try [.Assign [.Name y yp] (.Call (.Name x p) (e :: es) [] cpos) epos] [.ExceptHandler (some (.Name dx np)) nm (b0 :: suite) hpos] [] [] pos) (rK fn al j tbl):=λhK hM pins s σ H D' I q=>by
 obtain ⟨F0,ρ,fp,S,pq⟩:=q;refine wpAny_Try_except (wpAny_execs_cons ?_);have F':FnOk X.prog X.w X.K X.mg X.base (CXE X.prog X.w) k f fd ps (sp3 M.K M.mg fn):=by
  rw [hK,hM];exact F
 refine wpAny_Assign_Name ?_ hs;refine wpAny_Call_Name_kw (jj I hg (by rw [hM];exact hm) ?_ hd)
 refine PySem.W.callWith_K (h₀:=X.base) (K:=X.K) I.ok.mod.kin (by rw [hK];exact hk) ?_ he hpl
 have pa:=ha (λe s₁=>wpAny (model X.prog X.w) X.A (noteFrame e X.env) (λ_ s₂=>wpAny (model X.prog X.w) X.A (setFlight e none) (λ_ s₃=>wpAny (model X.prog X.w) X.A (handleBy e X.env [.ExceptHandler (some (.Name dx np)) nm (b0 :: suite) hpos]) (SP X pins D') X.xe s₃) X.xe s₂) X.xe s₁) hK hM
 refine thn (pa cpos pins s σ H (λvs H1=>∃G1 ds,Ext F0 H G1 H1/\RepAll M.K G1 vs ds/\aM M H1 fp (iu M X.N.length G1 H1 fp D') (match fn ds with
   |.ok z=>.ok (.nx (ρ.set j (some (.sh z.er))))
   |.ex c=>(match tbl.lookup c with
    |some d=>.ok (.rt (.sh d))
    |none=>.bad)
   |.bad=>.bad)) (Cv I) ⟨F0,ρ,fp,S,(aM.bind pq).mono λxs px vs F1 H1 fx e1 r1 w1=>?_⟩) λus s1 hz=>?_
 ·obtain ⟨G1,d1,k1⟩:=r1.frz e1 w1
  exact ⟨G1,xs.map OD.er,d1,k1,(px.ext d1).mono λo ho=>iu.stp d1.stp ho⟩
 ·obtain ⟨vs,H1,I1',r1,G1,ds,d1,k1,px⟩:=hz
  have I1:Inv X pins σ H1 s1:=zA I1';have S1:=S.ext d1;refine ⟨I1.kIn,?_⟩;have hsp:sp3 M.K M.mg fn vs H1 (λv H2=>∃z,fn ds=.ok z/\∃G2,Ext G1 H1 G2 H2/\Rep M.K G2 v z.er) (λcls _ H2=>(∃c b,fn ds=.ex c/\tbl.lookup c=some b/\M.mg c=some cls)/\aS H1 H2):=by
   refine ⟨G1,ds,d1.fh,k1,?_⟩;cases hf:fn ds with
   |ok z =>
    intro v F' H' fx e r w;obtain ⟨G2,d2,k2⟩:=r.frz e w;exact ⟨z,rfl,G2,d2,k2⟩
   |bad =>
    rw [hf]at px;exact px.elim
   |ex c =>
    rw [hf]at px;cases hc:tbl.lookup c with
    |none =>
     simp only [hc]at px;exact px.elim
    |some b =>
     obtain ⟨C,_,_,_,_,hC,_⟩:=hT c b hc;exact ⟨.ref C,hC,λod H2 hk=>⟨⟨c,b,rfl,hc,hC⟩,λa o z=>hk a o z (by simp)⟩⟩
  have hl:(us++[]).length=ps.length:=by
   rw [Zw,<-r1.length];exact F.len _ _ _ _ hsp
  have hbd:=hb s1 us (hK▸I1.kIn) hl;rw [Zw]at hbd;refine wpAny_call (codeAny_mono (F'.run X.A X.stack s1 H1 ⟨us,[]⟩ us vs _ _ hr I1.kg hbd r1 hsp) λr s2 hq=>?_)
  cases r with
  |error ev =>
   have hq':CXE X.prog X.w X.stack H1 s1 (λcls _ H2=>(∃c b,fn ds=.ex c/\tbl.lookup c=some b/\M.mg c=some cls)/\aS H1 H2) ev s2:=hq
   refine xo I1 hq' hst hfr (by rw [hK];exact hD) hgD (by rw [hM];exact hmD) hdD λea cls H' _ hE=>?_
   obtain ⟨⟨c,b,hfn,hc,hmc⟩,same⟩:=hE;obtain ⟨C,vs2,ds2,rfl,hrp,hC,hsub,hh⟩:=hT c b hc;rw [hC]at hmc;cases hmc;refine ⟨C,rfl,by rw [hK];exact hsub,λs5 hset=>hh pins σ H' ea _ _ I1.ok.hd I1.ok.frames I1.len (λu σ' H2 p2 s'' sm hn J ru=>?_) s5 hset⟩
   rw [hfn]at px;simp only [hc]at px;have hn1:H1 p2=none:=by
    cases z:H1 p2 with
    |none=>rfl
    |some o =>
     rw [sm _ _ (same _ _ z)]at hn;cases hn
   have gn:G1 p2=none:=by
    cases z:G1 p2 with
    |none=>rfl
    |some o =>
     rw [d1.fh _ _ z]at hn1;cases hn1
   have up:aS H1 (upd H2 p2 (.tup vs2)):=λa o z=>by
    rw [aU (λy=>by subst y;rw [hn1]at z;cases z)]
    exact sm _ _ (same _ _ z)
   have gf:aS G1 (upd G1 p2 (.tup vs2)):=λa o z=>by
    rw [aU (λy=>by subst y;rw [gn]at z;cases z)]
    exact z
   have fh:aS (upd G1 p2 (.tup vs2)) (upd H2 p2 (.tup vs2)):=λa o z=>by
    by_cases ha:a=p2
    ·subst ha
     rw [bU]at z ⊢;exact z
    ·rw [aU ha]at z ⊢
     exact sm _ _ (same _ _ (d1.fh _ _ z))
   exact ⟨.ref p2,σ',upd H2 p2 (.tup vs2),J,ru,px (.ref p2) (upd G1 p2 (.tup vs2)) (upd H2 p2 (.tup vs2)) [] fh (Res.sh (.tup bU (hrp _))) ⟨gf,λa o z _=>up a o z,(λa m=>by cases m),λa z1 z2 z3=>by
    rw [aU (λy=>by subst y;exact z1 hn1)]
    exact z3⟩⟩
  |ok fl =>
   cases fl with
   |ret u =>
    obtain ⟨v,H2,J,ru,z,hf,G2,e2,rp⟩:=I1.after hq;rw [hf]at px;have J':Inv X pins σ H2 s2:=J;refine gI J' hN hj (.inl hy) ru (λs3 I3=>?_) (.inr hy)
    have S2:=S1.ext e2;obtain ⟨fp',S3,sub⟩:=S2.set (kR hj) (Res.sh (K:=M.K) (F:=G2) (H:=H2) rp) λ_ m=>by cases m
    refine wpAny_execs_nil (wpAny_execs_nil ⟨_,H2,I3,px _ G2 H2 fp' S3 ⟨e2.ff,λa o z _=>e2.hh a o z,λa m=>.inl ((sub a m).elim id λz=>by cases z),λa z1 _ z3=>e2.nw a z1 z3⟩⟩)
   |next=>exact False.elim hq
   |brk=>exact False.elim hq
   |cont=>exact False.elim hq
end
noncomputable def twK (j:Nat) (tbl:List (Str×PyData)) (ρ:L3.Env):R OD->R Out
 |.ok z=>.ok (.nx (ρ.set j (some (.sh z.er))))
 |.ex c=>(match tbl.lookup c with
  |some d=>.ok (.rt (.sh d))
  |none=>.bad)
 |.bad=>.bad
theorem vw {fn:Fn} {al:Fa} {j:Nat} {tbl:List (Str×PyData)} {ρ:L3.Env}:rK fn al j tbl ρ=unK (λxs=>twK j tbl ρ (fn (xs.map OD.er))) (al ρ):=by
 unfold rK;rw [cH];congr 1
theorem Eo {j:Nat} {tbl:List (Str×PyData)} {ρ:L3.Env} {z:OD}:twK j tbl ρ (.ok z)=.ok (.nx (ρ.set j (some (.sh z.er)))):=rfl
theorem FQ {j:Nat} {tbl:List (Str×PyData)} {ρ:L3.Env} {c:Str} {d:PyData} (h:tbl.lookup c=some d):twK j tbl ρ (.ex c)=.ok (.rt (.sh d)):=by
 show (match tbl.lookup c with
  |some d=>R.ok (Out.rt (.sh d))
  |none=>.bad)=_
 rw [h]
theorem zl {Pr:Str->PyData->Prop}:∀c b,List.lookup c ([]:List (Str×PyData))=some b->Pr c b:=λ_ _ h=>by cases h
theorem qz {Pr:Str->PyData->Prop} {a:Str} {b0:PyData} {l:List (Str×PyData)} (h:Pr a b0) (r:∀c b,l.lookup c=some b->Pr c b):∀c b,((a,b0) :: l).lookup c=some b->Pr c b:=λc b q=>by
 rw [List.lookup_cons]at q;split at q
 ·rename_i e
  cases q;rw [beq_iff_eq.mp e];exact h
 ·exact r c b q
end L3
namespace B
inductive F where
 |nil
 |cons (k:Nat) (c r:F)
namespace F
noncomputable def pre:F->List Nat
 |nil=>[]
 |cons k c r=>k :: (pre c++pre r)
noncomputable def roots:F->List Nat
 |nil=>[]
 |cons k _ r=>k :: roots r
noncomputable def Cg:F->List Nat
 |nil=>[]
 |cons k c r=>Cg r++(k :: Cg c)
noncomputable def app:F->F->F
 |nil,g=>g
 |cons k c r,g=>cons k c (app r g)
noncomputable def mir:F->F
 |nil=>nil
 |cons k c r=>app (mir r) (cons k (mir c) nil)
noncomputable def map (h:Nat->Nat):F->F
 |nil=>nil
 |cons k c r=>cons (h k) (map h c) (map h r)
noncomputable def Con (ch:Nat->List Nat):F->Prop
 |nil=>True
 |cons k c r=>ch k=roots c/\Con ch c/\Con ch r
noncomputable def Eld (e:Nat->Int):Int->F->Prop
 |_,nil=>True
 |p,cons k c r=>e k=p/\Eld e (k:Int) c/\Eld e p r
theorem pre_app:∀f g:F,pre (app f g)=pre f++pre g
 |nil,g=>rfl
 |cons k c r,g=>by rw [app,pre,pre,pre_app r g,List.cons_append,ZB]
theorem rG {e:Nat->Int} {p:Int}:∀f g:F,Eld e p (app f g) ↔ Eld e p f/\Eld e p g
 |nil,g=>by rw [app,Eld];simp
 |cons k c r,g=>by rw [app,Eld,Eld,rG r g];simp only [and_assoc]
theorem lh (h:Nat->Nat):∀f:F,pre (map h f)=(pre f).map h
 |nil=>rfl
 |cons k c r=>by rw [map,pre,lh h c,lh h r,pre,Zj,Zk]
theorem snoc:∀f:F,f≠nil->∃g k c,f=app g (cons k c nil)
 |nil,h=>absurd rfl h
 |cons k c nil,_=>⟨nil,k,c,rfl⟩
 |cons k c (cons k' c' r'),_=>by
  obtain ⟨g,a,b,e⟩:=snoc (cons k' c' r') (λz=>nomatch z)
  exact ⟨cons k c g,a,b,by rw [app,e]⟩
theorem ir {e:Nat->Int} {q:Int}:∀(p:Int) (f:F),Eld e p f->q≠p->(∀j∈pre f,(j:Int)≠q)->(pre f).filter (λj=>decide (e j=q))=[]
 |_,nil,_,_,_=>rfl
 |p,cons k c r,h,hp,hq=>by
  obtain ⟨h1,h2,h3⟩:=h;rw [pre,List.filter_cons,if_neg (by rw [decide_eq_true_eq,h1];exact λz=>hp z.symm),List.filter_append,ir _ c h2 (λz=>hq k (by rw [pre];exact Zf) z.symm) (λj hj=>hq j (by rw [pre];simp [hj])),ir p r h3 hp (λj hj=>hq j (by rw [pre];simp [hj]))]
  rfl
theorem pe {e:Nat->Int}:∀(p:Int) (f:F),Eld e p f->(∀j∈pre f,(j:Int)≠p)->(pre f).filter (λj=>decide (e j=p))=roots f
 |_,nil,_,_=>rfl
 |p,cons k c r,h,hq=>by
  obtain ⟨h1,h2,h3⟩:=h;rw [pre,List.filter_cons,if_pos (by rw [decide_eq_true_eq,h1]),List.filter_append,ir _ c h2 (λz=>hq k (by rw [pre];exact Zf) z.symm) (λj hj=>hq j (by rw [pre];simp [hj])),pe p r h3 (λj hj=>hq j (by rw [pre];simp [hj])),roots]
  rfl
theorem jd {ch ch':Nat->List Nat}:∀f:F,(∀q∈pre f,ch q=ch' q)->Con ch' f->Con ch f
 |nil,_,_=>trivial
 |cons k c r,h,hc=>by
  obtain ⟨h1,h2,h3⟩:=hc;exact ⟨(h k (by rw [pre];exact Zf)).trans h1,jd c (λq m=>h q (by rw [pre];simp [m])) h2,jd r (λq m=>h q (by rw [pre];simp [m])) h3⟩
theorem oz {e:Nat->Int}:∀(p:Int) (f:F),Eld e p f->(pre f).Nodup->(∀j∈pre f,(j:Int)≠p)->Con (λq=>(pre f).filter (λj=>decide (e j=(q:Int)))) f
 |_,nil,_,_,_=>trivial
 |p,cons k c r,h,nd,hp=>by
  obtain ⟨h1,h2,h3⟩:=h;rw [pre,List.nodup_cons,ZI]at nd;obtain ⟨nk,n1,n2,n3⟩:=nd;have hpk:(k:Int)≠p:=hp k (by rw [pre];exact Zf)
  have kc:∀j∈pre c,(j:Int)≠(k:Int):=λj m z=>nk (by
   have:j=k:=by lia
   rw [<-this];simp [m])
  have kr:∀j∈pre r,(j:Int)≠(k:Int):=λj m z=>nk (by
   have:j=k:=by lia
   rw [<-this];simp [m])
  have pc:∀j∈pre c,(j:Int)≠p:=λj m=>hp j (by rw [pre];simp [m])
  have pr:∀j∈pre r,(j:Int)≠p:=λj m=>hp j (by rw [pre];simp [m])
  have split:∀q:Nat,(q:Int)≠p->(pre (cons k c r)).filter (λj=>decide (e j=(q:Int)))=(pre c).filter (λj=>decide (e j=(q:Int)))++(pre r).filter (λj=>decide (e j=(q:Int))):=λq hq=>by
   rw [pre,List.filter_cons,if_neg (by rw [decide_eq_true_eq,h1];exact λz=>hq z.symm),List.filter_append]
  refine ⟨?_,jd c (λq m=>?_) (oz _ c h2 n1 kc),jd r (λq m=>?_) (oz p r h3 n2 pr)⟩
  ·show (pre (cons k c r)).filter (λj=>decide (e j=(k:Int)))=roots c
   rw [split k hpk,pe _ c h2 kc,ir p r h3 hpk kr,Zw]
  ·show (pre (cons k c r)).filter (λj=>decide (e j=(q:Int)))=(pre c).filter (λj=>decide (e j=(q:Int)))
   rw [split q (pc q m),ir p r h3 (pc q m) (λj mj z=>n3 q m j mj (by lia)),Zw]
  ·show (pre (cons k c r)).filter (λj=>decide (e j=(q:Int)))=(pre r).filter (λj=>decide (e j=(q:Int)))
   rw [split q (pr q m),ir _ c h2 (λz=>kr q m z) (λj mj z=>n3 j mj q m (by lia)),List.nil_append]
end F
end B
namespace B
namespace F
structure Pf (n:Nat) (e:Nat->Int) (c:F):Prop where
 pre:0 :: pre c=List.range n
 root:e 0=-1
 eld:Eld e 0 c
variable {n:Nat} {e:Nat->Int} {c:F}
noncomputable def full (c:F):F:=cons 0 c nil
theorem Pf.pos (h:Pf n e c):0<n:=by
 have:=congrArg List.length h.pre;rw [Zq,Zh]at this
 lia
theorem Pf.preF (h:Pf n e c):F.pre (full c)=List.range n:=by
 unfold full;rw [F.pre,F.pre,Zw];exact h.pre
theorem Pf.eldF (h:Pf n e c):Eld e (-1) (full c):=⟨h.root,h.eld,trivial⟩
theorem Pf.con (h:Pf n e c):Con (λq=>(List.range n).filter (λj=>decide (e j=(q:Int)))) (full c):=by
 have:=oz (-1) (full c) h.eldF (by rw [h.preF];exact List.nodup_range) (λj _=>by lia)
 rw [h.preF]at this;exact this
noncomputable def R (c:F):List Nat:=Cg (full c)
noncomputable def g (c:F) (k:Nat):Nat:=(R c).idxOf k
noncomputable def e1 (e:Nat->Int) (c:F) (i:Nat):Int:=match (R c)[i]? with
 |some k=>if e k<0 then -1 else (g c (e k).toNat:Int)
 |none=>-1
noncomputable def gi (c:F) (p:Int):Int:=if p<0 then -1 else (g c p.toNat:Int)
noncomputable def c1 (c:F):F:=map (g c) (mir c)
theorem nQ {e:Nat->Int}:∀(p:Int) (f:F),Eld e p f->∀k∈F.pre f,e k=p\/∃j:Nat,j∈F.pre f/\e k=(j:Int)
 |_,nil,_,_,m=>by cases m
 |p,cons a c r,h,k,m=>by
  obtain ⟨h1,h2,h3⟩:=h;rw [F.pre]at m;rcases Zn.mp m with rfl | m
  ·exact .inl h1
  ·rcases Zr.mp m with m | m
   ·rcases nQ _ c h2 k m with z | ⟨j,j1,j2⟩
    ·exact .inr ⟨a,by rw [F.pre];exact Zf,z⟩
    ·exact .inr ⟨j,by rw [F.pre];simp [j1],j2⟩
   ·rcases nQ p r h3 k m with z | ⟨j,j1,j2⟩
    ·exact .inl z
    ·exact .inr ⟨j,by rw [F.pre];simp [j1],j2⟩
end F
end B
namespace B
namespace F
noncomputable def path:F->List Nat
 |nil=>[]
 |cons k c nil=>k :: path c
 |cons _ _ (cons k c r)=>path (cons k c r)
noncomputable def iP:F->Nat->Nat->F
 |f,0,x=>app f (cons x nil nil)
 |nil,_+1,_=>nil
 |cons k c nil,d+1,x=>cons k (iP c d x) nil
 |cons k c (cons k' c' r'),d+1,x=>cons k c (iP (cons k' c' r') (d+1) x)
theorem mW:∀(f:F) (x:Nat),path (app f (cons x nil nil))=[x]
 |nil,x=>rfl
 |cons k c nil,x=>rfl
 |cons k c (cons k' c' r'),x=>by
  have:=mW (cons k' c' r') x;rw [app]at this ⊢;rw [app];rw [path];exact this
theorem kz {e e':Nat->Int}:∀(p:Int) (f:F),(∀k∈F.pre f,e' k=e k)->Eld e p f->Eld e' p f
 |_,nil,_,_=>trivial
 |p,cons k c r,h,hc=>by
  obtain ⟨h1,h2,h3⟩:=hc;exact ⟨(h k (by rw [F.pre];exact Zf)).trans h1,kz _ c (λq m=>h q (by rw [F.pre];simp [m])) h2,kz p r (λq m=>h q (by rw [F.pre];simp [m])) h3⟩
theorem vK {k d x:Nat} {c r:F}:∃k' c' r',iP (cons k c r) (d+1) x=cons k' c' r':=by
 cases r with
 |nil=>exact ⟨_,_,_,by rw [iP]⟩
 |cons a b t=>exact ⟨_,_,_,by rw [iP]⟩
theorem lL {e:Nat->Int} {x:Nat}:∀(f:F) (d:Nat) (p:Int),d<=(path f).length->Eld e p f->e x=(if d=0 then p else ((path f)[d-1]?.getD 0:Int)) ->
  F.pre (iP f d x)=F.pre f++[x]/\path (iP f d x)=(path f).take d++[x]/\Eld e p (iP f d x)
 |f,0,p,_,h,hx=>by
  rw [iP,pre_app,mW,rG];exact ⟨rfl,rfl,h,by simpa using hx,trivial,trivial⟩
 |nil,d+1,p,hd,_,_=>by
  rw [path]at hd;simp at hd
 |cons k c nil,d+1,p,hd,h,hx=>by
  obtain ⟨h1,h2,h3⟩:=h;rw [path,Zq]at hd;have ih:=lL (e:=e) (x:=x) c d (k:Int) (by lia) h2 (by
   rw [hx,if_neg (by lia),path]
   by_cases d0:d=0
   ·subst d0
    rfl
   ·obtain ⟨m,rfl⟩:∃m,d=m+1:=⟨d-1,by lia⟩
    rw [if_neg (by lia)]
    rfl)
  rw [iP,F.pre,F.pre,ih.1,F.pre];refine ⟨by simp [F.pre],?_,h1,ih.2.2,trivial⟩
  rw [path,path,ih.2.1,List.take_succ_cons,List.cons_append]
 |cons k c (cons k' c' r'),d+1,p,hd,h,hx=>by
  obtain ⟨h1,h2,h3⟩:=h;have hp:path (cons k c (cons k' c' r'))=path (cons k' c' r'):=by rw [path]
  rw [hp]at hd hx;have ih:=lL (e:=e) (x:=x) (cons k' c' r') (d+1) p hd h3 hx;obtain ⟨a,b,t,hq⟩:=vK (k:=k') (d:=d) (x:=x) (c:=c') (r:=r');rw [iP,F.pre,ih.1,hp];refine ⟨?_,?_,h1,h2,ih.2.2⟩
  ·show k :: (F.pre c++(F.pre (cons k' c' r')++[x]))=(k :: (F.pre c++F.pre (cons k' c' r')))++[x]
   rw [List.cons_append,ZB]
  rw [hq]at ih ⊢;rw [path];exact ih.2.1
theorem mm {e e':Nat->Int} {h:Nat->Nat} {hi:Int->Int}:∀(p:Int) (f:F),(∀k∈F.pre f,e' (h k)=hi (e k)/\hi (k:Int)=(h k:Int))->Eld e p f->Eld e' (hi p) (map h f)
 |_,nil,_,_=>trivial
 |p,cons k c r,hp,he=>by
  obtain ⟨h1,h2,h3⟩:=he;have hk:=hp k (by rw [F.pre];exact Zf)
  refine ⟨?_,?_,mm p r (λj m=>hp j (by rw [F.pre];simp [m])) h3⟩
  ·rw [hk.1,h1]
  ·have:=mm (k:Int) c (λj m=>hp j (by rw [F.pre];simp [m])) h2
   rw [hk.2]at this;exact this
theorem vz {e:Nat->Int}:∀(f:F) (p:Int),Eld e p f->(∀k∈F.pre f,p<=(k:Int))->∀k∈F.pre f,p<=e k
 |nil,_,_,_,_,m=>by cases m
 |cons a c r,p,h,hp,k,m=>by
  obtain ⟨h1,h2,h3⟩:=h;rcases nQ p (cons a c r) ⟨h1,h2,h3⟩ k m with z | ⟨j,j1,j2⟩
  ·lia
  ·rw [j2]
   exact hp j j1
end F
end B
namespace B
open PySem L2 L3
noncomputable def gh:Fs:=(aI (sIf (aB (eOp gLt (af 1) (eB cg (aj (af 0) aF)))) (ba (eOp gIx (af 0) (af 1))) sNx)
 (aI (aY 2 (eOp aO (eOp jH (eC (.int 7919)) (af 1)) (eC (.int 5))))
 (aI (sIf (aB (eOp gGt (eB cg (aj (af 0) aF)) (eC (.int 0)))) (aY 2 (eOp dM (eOp aO (eOp jH (eOp gIx (af 0) (eOp dM (af 1) (eB cg (aj (af 0) aF)))) (eC (.int 48271))) (eOp jH (af 1) (eC (.int 7919)))) (eC (.int 2147483647)))) sNx)
 (ba (eOp dM (eOp jH (af 2) (af 2)) (eC (.int 2147483629)))))))
noncomputable def bQ:Fn:=bx 2 3 gh
noncomputable def fQ:Fs:=(ba (pT (mM "int" (af 0)) (vH (mM "bool" (af 0)))))
noncomputable def cL:Fn:=bx 1 1 fQ
noncomputable def fT:Fs:=(aI (aY 2 (eC (.str "abcdefghijklmnopqrstuvwxyz")))
 (aI (aY 3 (eC (.str "")))
 (aI (jM (iR1 (eOp aO (eC (.int 1)) (eOp dM (af 0) (af 1)))) (gNm 4) (aY 3 (eOp aO (af 3) (eOp gIx (af 2) (eOp dM (eOp gG (af 0) (eOp aO (eC (.int 9)) (eOp jH (eOp jH (eC (.int 4)) (af 4)) (af 4)))) (eC (.int 26)))))))
 (ba (af 3)))))
noncomputable def dA:Fn:=bx 2 5 fT
noncomputable def gE:Fs:=(aI (aY 5 (fM aF))
 (aI (aY 6 (eSh (fM aF)))
 (aI (jM (iR1 (af 2)) (gNm 7) (aI (aY 8 (eOp dM (eOp jH (aR bQ (aj (af 0) (aj (eOp aO (af 1) (af 7)) aF))) (eC (.int 69621))) (eC (.int 2147483629))))
 (aI (sIf (aB (eOp gGt (af 7) (eC (.int 0)))) (aI (aY 9 (eOp aO (eC (.int 1)) (eOp dM (af 8) (eB cg (aj (af 6) aF)))))
 (aI (sIf (aB (eOp gEq (eOp dM (eOp gG (af 8) (eC (.int 16))) (eC (.int 3))) (eC (.int 0)))) (aY 9 (eB cg (aj (af 6) aF))) sNx)
 (aI (aY 6 (eSh (eSl xC (af 6) fX (bM (eB pf (aj (af 9) (aj (af 4) aF)))))))
 (ju 5 (eSh (j9 (aj (eOp gIx (af 6) (eUn jv (eC (.int 1)))) (aj (eSh (aR dA (aj (eOp gG (af 8) (eC (.int 64))) (aj (af 3) aF)))) (aj (eOp aO (eC (.int 1)) (eOp dM (eOp gG (af 8) (eC (.int 4096))) (eC (.int 9)))) aF))))))))) (ju 5 (eSh (j9 (aj (eUn jv (eC (.int 1))) (aj (eSh (aR dA (aj (eOp gG (af 8) (eC (.int 64))) (aj (af 3) aF)))) (aj (eOp aO (eC (.int 1)) (eOp dM (eOp gG (af 8) (eC (.int 4096))) (eC (.int 9)))) aF)))))))
 (aY 6 (eSh (eOp aO (af 6) (fM (aj (af 7) aF))))))))
 (kl 5))))
noncomputable def fq:Fn:=bx 5 10 gE
local macro_rules
 |`(tactic| push_cast only [$a,*] $[$l:location]?)=>do
  let e <- ("v_var v_c GL F8 BK zc Em yY v_and v_or v_not F_ zm xM EK Df yV v_b GO v_bor Bk Bj E5 ES Fc xD xn Gn zg Am Gq GX GY Gg E3 Ed CG C6 FP yW Dq GR Gu GK CS EI CL zB DY yQ zR EU Eh yZ FA E8 Fq CJ Cy FU yd Gf Fh Ge C0 BO AE EW EH xx xh B0 Bo Aq Cj Es Fz zK EA zy Ai BX Cz EV Bu GC CB AR FL AL ze DD wj FY EZ C9 Ej GU Gr GZ DR Ah BA Du Dh Bp Dk CA CF Eu Ee EF C5 Ep EN Er Ey GV GA G5 Gj Gp Ga Bm E2 CP zz Av BM BN Ca Au En Ar EG Bf at0 at1 at2 FF Ba zX BW A_ Af Ae Bt y0 zO BB Ad BD zY zJ zM AM F7 GN Gk Gi Gm Gd iU yx CU flat List.map_cons List.map_nil List.length_cons List.length_nil List.getElem?_cons_zero List.getElem?_cons_succ List.getElem?_nil List.set_cons_zero List.set_cons_succ List.cons_append List.nil_append List.append_nil List.replicate_succ List.replicate_zero Nat.reduceAdd Nat.reduceSub Nat.reduceLeDiff Nat.reduceLT Nat.reduceEqDiff Nat.zero_add Bool.not_true Bool.not_false if_true if_false Bool.false_eq_true reduceIte decide_true decide_false reduceCtorEq w4 G0 Int.reduceLT Int.reduceLE Int.reduceNeg Int.reducePow Int.reduceToNat Int.reduceMul Int.reduceAdd Int.reduceSub Nat.reducePow and_true true_and and_self List.length_map Ez Cm v_sub CC EY Eb ED Cw FE Dv Fj Int.cast_ofNat_Int Int.reduceEq Int.reduceNe Cr AN zq C_ DZ Fu FD Co".splitOn " ").toArray.mapM λs=>`(Lean.Parser.Tactic.simpLemma| $(Lean.mkIdent s.toName):ident)
  `(tactic| simp (maxSteps:=1000000) -implicitDefEqProofs only [$e,*,$a,*] $[$l]?)
theorem sM (z:Int):cL [.int z]=.ok (.sh (.bool true)):=by
 unfold cL fQ;push_cast only [and_self]
theorem j4 (ns:List Int) (k:Int) (h0:0<=k) (h1:k<1000000):∃z,bQ [.list (ns.map PyData.int),.int k]=.ok (.sh (.int z)):=by
 unfold bQ gh;by_cases hk:k<(ns.length:Int)
 ·obtain ⟨x,e1,e2⟩:=kB (ns.map PyData.int) k h0 (by simpa using hk)
  rw [Za]at e1;obtain ⟨z,_,rfl⟩:=Zo.mp e1;exact ⟨z,by push_cast only [decide_eq_true hk,e2]⟩
 ·by_cases hl:(0:Int)<ns.length
  ·have hm:=dF k hl
   obtain ⟨x,e1,e2⟩:=kB (ns.map PyData.int) (k % (ns.length:Int)) hm.1 (by simpa using hm.2)
   rw [Za]at e1;obtain ⟨z,_,rfl⟩:=Zo.mp e1;have h2:=dF (z * 48271+k * 7919) (show (0:Int)<2147483647 by decide)
   have c2:iR ((z * 48271+k * 7919) % 2147483647) ((z * 48271+k * 7919) % 2147483647)=true:=w4 (by lia) (by lia)
   refine ⟨(z * 48271+k * 7919) % 2147483647 * ((z * 48271+k * 7919) % 2147483647) % 2147483629,?_⟩;push_cast only [decide_eq_false hk,decide_eq_true hl,hl,e2,c2]
  ·have c2:iR (7919 * k+5) (7919 * k+5)=true:=w4 (by lia) (by lia)
   refine ⟨(7919 * k+5) * (7919 * k+5) % 2147483629,?_⟩;push_cast only [decide_eq_false hk,decide_eq_false hl,c2]
structure Nd where
 e:Int
 l:Str
 t:Int
noncomputable def nq (l:Str):Prop:=1<=l.length/\l.length<=9/\∀c∈l.cps.toList,97<=c/\c<=122
noncomputable def gY (n:Nd):Prop:=nq n.l/\1<=n.t/\n.t<=9
noncomputable def ndD (n:Nd):PyData:=.tuple [.int n.e,.str n.l,.int n.t]
noncomputable def aW (ts:List Nd):List PyData:=ts.map ndD
inductive Grown (deep:Nat):List Nd->List Int->Prop
 |root {n:Nd}:gY n->n.e=-1->Grown deep [n] [0]
 |step {ns:List Nd} {way:List Int} {c:Nat} {n:Nd}:Grown deep ns way->1<=c->c<=way.length->c<=deep->gY n->way[c-1]?=some n.e->Grown deep (ns++[n]) (way.take c++[(ns.length:Int)])
theorem Grown.pos {deep:Nat} {ns:List Nd} {way:List Int} (g:Grown deep ns way):0<ns.length/\0<way.length:=by
 cases g with
 |root=>simp
 |step=>simp
theorem Grown.way_lt {deep:Nat} {ns:List Nd} {way:List Int} (g:Grown deep ns way):∀x∈way,0<=x/\x<ns.length:=by
 induction g with
 |root=>simp
 |@step ns way c n g h1 h2 h3 h4 h5 ih =>
  intro x hx;rw [Zr]at hx;rw [Zd];rcases hx with hx | hx
  ·have:=ih x (List.mem_of_mem_take hx)
   simp
   lia
  ·have:x=ns.length:=by simpa using hx
   simp
   lia
theorem Grown.ok {deep:Nat} {ns:List Nd} {way:List Int} (g:Grown deep ns way):∀n∈ns,gY n:=by
 induction g with
 |root h=>simpa using h
 |@step ns way c n g h1 h2 h3 h4 h5 ih =>
  intro x hx;rcases Zr.mp hx with hx | hx
  ·exact ih x hx
  ·have:x=n:=by simpa using hx
   rw [this];exact h4
theorem xP {k:Int} (h0:0<=k) (h1:k<26):∃c,atI (Str.ofString "abcdefghijklmnopqrstuvwxyz").cps.toList k=some c/\97<=c/\c<=122:=by
 have e:(Str.ofString "abcdefghijklmnopqrstuvwxyz").cps.toList=List.range' 97 26:=by decide +kernel
 rw [e];obtain ⟨v,e1,e2⟩:=kB (List.range' 97 26) k h0 (by simpa using h1)
 refine ⟨v,e2,?_⟩;have:=List.mem_range'.mp (Zz e1)
 lia
theorem uk (k:Int) (h0:0<=k) (h1:k<26):∃c,atI (Str.ofString "abcdefghijklmnopqrstuvwxyz").cps.toList k=some c/\(97<=c/\c<=122):=xP h0 h1
theorem lC (a b:Str):(a++b).cps.toList=a.cps.toList++b.cps.toList:=PyProof.Rows.cps_toList_append a b
theorem je (a:Str):a.length=a.cps.toList.length:=by simp [Str.length]
theorem tw (a:Str) (c:Nat):(a++⟨#[c]⟩:Str).length=a.length+1:=by
 rw [je,lC,je,Zd];rfl
theorem uJ (z m:Int) (m1:1<=m) (m2:m<=9):∃l,nq l/\dA [.int z,.int m]=.ok (.sh (.str l)):=by
 unfold dA fT;have hm:=dF z (show 0<m by lia)
 have s1:bb (1+z % m)=true:=qu (by lia) (by lia)
 have p0:(0:Int)<m:=by lia
 obtain ⟨f,hf⟩:∃f:Nat->Nat,∀i:Nat,atI (Str.ofString "abcdefghijklmnopqrstuvwxyz").cps.toList (z / (9+4 * (0+(i:Int)) * (0+(i:Int))) % 26)=some (f i)/\(97<=f i/\f i<=122) :=
  ⟨λi=>Classical.choose (uk _ (dF (z / (9+4 * (0+(i:Int)) * (0+(i:Int)))) (show (0:Int)<26 by decide)).1 (dF _ (by decide)).2),λi=>Classical.choose_spec (uk _ (dF (z / (9+4 * (0+(i:Int)) * (0+(i:Int)))) (show (0:Int)<26 by decide)).1 (dF _ (by decide)).2)⟩
 push_cast only [p0,s1];generalize hL:bG _ _ _ _=r
 refine oJ hL (λi ρ=>∃(l:Str) (v:Option OD),ρ=[some (.sh (.int z)),some (.sh (.int m)),some (.sh (.str (Str.ofString "abcdefghijklmnopqrstuvwxyz"))),some (.sh (.str l)),v]/\l.length=i/\∀c∈l.cps.toList,97<=c/\c<=122) ⟨_,_,rfl,rfl,λc hc=>by cases hc⟩ ?_ ?_
 ·rintro i d ρ hd ⟨l,v,rfl,hl,hc⟩
  obtain ⟨hi,rfl⟩:=mq hd;have i9:(i:Int)<9:=by lia
  have ib:0<=4 * (0+(i:Int)) * (0+(i:Int))/\4 * (0+(i:Int)) * (0+(i:Int))<=4 * 8 * 8:=by
   have a1:0<=(0+(i:Int)):=by lia
   have a2:(0+(i:Int))<=8:=by lia
   refine ⟨Int.mul_nonneg (by lia) a1,?_⟩
   exact Int.mul_le_mul (by lia) a2 a1 (by lia)
  have ec:=(hf i).1;have c1:=(hf i).2.1;have c2:=(hf i).2.2;generalize f i=c at ec c1 c2
  have k1:iR (4 * (0+(i:Int))) (0+(i:Int))=true:=w4 (by lia) (by lia)
  have k2:(0<9+4 * (0+(i:Int)) * (0+(i:Int))/\9+4 * (0+(i:Int)) * (0+(i:Int))<1073741824)=True:=eq_true ⟨by lia,by lia⟩
  have k3:((Str.ofString "abcdefghijklmnopqrstuvwxyz").length<=BIG)=True:=by decide +kernel
  have k4:(l.length+(⟨#[c]⟩:Str).length<=BIG)=True:=aN (by rw [hl];show i+1<=1000;lia)
  push_cast only [k1,k2,k3,k4,ec,Option.map_some];refine ⟨_,_,rfl,by rw [tw,hl],λd hd=>?_⟩
  rw [lC,Zr]at hd;rcases hd with hd | hd
  ·exact hc d hd
  ·have:d=c:=by simpa using hd
   lia
 ·rintro ρ' rfl ⟨l,v,rfl,hl,hc⟩
  rw [pL]at hl;push_cast only [and_self];exact ⟨l,⟨by lia,by lia,hc⟩,rfl⟩
theorem qa (xs:List PyData) (k:Nat):cutD xs none (some (k:Int))=xs.take k:=by
 unfold cutD;rw [HT.uw,HT.wX,List.drop_zero,Nat.sub_zero];rcases Nat.le_total k xs.length with h | h
 ·rw [Nat.min_eq_left h]
 ·rw [Nat.min_eq_right h,List.take_of_length_le (Zm _),List.take_of_length_le h]
theorem mQ {way:List Int} {k:Nat} (h1:1<=k) (h2:k<=way.length):∃e,way[k-1]?=some e/\atI ((way.take k).map PyData.int) (-1)=some (.int e):=by
 have hk:k-1<way.length:=by lia
 refine ⟨way[k-1],by simp [hk],?_⟩
 have h:way.take (k-1+1)=way.take (k-1)++[way[k-1]]:=by
  rw [List.take_add_one];simp [hk]
 rw [show k-1+1=k by lia]at h
 rw [h,Zk];exact l5 _ _
theorem cP (ts:List Nd):(aW ts).length=ts.length:=by unfold aW;rw [Zc]
theorem jY (ts:List Nd) (n:Nd):aW (ts++[n])=aW ts++[.tuple [.int n.e,.str n.l,.int n.t]]:=by
 unfold aW;rw [Zk];rfl
theorem vV (ns:List Int) (st:Int) (many:Nat) (most deep:Int) (s0:0<=st) (s1:st<=1000) (n0:1<=many) (n1:many<=900) (m0:1<=most) (m1:most<=9) (d0:1<=deep) (d1:deep<=1000) :
  ∃ts way,Grown deep.toNat ts way/\ts.length=many/\fq [.list (ns.map PyData.int),.int st,.int many,.int most,.int deep]=.ok (.ol ((aW ts).map OD.sh)):=by
 unfold fq gE;have s62:bb (many:Int)=true:=qu (by lia) (by lia)
 push_cast only [s62];generalize hL:bG _ _ _ _=r
 refine oJ hL (λi ρ=>∃(ts:List Nd) (way:List Int) (v7 v8 v9:Option OD),ρ=[some (.sh (.list (ns.map PyData.int))),some (.sh (.int st)),some (.sh (.int many)),some (.sh (.int most)),some (.sh (.int deep)),some (.ol ((aW ts).map OD.sh)),some (.sh (.list (way.map PyData.int))),v7,v8,v9]/\ts.length=i/\way.length<=i/\((i=0/\ts=[]/\way=[])\/(0<i/\Grown deep.toNat ts way)))
  ⟨[],[],_,_,_,rfl,rfl,Zm _,.inl ⟨rfl,rfl,rfl⟩⟩ ?_ ?_
 ·rintro i d ρ hd ⟨ts,way,v7,v8,v9,rfl,hti,hwi,hg⟩
  obtain ⟨hi,rfl⟩:=mq hd;rw [Int.toNat_natCast]at hi;obtain ⟨y,hy⟩:=j4 ns (st+(0+(i:Int))) (by lia) (by lia)
  obtain ⟨l,hl,el⟩:=uJ (y * 69621 % 2147483629 / 64) most m0 m1;have hq:=dF (y * 69621 % 2147483629 / 4096) (show (0:Int)<9 by decide)
  have lb:((aW ts).length<BIG)=True:=by rw [cP];exact mw (by lia)
  by_cases h0:(0:Int)<0+(i:Int)
  ·have hg':Grown deep.toNat ts way:=by
    rcases hg with hg | hg
    ·lia
    ·exact hg.2
   have wp:=hg'.pos.2;have wl:(0:Int)<way.length:=by lia
   have hr:=dF (y * 69621 % 2147483629) wl;have fin:∀c:Nat,1<=c->c<=way.length->c<=deep.toNat->∀(e:Int),way[c-1]?=some e->Grown deep.toNat (ts++[⟨e,l,1+y * 69621 % 2147483629 / 4096 % 9⟩]) (way.take c++[(ts.length:Int)]):=λc c1 c2 c3 e he =>
    Grown.step hg' c1 c2 c3 ⟨hl,by show 1<=1+_;lia,by show 1+_<=9;lia⟩ he
   have lw:∀c:Nat,((way.take c).length+1<=BIG)=True:=λc=>aN (by rw [ZC];lia)
   by_cases h3:y * 69621 % 2147483629 / 16 % 3=0
   ·obtain ⟨c,hc⟩:∃c:Nat,(if deep<(way.length:Int) then deep else (way.length:Int))=(c:Int):=⟨(if deep<(way.length:Int) then deep else (way.length:Int)).toNat,by split <;> lia⟩
    obtain ⟨c1,c2,c3⟩:1<=c/\c<=way.length/\c<=deep.toNat:=by split at hc <;> lia
    obtain ⟨e,he,hat⟩:=mQ c1 c2;push_cast only [hy,el,wl,decide_eq_true h0,decide_eq_true h3,hc,qa,<-List.map_take,dw,hat,lb,lw];have t1:=jY ts ⟨e,l,1+y * 69621 % 2147483629 / 4096 % 9⟩;have t2:(aW ts).map OD.sh++[OD.sh (.tuple [.int e,.str l,.int (1+y * 69621 % 2147483629 / 4096 % 9)])]=(aW (ts++[⟨e,l,1+y * 69621 % 2147483629 / 4096 % 9⟩])).map OD.sh:=by rw [t1,Zk];rfl
    have w1:(way.take c).map PyData.int++[PyData.int (0+(i:Int))]=(way.take c++[(ts.length:Int)]).map PyData.int:=by rw [Zk,hti,Int.zero_add];rfl
    rw [t2,w1];exact ⟨_,_,_,_,_,rfl,by rw [Zd,hti];rfl,by rw [Zd,ZC,List.length_singleton];lia,.inr ⟨Nat.succ_pos _,fin c c1 c2 c3 e he⟩⟩
   ·obtain ⟨c,hc⟩:∃c:Nat,(if deep<1+y * 69621 % 2147483629 % (way.length:Int) then deep else 1+y * 69621 % 2147483629 % (way.length:Int))=(c:Int):=⟨(if deep<1+y * 69621 % 2147483629 % (way.length:Int) then deep else 1+y * 69621 % 2147483629 % (way.length:Int)).toNat,by split <;> lia⟩
    obtain ⟨c1,c2,c3⟩:1<=c/\c<=way.length/\c<=deep.toNat:=by split at hc <;> lia
    obtain ⟨e,he,hat⟩:=mQ c1 c2;push_cast only [hy,el,wl,decide_eq_true h0,decide_eq_false h3,hc,qa,<-List.map_take,dw,hat,lb,lw];have t1:=jY ts ⟨e,l,1+y * 69621 % 2147483629 / 4096 % 9⟩;have t2:(aW ts).map OD.sh++[OD.sh (.tuple [.int e,.str l,.int (1+y * 69621 % 2147483629 / 4096 % 9)])]=(aW (ts++[⟨e,l,1+y * 69621 % 2147483629 / 4096 % 9⟩])).map OD.sh:=by rw [t1,Zk];rfl
    have w1:(way.take c).map PyData.int++[PyData.int (0+(i:Int))]=(way.take c++[(ts.length:Int)]).map PyData.int:=by rw [Zk,hti,Int.zero_add];rfl
    rw [t2,w1];exact ⟨_,_,_,_,_,rfl,by rw [Zd,hti];rfl,by rw [Zd,ZC,List.length_singleton];lia,.inr ⟨Nat.succ_pos _,fin c c1 c2 c3 e he⟩⟩
  ·obtain ⟨i0,rfl,rfl⟩:i=0/\ts=[]/\way=[]:=by
    rcases hg with hg | hg
    ·exact hg
    ·lia
   push_cast only [hy,el,decide_eq_false h0,dw,lb];subst i0;exact ⟨[⟨-1,l,1+y * 69621 % 2147483629 / 4096 % 9⟩],[0],_,_,_,rfl,rfl,by decide,.inr ⟨Nat.succ_pos _,Grown.root ⟨hl,by show 1<=1+_;lia,by show 1+_<=9;lia⟩ rfl⟩⟩
 ·rintro ρ' rfl ⟨ts,way,v7,v8,v9,rfl,hti,hwi,hg⟩
  rw [pL,Int.toNat_natCast]at hti hg;rcases hg with hg | hg
  ·lia
  ·push_cast only [and_self]
   exact ⟨ts,way,hg.2,hti,rfl⟩
theorem iv {ts:List Nd} {k:Nat} {n:Nd} (h:ts[k]?=some n):atI (aW ts) (k:Int)=some (.tuple [.int n.e,.str n.l,.int n.t]):=hG (by unfold aW;rw [Za,h];rfl)
instance:Inhabited Nd:=⟨⟨0, "",0⟩⟩
noncomputable def eOf (ts:List Nd) (k:Nat):Int:=(ts[k]?.map (·.e)).getD 0
noncomputable def PT (ts:List Nd) (c:F):Prop:=F.Pf ts.length (eOf ts) c
theorem cT {ts:List Nd} {k:Nat} {n:Nd} (h:ts[k]?=some n):eOf ts k=n.e:=by unfold eOf;rw [h];rfl
theorem t7 {deep:Nat} {ns:List Nd} {way:List Int} (g:Grown deep ns way):∃c,PT ns c/\way=(0 :: F.path c).map (λk:Nat=>(k:Int)):=by
 induction g with
 |@root n h1 h2=>exact ⟨F.nil,⟨rfl,by rw [cT (n:=n) rfl];exact h2,trivial⟩,rfl⟩
 |@step ns way k n g h1 h2 h3 h4 h5 ih =>
  obtain ⟨c,p,hw⟩:=ih;subst hw;rw [Zc,Zq]at h2;have same:∀j,j<ns.length->eOf (ns++[n]) j=eOf ns j:=λj hj=>by
   unfold eOf;rw [List.getElem?_append_left hj]
  have new:eOf (ns++[n]) ns.length=n.e:=cT (by simp)
  have inR:∀j∈F.pre c,j<ns.length:=λj m=>by
   have:j∈0 :: F.pre c:=Ze _ m;rw [p.pre,ZF]at this;exact this
  have he:F.Eld (eOf (ns++[n])) 0 c:=F.kz 0 c (λj m=>same j (inR j m)) p.eld
  obtain ⟨q1,q2,q3⟩:=F.lL (x:=ns.length) c (k-1) 0 (by lia) he (by
   rw [new];rw [Za]at h5;by_cases k1:k=1
   ·subst k1
    have:=Zx h5;rw [if_pos rfl];exact this.symm
   ·obtain ⟨m,rfl⟩:∃m,k=m+2:=⟨k-2,by lia⟩
    rw [if_neg (by lia)]
    have e:(0 :: F.path c)[m+2-1]?=(F.path c)[m+2-1-1]?:=rfl;rw [e]at h5;obtain ⟨v,hv,hv2⟩:=Zo.mp h5;rw [hv,<-hv2];rfl)
  refine ⟨F.iP c (k-1) ns.length,⟨?_,?_,q3⟩,?_⟩
  ·rw [q1,<-List.cons_append,p.pre,Zd,Zq,List.length_nil,List.range_succ]
  ·rw [same 0 p.pos]
   exact p.root
  ·rw [q2]
   obtain ⟨m,rfl⟩:∃m,k=m+1:=⟨k-1,by lia⟩
   rw [Zj,Zj,List.take_succ_cons,Zk,Nat.add_sub_cancel,List.map_take];rfl
noncomputable def eY (ts:List Nd) (k:Nat):Nd:=ts[k]?.getD default
theorem zx {ts:List Nd} {k:Nat} (h:k<ts.length):(eY ts k).e=eOf ts k:=by
 unfold eY eOf;rw [Zg h];rfl
section
variable {ts:List Nd} {c:F}
end
namespace F
theorem oS {e:Nat->Int} {ch:Nat->List Nat}:∀(f:F) (a m:Nat) (p:Int),F.pre f=List.range' a m->Eld e p f->Con ch f->p<(a:Int)->∀j,a<=j->j<a+m ->
  ∃cj s,F.pre cj=List.range' (j+1) s/\Eld e (j:Int) cj/\j+1+s<=a+m/\(j+1+s<a+m->e (j+1+s)<(j:Int))/\Con ch cj/\ch j=roots cj
 |nil,a,m,p,hp,_,_,_,j,h1,h2=>by
  have:=congrArg List.length hp;rw [F.pre,List.length_nil,List.length_range']at this
  lia
 |cons k c r,a,m,p,hp,he,hcon,hpa,j,h1,h2=>by
  obtain ⟨e1,e2,e3⟩:=he;obtain ⟨o1,o2,o3⟩:=hcon;obtain ⟨m',rfl⟩:∃m',m=m'+1:=⟨m-1,by lia⟩
  rw [F.pre,List.range'_succ]at hp;obtain ⟨hk,hrest⟩:=List.cons.inj hp;subst hk;have hl:=congrArg List.length hrest;rw [Zd,List.length_range']at hl;have hm:m'=(F.pre c).length+(F.pre r).length:=by lia
  rw [hm,<-List.range'_append_1]at hrest;obtain ⟨hc,hr⟩:=List.append_inj hrest (by rw [List.length_range'])
  have first:(F.pre r).length≠0->e (k+1+(F.pre c).length)=p:=λhne=>by
   cases r with
   |nil=>exact absurd rfl hne
   |cons b1 b2 b3 =>
    have hb:b1=k+1+(F.pre c).length:=by
     have:=congrArg (λl=>l[0]?) hr
     rw [F.pre]at this;rw [Zq,List.range'_succ]at this;exact Zx this
    rw [<-hb];exact e3.1
  by_cases hj:j=k
  ·subst hj
   refine ⟨c,(F.pre c).length,hc,e2,by lia,λh=>?_,o2,o1⟩
   rw [first (by lia)]
   lia
  ·by_cases hj2:j<k+1+(F.pre c).length
   ·obtain ⟨cj,s,q1,q2,q3,q4,q5,q6⟩:=oS c (k+1) (F.pre c).length (k:Int) hc e2 o2 (by lia) j (by lia) hj2
    refine ⟨cj,s,q1,q2,by lia,λh=>?_,q5,q6⟩
    by_cases hs:j+1+s<k+1+(F.pre c).length
    ·exact q4 hs
    ·have:j+1+s=k+1+(F.pre c).length:=by lia
     rw [this,first (by lia)]
     lia
   ·obtain ⟨cj,s,q1,q2,q3,q4,q5,q6⟩:=oS r (k+1+(F.pre c).length) (F.pre r).length p hr e3 o3 (by lia) j (by lia) (by lia)
    exact ⟨cj,s,q1,q2,by lia,λh=>q4 (by lia),q5,q6⟩
end F
noncomputable def ft:Fs:=(aI (aY 1 (fM aF))
 (aI (jM (pI (af 0)) (gNm 2) (ju 1 (eSh (k7 (eIf (aB (eOp gEq (eOp gIx (af 2) (eC (.int 0))) (eUn jv (eC (.int 1))))) (eC (.int 0)) (eOp aO (eOp gIx (af 1) (eOp gIx (af 2) (eC (.int 0)))) (eC (.int 1))))))))
 (kl 1)))
noncomputable def cq:Fn:=bx 1 3 ft
noncomputable def EL (ts:List Nd):Prop:=∀(k:Nat) (n:Nd),ts[k]?=some n->(k=0->n.e=-1)/\(0<k->0<=n.e)/\n.e<k
noncomputable def dY (acc:List Nat) (n:Nd):Nat:=if n.e=-1 then 0 else (acc[n.e.toNat]?).getD 0+1
noncomputable def lvs (ts:List Nd):List Nat:=ts.foldl (λacc n=>acc++[dY acc n]) []
theorem ik (ts:List Nd) (n:Nd):lvs (ts++[n])=lvs ts++[dY (lvs ts) n]:=by
 unfold lvs;rw [List.foldl_append];rfl
theorem snoc_ind {α:Type} {P:List α->Prop} (h0:P []) (hs:∀xs x,P xs->P (xs++[x])) (xs:List α):P xs:=by
 have:∀ys:List α,P ys.reverse:=by
  intro ys
  induction ys with
  |nil=>exact h0
  |cons y ys ih=>rw [List.reverse_cons];exact hs _ _ ih
 have h:=this xs.reverse
 rwa [List.reverse_reverse]at h
theorem eZ:∀ts:List Nd,(lvs ts).length=ts.length:=by
 intro ts;refine snoc_ind (P:=λts=>(lvs ts).length=ts.length) rfl (λts n ih=>?_) ts
 rw [ik,Zd,Zd,ih];rfl
theorem take_snoc {α:Type} {xs:List α} {i:Nat} {x:α} (h:xs[i]?=some x):xs.take (i+1)=xs.take i++[x]:=by rw [List.take_add_one,h];rfl
theorem lF (ts:List Nd):∀i:Nat,(lvs ts).take i=lvs (ts.take i):=by
 refine snoc_ind (P:=λts=>∀i:Nat,(lvs ts).take i=lvs (ts.take i)) (λi=>by simp [lvs]) (λts n ih=>?_) ts
 ·intro i
  rcases Nat.le_total i ts.length with h | h
  ·rw [ik,List.take_append_of_le_length (by rw [eZ];exact h),List.take_append_of_le_length h,ih]
  ·by_cases h2:i=ts.length
   ·subst h2
    rw [ik,List.take_append_of_le_length (by rw [eZ];exact Zm _),List.take_append_of_le_length (Zm _),ih]
   ·rw [List.take_of_length_le (by rw [eZ,Zd];simp;lia),List.take_of_length_le (by rw [Zd];simp;lia)]
theorem oF {ts:List Nd} {i:Nat} {n:Nd} (h:ts[i]?=some n):(lvs ts)[i]?=some (dY (lvs (ts.take i)) n):=by
 have hi:=(Zb.mp h).1;have e:=lF ts (i+1);rw [take_snoc h,ik]at e;have:((lvs ts).take (i+1))[i]?=some (dY (lvs (ts.take i)) n):=by
  rw [e,List.getElem?_append_right (by rw [eZ,ZC];lia),eZ,ZC,Nat.min_eq_left (by lia),Nat.sub_self]
  rfl
 rw [List.getElem?_take_of_lt (by lia)]at this
 exact this
noncomputable def k8 (ks:List Nat):List PyData:=ks.map λk:Nat=>PyData.int (k:Int)
theorem uK (ks:List Nat):(k8 ks).length=ks.length:=by unfold k8;rw [Zc]
theorem xv {ks:List Nat} {k v:Nat} (h:ks[k]?=some v):atI (k8 ks) (k:Int)=some (.int v):=hG (by unfold k8;rw [Za,h];rfl)
theorem mO (ks:List Nat) (k:Nat):(k8 ks).map OD.sh++[OD.sh (.int (k:Int))]=(k8 (ks++[k])).map OD.sh:=by
 unfold k8;rw [Zk,Zk];rfl
theorem lI (ts:List Nd) (he:EL ts) (hl:ts.length<=100):cq [.list (aW ts)]=.ok (.ol ((k8 (lvs ts)).map OD.sh)):=by
 unfold cq ft;push_cast only [and_self];generalize hL:bG _ _ _ _=r'
 refine oJ hL (λi ρ=>∃v2:Option OD,ρ=[some (.sh (.list (aW ts))),some (.ol ((k8 (lvs (ts.take i))).map OD.sh)),v2]) ⟨_,rfl⟩ ?_ ?_
 ·rintro i d ρ hd ⟨v2,rfl⟩
  unfold aW at hd;rw [Za]at hd;obtain ⟨n,hn,rfl⟩:=Zo.mp hd;have hi:=(Zb.mp hn).1;have lb:((k8 (lvs (ts.take i))).length<BIG)=True:=by rw [uK,eZ,ZC];exact mw (by lia)
  have e0:(lvs (ts.take (i+1)))=lvs (ts.take i)++[dY (lvs (ts.take i)) n]:=by rw [take_snoc hn,ik]
  have el:=he i n hn;by_cases h1:n.e=-1
  ·have e1:dY (lvs (ts.take i)) n=0:=by unfold dY;rw [if_pos h1]
   rw [e1]at e0;have sn:=mO (lvs (ts.take i)) 0;rw [<-e0,Int.natCast_zero]at sn;push_cast only [ndD,decide_eq_true h1,lb,dw,sn];exact ⟨_,rfl⟩
  ·have h0:0<i:=by
    rcases Nat.eq_zero_or_pos i with h | h
    ·exact absurd (el.1 h) h1
    ·exact h
   obtain ⟨k,hk⟩:∃k:Nat,n.e=(k:Int):=⟨n.e.toNat,by have:=el.2.1 h0;lia⟩
   have hki:k<i:=by have:=el.2.2;lia
   obtain ⟨v,hv⟩:∃v,(lvs (ts.take i))[k]?=some v:=⟨(lvs (ts.take i))[k]'(by rw [eZ,ZC];lia),by simp⟩
   have e1:dY (lvs (ts.take i)) n=v+1:=by unfold dY;rw [if_neg h1,hk,Int.toNat_natCast,hv];rfl
   rw [e1]at e0;have sn:=mO (lvs (ts.take i)) (v+1);rw [<-e0,Int.natCast_add,Int.natCast_one]at sn;have ga:=xv hv;have h1':¬((k:Int)=-1):=by lia
   push_cast only [ndD,hk,decide_eq_false h1',lb,dw,ga,sn];exact ⟨_,rfl⟩
 ·rintro ρ' rfl ⟨v2,rfl⟩
  push_cast only [and_self];rw [cP,List.take_of_length_le (Zm _)]
structure NumOk (L:List Nat) (i:Nat) (nums:List (List Nat)):Prop where
 row:∀(j:Nat) (r:List Nat),nums[j]?=some r->r≠[]/\r.Pairwise (·<·)/\∀k,k∈r ↔ k<i/\L[k]?=some j
 lt:∀(k v:Nat),k<i->L[k]?=some v->v<nums.length
 sum:(nums.map List.length).sum=i
theorem rA {a:PyData} {as:List PyData} {n:Nat} (h:lay n (.list (a :: as))) (hn:n<=64):gEq (.list (a :: as)) (.list [])=.ok (.sh (.bool false)):=by
 have h2:lay 1 (.list []):=kn (n:=0) λx hx=>by cases hx
 unfold gEq;rw [o7];unfold jK;rw [iH h hn,iH h2 (by decide),Bool.and_self,if_pos rfl]
 have:PyData.eqv (.list (a :: as)) (.list [])=false:=by unfold PyData.eqv PyData.eqvAll;rfl
 rw [this];rfl
noncomputable def iL (rs:List Nat):List Int:=rs.map λk:Nat=>(k:Int)
noncomputable def chN (ts:List Nd) (q:Nat):List Nat:=(List.range ts.length).filter (λj=>decide (eOf ts j=(q:Int)))
noncomputable def inB (j:Nat) (n:Nd):Bool:=decide ((j:Int)<=n.e)
noncomputable def md (j:Nat) (n:Nd):Nd:=⟨n.e-j,n.l,n.t⟩
noncomputable def fB (ts:List Nd) (j:Nat):List Nd:=match ts[j]? with
 |some r=>⟨-1,r.l,r.t⟩ :: ((ts.drop (j+1)).takeWhile (inB j)).map (md j)
 |none=>[]
theorem tP {α:Type} (p:α->Bool):∀(L:List α) (s:Nat),s<=L.length->(∀k,k<s->∀x,L[k]?=some x->p x=true)->(∀x,L[s]?=some x->p x=false)->(L.takeWhile p).length=s
 |[],s,h,_,_=>by simp at h;subst h;rfl
 |a :: L,0,_,_,h=>by
  have:=h a rfl;rw [List.takeWhile_cons,this];rfl
 |a :: L,s+1,h,h1,h2=>by
  have:=h1 0 (by lia) a rfl
  rw [List.takeWhile_cons,this,if_pos rfl,Zq,tP p L s (by simp at h;lia) (λk hk x hx=>h1 (k+1) (by lia) x hx) (λx hx=>h2 x hx)]
namespace F
theorem qg {e:Nat->Int}:∀(f:F) (a m:Nat) (p:Int),F.pre f=List.range' a m->Eld e p f->p<(a:Int)->∀k∈F.pre f,e k<(k:Int)
 |nil,a,m,p,hp,_,_,j,h1=>by cases h1
 |cons k c r,a,m,p,hp,he,hpa,j,hj=>by
  obtain ⟨e1,e2,e3⟩:=he;obtain ⟨m',rfl⟩:∃m',m=m'+1:=⟨m-1,by
   have:=congrArg List.length hp;rw [F.pre,Zq,List.length_range']at this
   lia⟩
  rw [F.pre,List.range'_succ]at hp;obtain ⟨hk,hrest⟩:=List.cons.inj hp;subst hk;have hl:=congrArg List.length hrest;rw [Zd,List.length_range']at hl;have hm:m'=(F.pre c).length+(F.pre r).length:=by lia
  rw [hm,<-List.range'_append_1]at hrest;obtain ⟨hc,hr⟩:=List.append_inj hrest (by rw [List.length_range'])
  rw [F.pre]at hj;rcases Zn.mp hj with rfl | hj
  ·lia
  ·rcases Zr.mp hj with hj | hj
   ·exact qg c (k+1) _ (k:Int) hc e2 (by lia) j hj
   ·exact qg r (k+1+(F.pre c).length) _ p hr e3 (by lia) j hj
end F
theorem E6 {ts:List Nd} {c:F} (p:PT ts c) {k:Nat} (hk:k<ts.length):eOf ts k<(k:Int):=by
 refine F.qg (F.full c) 0 ts.length (-1) (by rw [p.preF,List.range_eq_range']) p.eldF (by decide) k ?_
 rw [p.preF,ZF];exact hk
theorem ka {ts:List Nd} {c:F} (p:PT ts c):EL ts:=by
 intro k n hn;have hk:=(Zb.mp hn).1;have lt:=E6 p hk;rw [cT hn]at lt;have rt:=p.eldF.1;refine ⟨λz=>?_,λz=>?_,lt⟩
 ·subst z
  rw [cT hn]at rt;exact rt
 ·have pc:F.pre (F.full c)=List.range ts.length:=p.preF
  have:F.pre c=List.range' 1 (ts.length-1):=by
   unfold F.full at pc;rw [F.pre,List.range_eq_range',show ts.length=ts.length-1+1 by lia,List.range'_succ]at pc
   have:=(List.cons.inj pc).2;rw [F.pre,Zw]at this;exact this
  have ge:=F.vz c 0 p.eldF.2.1 (λk m=>by rw [this,List.mem_range'_1]at m;lia) k (by rw [this,List.mem_range'_1];lia)
  rw [cT hn]at ge;exact ge
theorem iN {ts:List Nd} {k:Nat} (h:k<ts.length):ts[k]?=some (eY ts k):=by
 unfold eY;rw [Zg h];rfl
noncomputable def eG:Fs:=(aI (aY 3 (af 1))
 (aI (cM (jC (aB (eOp gNe (af 3) (eUn jv (eC (.int 1))))) (aB (eOp gNe (af 3) (af 2)))) (aY 3 (eOp gIx (eOp gIx (af 0) (af 3)) (eC (.int 0)))))
 (ba (eOp gNe (af 3) (eUn jv (eC (.int 1)))))))
noncomputable def bZ:Fn:=bx 3 4 eG
noncomputable def g5:Fs:=(ba (pT (eCh (eC (.int 1)) (eB cg (aj (af 0) aF)) (eC (.int 9))) (eB vL (aj (gc (iTx (af 0)) (gNm 0) o9 (eOp gIn (af 0) (eC (.str "abcdefghijklmnopqrstuvwxyz"))) 1 []) aF))))
noncomputable def bR:Fn:=bx 1 1 g5
noncomputable def ie:Fs:=(sIf (f_ (aB (eOp gLt (af 0) (eC (.int 1)))) (aB (eOp gGt (af 0) (eC (.int 9))))) kH sNx)
noncomputable def fP:Fn:=bx 1 1 ie
noncomputable def fU:Fs:=(sIf (f_ (aB (eOp gLt (af 0) (eC (.int 1)))) (aB (eOp gGt (af 0) (eC (.int 9))))) (fK "NoTree") sNx)
noncomputable def dB:Fn:=bx 1 1 fU
noncomputable def g9:Fs:=(aI (aY 2 (af 1))
 (aI (cM (jC (aB (eOp gLt (af 2) (eB cg (aj (af 0) aF)))) (aB (eOp pE (eOp gIx (af 0) (af 2)) (eC (.str "(),"))))) (si 2 rD (eC (.int 1))))
 (ba (af 2))))
noncomputable def dJ:Fn:=bx 2 3 g9
noncomputable def gL:Fs:=(sIf (aB (eOp gGt (af 0) (eC (.int 100)))) kH sNx)
noncomputable def fu:Fn:=bx 1 1 gL
noncomputable def e9:Fs:=(sIf (aB (eOp gGt (af 0) (eC (.int 100)))) (fK "NoText") sNx)
noncomputable def cQ:Fn:=bx 1 1 e9
noncomputable def bz:Ft:=(wL (jC (aB (eOp gEq (eSl gb (af 0) (bM (af 1)) (bM (eOp aO (af 1) (eC (.int 1))))) (eC (.str ")")))) (aB (eOp gGt (eB cg (aj (af 2) aF)) (eC (.int 1))))))
noncomputable def bL:Fm:=shF bz
noncomputable def jO:Fs:=(aI (sIf (jC (aB (eOp gGt (af 2) (eC (.int 0)))) (aB (eOp gEq (eSl gb (af 0) (bM (af 1)) (bM (eOp aO (af 1) (eC (.int 1))))) (eC (.str ","))))) (ba (eC (.bool true))) sNx)
 (aI (sIf (f_ (aB (eOp gGt (af 2) (eC (.int 0)))) (aB (eOp gLt (af 1) (eB cg (aj (af 0) aF))))) kH sNx)
 (ba (eC (.bool false)))))
noncomputable def iz:Fn:=bx 3 3 jO
noncomputable def iA:Fs:=(aI (sIf (jC (aB (eOp gGt (af 2) (eC (.int 0)))) (aB (eOp gEq (eSl gb (af 0) (bM (af 1)) (bM (eOp aO (af 1) (eC (.int 1))))) (eC (.str ","))))) (ba (eC (.bool true))) sNx)
 (aI (sIf (f_ (aB (eOp gGt (af 2) (eC (.int 0)))) (aB (eOp gLt (af 1) (eB cg (aj (af 0) aF))))) (fK "NoText") sNx)
 (ba (eC (.bool false)))))
noncomputable def fF:Fn:=bx 3 3 iA
noncomputable def gB:Fs:=(aI (aY 1 (eC (.str " !\"#$&'()*+,-./0123456789:;<=>?@ABCDEFGHIJKLMNOPQRSTUVWXYZ[\\]^_`")))
 (aI (aY 1 (eOp aO (af 1) (eC (.str "abcdefghijklmnopqrstuvwxyz{|}~"))))
 (aI (sIf (aB (eOp gGt (eOp dM (af 0) (eC (.int 3))) (eC (.int 0)))) (ba (eOp gIx (eC (.str "()(),,**az0129")) (eOp dM (eOp gG (af 0) (eC (.int 3))) (eC (.int 14))))) sNx)
 (ba (eOp gIx (af 1) (eOp dM (eOp gG (af 0) (eC (.int 3))) (eC (.int 94))))))))
noncomputable def fC:Fn:=bx 1 2 gB
noncomputable def gm:Fs:=(aI (aY 1 (eOp aO (eC (.int 8)) (eOp dM (af 0) (eC (.int 4)))))
 (aI (sIf (aB (eOp gEq (eOp dM (eOp gG (af 0) (eC (.int 4))) (eC (.int 2))) (eC (.int 1)))) (aY 1 (eOp aO (eC (.int 99)) (eOp dM (eOp gG (af 0) (eC (.int 8))) (eC (.int 4))))) sNx)
 (ba (eOp aO (eOp aO (eOp jE (eC (.str "ab(")) (af 1)) (eC (.str "c"))) (eOp jE (eC (.str ")")) (af 1))))))
noncomputable def d9:Fn:=bx 1 2 gm
noncomputable def gv:Fs:=(aI (sIf (aB (eOp gEq (eOp dM (af 0) (eC (.int 2))) (eC (.int 0)))) (ba (eOp aO (eOp aO (eC (.str "ab(")) (eJn (eC (.str ",")) (eOp jH (fM (aj (eC (.str "c")) aF)) (eOp aO (eC (.int 38)) (eOp dM (eOp gG (af 0) (eC (.int 2))) (eC (.int 5))))))) (eC (.str ")")))) sNx)
 (ba (eOp aO (eOp aO (eOp aO (eC (.str "ab(")) (eOp jE (eC (.str "abcdefghi,")) (eC (.int 59)))) (eOp jE (eC (.str "z")) (eOp aO (eC (.int 5)) (eOp dM (eOp gG (af 0) (eC (.int 2))) (eC (.int 4)))))) (eC (.str ")")))))
noncomputable def d5:Fn:=bx 1 1 gv
noncomputable def g7:Fs:=(aI (aY 1 (eSh (fM (aj (eC (.str "")) (aj (eC (.str "a()")) (aj (eC (.str "a(b")) (aj (eC (.str "a)b(")) (aj (eC (.str "a*1")) (aj (eC (.str "a*10")) (aj (eC (.str "a*02")) (aj (eC (.str "(a)")) (aj (eC (.str "a(b)(c)")) (aj (eC (.str "a(b,)")) (aj (eC (.str "a,b")) (aj (eC (.str "abcdefghij")) aF)))))))))))))))
 (ba (eOp gIx (af 1) (eOp dM (af 0) (eC (.int 12))))))
noncomputable def eU:Fn:=bx 1 2 g7
noncomputable def eF:Fs:=(aI (so (mV (af 0) (eC (.str "*"))) (gTp 3 (ic (gNm 1) (ic (gNm 2) (ic (gNm 3) nA)))))
 (aI (sIf (f_ (aB (eOp gLt (eB cg (aj (af 1) aF)) (eC (.int 1)))) (f_ (aB (eOp gGt (eB cg (aj (af 1) aF)) (eC (.int 9)))) (jC (aB (eOp gEq (af 2) (eC (.str "*")))) (aB (eOp gNe (eB cg (aj (af 3) aF)) (eC (.int 1))))))) (ba (eC (.bool false))) sNx)
 (aI (jM (iTx (af 1)) (gNm 4) (sIf (aB (eOp pE (af 4) (eC (.str "abcdefghijklmnopqrstuvwxyz")))) (ba (eC (.bool false))) sNx))
 (ba (eOr (eOp gEq (af 2) (eC (.str ""))) (eOp gIn (af 3) (eC (.str "23456789"))))))))
noncomputable def bK:Fn:=bx 1 5 eF
noncomputable def fO:Fs:=(aI (aY 1 (eC (.int 0)))
 (aI (aY 2 (eC (.int 0)))
 (aI (jM (iTx (af 0)) (gNm 3) (aI (aY 2 (eOp g4 (eOp aO (af 2) (eB sC (aj (eOp gEq (af 3) (eC (.str "("))) aF))) (eB sC (aj (eOp gEq (af 3) (eC (.str ")"))) aF))))
 (aY 1 (eB pJ (aj (af 1) (aj (af 2) aF))))))
 (ba (af 1)))))
noncomputable def cK:Fn:=bx 1 4 fO
noncomputable def gJ:Fs:=(aI (aY 2 (eOp gIx (eOp gIx (af 0) (af 1)) (eC (.int 0))))
 (sIf (aB (eOp gEq (af 1) (eC (.int 0)))) (sIf (aB (eOp gNe (af 2) (eUn jv (eC (.int 1))))) kH sNx) (sIf (ej (aB (aR bZ (aj (af 0) (aj (eOp g4 (af 1) (eC (.int 1))) (aj (af 2) aF)))))) kH sNx)))
noncomputable def fw:Fn:=bx 2 3 gJ
noncomputable def fE:Fs:=(aI (aY 2 (eOp gIx (eOp gIx (af 0) (af 1)) (eC (.int 0))))
 (sIf (aB (eOp gEq (af 1) (eC (.int 0)))) (sIf (aB (eOp gNe (af 2) (eUn jv (eC (.int 1))))) (fK "NoTree") sNx) (sIf (ej (aB (aR bZ (aj (af 0) (aj (eOp g4 (af 1) (eC (.int 1))) (aj (af 2) aF)))))) (fK "NoTree") sNx)))
noncomputable def cS:Fn:=bx 2 3 fE
noncomputable def gT:Fs:=(sIf (ej (aB (aR bR (aj (af 0) aF)))) kH sNx)
noncomputable def fj:Fn:=bx 1 1 gT
noncomputable def e_:Fs:=(sIf (ej (aB (aR bR (aj (af 0) aF)))) (fK "NoTree") sNx)
noncomputable def cU:Fn:=bx 1 1 e_
noncomputable def iI:Fs:=(aI (aY 2 (mV (af 1) (eC (.str "*"))))
 (aI (sIf (ej (aB (aR bR (aj (eOp gIx (af 2) (eC (.int 0))) aF)))) kH sNx)
 (aI (sIf (aB (eOp gEq (eOp gIx (af 2) (eC (.int 1))) (eC (.str "")))) (ba (j9 (aj (af 0) (aj (eOp gIx (af 2) (eC (.int 0))) (aj (eC (.int 1)) aF))))) sNx)
 (aI (sIf (f_ (aB (eOp gNe (eB cg (aj (eOp gIx (af 2) (eC (.int 2))) aF)) (eC (.int 1)))) (aB (eOp pE (eOp gIx (af 2) (eC (.int 2))) (eC (.str "23456789"))))) kH sNx)
 (ba (j9 (aj (af 0) (aj (eOp gIx (af 2) (eC (.int 0))) (aj (eB m8 (aj (eOp gIx (af 2) (eC (.int 2))) aF)) aF)))))))))
noncomputable def gA:Fn:=bx 2 3 iI
noncomputable def gj:Fs:=(aI (aY 2 (mV (af 1) (eC (.str "*"))))
 (aI (sIf (ej (aB (aR bR (aj (eOp gIx (af 2) (eC (.int 0))) aF)))) (fK "NoText") sNx)
 (aI (sIf (aB (eOp gEq (eOp gIx (af 2) (eC (.int 1))) (eC (.str "")))) (ba (j9 (aj (af 0) (aj (eOp gIx (af 2) (eC (.int 0))) (aj (eC (.int 1)) aF))))) sNx)
 (aI (sIf (f_ (aB (eOp gNe (eB cg (aj (eOp gIx (af 2) (eC (.int 2))) aF)) (eC (.int 1)))) (aB (eOp pE (eOp gIx (af 2) (eC (.int 2))) (eC (.str "23456789"))))) (fK "NoText") sNx)
 (ba (j9 (aj (af 0) (aj (eOp gIx (af 2) (eC (.int 0))) (aj (eB m8 (aj (eOp gIx (af 2) (eC (.int 2))) aF)) aF)))))))))
noncomputable def da:Fn:=bx 2 3 gj
noncomputable def eI:Fs:=(aI (aY 2 (eOp dM (eOp jH (af 1) (eC (.int 69621))) (eC (.int 2147483629))))
 (aI (aY 3 (eSh (aR fC (aj (eOp gG (af 2) (eC (.int 4096))) aF))))
 (aI (aY 4 (eOp dM (eOp gG (af 2) (eC (.int 3))) (eOp aO (eB cg (aj (af 0) aF)) (eC (.int 1)))))
 (aI (sIf (aB (eOp gEq (eOp dM (af 2) (eC (.int 3))) (eC (.int 0)))) (ba (eOp aO (eOp aO (eSl gb (af 0) fX (bM (af 4))) (af 3)) (eSl gb (af 0) (bM (af 4)) fX))) sNx)
 (aI (sIf (aB (eOp gEq (eOp dM (af 2) (eC (.int 3))) (eC (.int 1)))) (ba (eOp aO (eSl gb (af 0) fX (bM (af 4))) (eSl gb (af 0) (bM (eOp aO (af 4) (eC (.int 1)))) fX))) sNx)
 (ba (eOp aO (eOp aO (eSl gb (af 0) fX (bM (af 4))) (af 3)) (eSl gb (af 0) (bM (eOp aO (af 4) (eC (.int 1)))) fX))))))))
noncomputable def cz:Fn:=bx 2 5 eI
noncomputable def eD:Fs:=(aI (sIf (aB (eOp gEq (eSl gb (af 0) (bM (eUn jv (eC (.int 1)))) fX) (eC (.str "!")))) (ba (aR bK (aj (eSl gb (af 0) fX (bM (eUn jv (eC (.int 1))))) aF))) sNx)
 (ba (aR bK (aj (af 0) aF))))
noncomputable def bY:Fn:=bx 1 1 eD
noncomputable def fN:Fs:=(aI (sIf (f_ (ej (aB (mM "list" (af 0)))) (aB (eOp gEq (af 0) (fM aF)))) (ba (eC (.bool false))) sNx)
 (aI (jM (iR1 (eB cg (aj (af 0) aF))) (gNm 1) (aI (aY 2 (eOp gIx (af 0) (af 1)))
 (aI (sIf (f_ (ej (aB (mM "tuple" (af 2)))) (f_ (aB (eOp gNe (eB cg (aj (af 2) aF)) (eC (.int 3)))) (f_ (ej (aB (aR cL (aj (eOp gIx (af 2) (eC (.int 0))) aF)))) (ej (aB (mM "str" (eOp gIx (af 2) (eC (.int 1))))))))) (ba (eC (.bool false))) sNx)
 (aI (sIf (f_ (ej (aB (aR cL (aj (eOp gIx (af 2) (eC (.int 2))) aF)))) (f_ (aB (eOp gGe (eOp gIx (af 2) (eC (.int 0))) (af 1))) (aB (eOp gLt (eOp gIx (af 2) (eC (.int 0))) (eOp g4 (eB pf (aj (af 1) (aj (eC (.int 1)) aF))) (eC (.int 1))))))) (ba (eC (.bool false))) sNx)
 (aI (aY 3 (eOp g4 (af 1) (eC (.int 1))))
 (aI (cM (aB (eOp gGt (af 3) (eOp gIx (af 2) (eC (.int 0))))) (aY 3 (eOp gIx (eOp gIx (af 0) (af 3)) (eC (.int 0)))))
 (sIf (aB (eOp gNe (af 3) (eOp gIx (af 2) (eC (.int 0))))) (ba (eC (.bool false))) sNx)))))))
 (ba (eC (.bool true)))))
noncomputable def ez:Fn:=bx 1 4 fN
noncomputable def iE:Fs:=(aI (sIf (f_ (aB (eOp gLt (eB cg (aj (af 0) aF)) (eC (.int 1)))) (aB (eOp gGt (eB cg (aj (af 0) aF)) (eC (.int 40))))) kH sNx)
 (aI (jM (iEn (af 0)) (gTp 2 (ic (gNm 1) (ic (gNm 2) nA))) (aI (i7 (aR fw (aj (af 0) (aj (af 1) aF))))
 (aI (i7 (aR fj (aj (eOp gIx (af 2) (eC (.int 1))) aF)))
 (i7 (aR fP (aj (eOp gIx (af 2) (eC (.int 2))) aF))))))
 (aI (sIf (aB (eOp gGt (eB nF (aj (aR cq (aj (af 0) aF)) aF)) (eC (.int 8)))) kH sNx)
 (ba (eB ke (aj (af 0) aF))))))
noncomputable def gw:Fn:=bx 1 3 iE
noncomputable def gk:Fs:=(aI (sIf (f_ (aB (eOp gLt (eB cg (aj (af 0) aF)) (eC (.int 1)))) (aB (eOp gGt (eB cg (aj (af 0) aF)) (eC (.int 40))))) (fK "NoTree") sNx)
 (aI (jM (iEn (af 0)) (gTp 2 (ic (gNm 1) (ic (gNm 2) nA))) (aI (i7 (aR cS (aj (af 0) (aj (af 1) aF))))
 (aI (i7 (aR cU (aj (eOp gIx (af 2) (eC (.int 1))) aF)))
 (i7 (aR dB (aj (eOp gIx (af 2) (eC (.int 2))) aF))))))
 (aI (sIf (aB (eOp gGt (eB nF (aj (aR cq (aj (af 0) aF)) aF)) (eC (.int 8)))) (fK "NoTree") sNx)
 (ba (eB ke (aj (af 0) aF))))))
noncomputable def bI:Fn:=bx 1 3 gk
noncomputable def iJ:Fs:=(aI (aY 1 (fM aF))
 (aI (aY 2 (fM (aj (eUn jv (eC (.int 1))) aF)))
 (aI (aY 3 (eC (.int 0)))
 (aI (aY 4 (eC (.bool true)))
 (aI (cM (aB (af 4)) (aI (aY 5 (eSh (aR dJ (aj (af 0) (aj (af 3) aF)))))
 (aI (ju 1 (eSh (aR gA (aj (k7 (eOp gIx (af 2) (eUn jv (eC (.int 1))))) (aj (eSl gb (af 0) (bM (af 3)) (bM (af 5))) aF)))))
 (aI (sIf (aB (eOp gEq (eSl gb (af 0) (bM (af 5)) (bM (eOp aO (af 5) (eC (.int 1))))) (eC (.str "(")))) (aI (ju 2 (k7 (eOp g4 (eB cg (aj (af 1) aF)) (eC (.int 1)))))
 (i7 (aR fu (aj (k7 (eOp g4 (eB cg (aj (af 2) aF)) (eC (.int 1)))) aF)))) (aI (sI 5 0 5 2 bL)
 (aY 4 (eSh (aR iz (aj (af 0) (aj (af 5) (aj (k7 (eOp g4 (eB cg (aj (af 2) aF)) (eC (.int 1)))) aF))))))))
 (aY 3 (eOp aO (af 5) (eC (.int 1))))))))
 (kl 1))))))
noncomputable def gz:Fn:=bx 1 6 iJ
noncomputable def gD:Fs:=(aI (aY 1 (fM aF))
 (aI (aY 2 (fM (aj (eUn jv (eC (.int 1))) aF)))
 (aI (aY 3 (eC (.int 0)))
 (aI (aY 4 (eC (.bool true)))
 (aI (cM (aB (af 4)) (aI (aY 5 (eSh (aR dJ (aj (af 0) (aj (af 3) aF)))))
 (aI (ju 1 (eSh (aR da (aj (k7 (eOp gIx (af 2) (eUn jv (eC (.int 1))))) (aj (eSl gb (af 0) (bM (af 3)) (bM (af 5))) aF)))))
 (aI (sIf (aB (eOp gEq (eSl gb (af 0) (bM (af 5)) (bM (eOp aO (af 5) (eC (.int 1))))) (eC (.str "(")))) (aI (ju 2 (k7 (eOp g4 (eB cg (aj (af 1) aF)) (eC (.int 1)))))
 (i7 (aR cQ (aj (k7 (eOp g4 (eB cg (aj (af 2) aF)) (eC (.int 1)))) aF)))) (aI (sI 5 0 5 2 bL)
 (aY 4 (eSh (aR fF (aj (af 0) (aj (af 5) (aj (k7 (eOp g4 (eB cg (aj (af 2) aF)) (eC (.int 1)))) aF))))))))
 (aY 3 (eOp aO (af 5) (eC (.int 1))))))))
 (kl 1))))))
noncomputable def c9:Fn:=bx 1 6 gD
noncomputable def fv:Fs:=(aI (sIf (f_ (aB (eOp gIn (eC (.str "!")) (af 0))) (f_ (aB (eOp gGt (eB cg (aj (af 0) aF)) (eC (.int 600)))) (aB (eOp gGt (aR cK (aj (af 0) aF)) (eC (.int 100)))))) (ba (eC (.bool false))) sNx)
 (aI (cM (aB (eOp gIn (eC (.str ")")) (af 0))) (aI (aY 1 (eTx yU (af 0) (eC (.str ")"))))
 (aI (aY 2 (eTx qi (eSl gb (af 0) fX (bM (af 1))) (eC (.str "("))))
 (aI (sIf (aB (eOp gLt (af 2) (eC (.int 0)))) (ba (eC (.bool false))) sNx)
 (aI (jM (pI (Ax (eSl gb (af 0) (bM (eOp aO (af 2) (eC (.int 1)))) (bM (af 1))) (eC (.str ",")))) (gNm 3) (sIf (ej (aB (aR bY (aj (af 3) aF)))) (ba (eC (.bool false))) sNx))
 (aI (aY 4 (eOp aO (eB pJ (aj (eTx qi (eSl gb (af 0) fX (bM (af 2))) (eC (.str "("))) (aj (eTx qi (eSl gb (af 0) fX (bM (af 2))) (eC (.str ","))) aF))) (eC (.int 1))))
 (aI (sIf (ej (aB (aR bK (aj (eSl gb (af 0) (bM (af 4)) (bM (af 2))) aF)))) (ba (eC (.bool false))) sNx)
 (aY 0 (eOp aO (eOp aO (eSl gb (af 0) fX (bM (af 2))) (eC (.str "!"))) (eSl gb (af 0) (bM (eOp aO (af 1) (eC (.int 1)))) fX))))))))))
 (ba (aR bY (aj (af 0) aF)))))
noncomputable def dR:Fn:=bx 1 5 fv
noncomputable def iG:Fs:=(aI (sIf (f_ (ej (aB (mM "str" (af 0)))) (aB (eOp gGt (eB cg (aj (af 0) aF)) (eC (.int 600))))) kH sNx)
 (ba (aR gw (aj (aR gz (aj (af 0) aF)) aF))))
noncomputable def kf:Fn:=bx 1 1 iG
noncomputable def ef:Fs:=(aI (sIf (f_ (ej (aB (mM "str" (af 0)))) (aB (eOp gGt (eB cg (aj (af 0) aF)) (eC (.int 600))))) (fK "NoText") sNx)
 (ba (aR bI (aj (aR c9 (aj (af 0) aF)) aF))))
noncomputable def bp:Fn:=bx 1 1 ef
noncomputable def fg:Fs:=(aI (rK bp (aj (af 0) aF) 1 [("NoText",PyData.tuple [.str "refused",.int 1]),("NoTree",PyData.tuple [.str "refused",.int 2])])
 (ba (j9 (aj (eC (.str "told")) (aj (af 1) aF)))))
noncomputable def bE:Fn:=bx 1 3 fg
noncomputable def dc:Fn:=λ_=>.bad
noncomputable def eT:Fs:=(aI (aY 2 (eOp gIx (eOp gIx (af 0) (af 1)) (eC (.int 1))))
 (aI (sIf (aB (eOp gGt (eOp gIx (eOp gIx (af 0) (af 1)) (eC (.int 2))) (eC (.int 1)))) (aY 2 (eOp aO (eOp aO (af 2) (eC (.str "*"))) (eB g8 (aj (eOp gIx (eOp gIx (af 0) (af 1)) (eC (.int 2))) aF)))) sNx)
 (aI (aY 3 (eSh (gc (iR2 (eOp aO (af 1) (eC (.int 1))) (eB cg (aj (af 0) aF))) (gNm 0) (aB (eOp gEq (eOp gIx (eOp gIx (af 1) (af 0)) (eC (.int 0))) (af 2))) (eSh (aR dc (aj (af 1) (aj (af 0) aF)))) 1 [0,1])))
 (aI (sIf (aB (eOp gEq (af 3) (fM aF))) (ba (af 2)) sNx)
 (ba (eOp aO (eOp aO (eOp aO (af 2) (eC (.str "("))) (eJn (eC (.str ",")) (af 3))) (eC (.str ")"))))))))
noncomputable def du:Fn:=bx 2 4 eT
noncomputable def eL:Fs:=(aI (aY 2 (eOp gIx (eOp gIx (af 0) (af 1)) (eC (.int 1))))
 (aI (sIf (aB (eOp gGt (eOp gIx (eOp gIx (af 0) (af 1)) (eC (.int 2))) (eC (.int 1)))) (aY 2 (eOp aO (eOp aO (af 2) (eC (.str "*"))) (eB g8 (aj (eOp gIx (eOp gIx (af 0) (af 1)) (eC (.int 2))) aF)))) sNx)
 (aI (aY 3 (eSh (gc (iR2 (eOp aO (af 1) (eC (.int 1))) (eB cg (aj (af 0) aF))) (gNm 0) (aB (eOp gEq (eOp gIx (eOp gIx (af 1) (af 0)) (eC (.int 0))) (af 2))) (eSh (aR du (aj (af 1) (aj (af 0) aF)))) 1 [0,1])))
 (aI (sIf (aB (eOp gEq (af 3) (fM aF))) (ba (af 2)) sNx)
 (ba (eOp aO (eOp aO (eOp aO (af 2) (eC (.str "("))) (eJn (eC (.str ",")) (af 3))) (eC (.str ")"))))))))
noncomputable def dr:Fn:=bx 2 4 eL
noncomputable def eK:Fs:=(aI (aY 2 (eOp gIx (eOp gIx (af 0) (af 1)) (eC (.int 1))))
 (aI (sIf (aB (eOp gGt (eOp gIx (eOp gIx (af 0) (af 1)) (eC (.int 2))) (eC (.int 1)))) (aY 2 (eOp aO (eOp aO (af 2) (eC (.str "*"))) (eB g8 (aj (eOp gIx (eOp gIx (af 0) (af 1)) (eC (.int 2))) aF)))) sNx)
 (aI (aY 3 (eSh (gc (iR2 (eOp aO (af 1) (eC (.int 1))) (eB cg (aj (af 0) aF))) (gNm 0) (aB (eOp gEq (eOp gIx (eOp gIx (af 1) (af 0)) (eC (.int 0))) (af 2))) (eSh (aR dr (aj (af 1) (aj (af 0) aF)))) 1 [0,1])))
 (aI (sIf (aB (eOp gEq (af 3) (fM aF))) (ba (af 2)) sNx)
 (ba (eOp aO (eOp aO (eOp aO (af 2) (eC (.str "("))) (eJn (eC (.str ",")) (af 3))) (eC (.str ")"))))))))
noncomputable def di:Fn:=bx 2 4 eK
noncomputable def eJ:Fs:=(aI (aY 2 (eOp gIx (eOp gIx (af 0) (af 1)) (eC (.int 1))))
 (aI (sIf (aB (eOp gGt (eOp gIx (eOp gIx (af 0) (af 1)) (eC (.int 2))) (eC (.int 1)))) (aY 2 (eOp aO (eOp aO (af 2) (eC (.str "*"))) (eB g8 (aj (eOp gIx (eOp gIx (af 0) (af 1)) (eC (.int 2))) aF)))) sNx)
 (aI (aY 3 (eSh (gc (iR2 (eOp aO (af 1) (eC (.int 1))) (eB cg (aj (af 0) aF))) (gNm 0) (aB (eOp gEq (eOp gIx (eOp gIx (af 1) (af 0)) (eC (.int 0))) (af 2))) (eSh (aR di (aj (af 1) (aj (af 0) aF)))) 1 [0,1])))
 (aI (sIf (aB (eOp gEq (af 3) (fM aF))) (ba (af 2)) sNx)
 (ba (eOp aO (eOp aO (eOp aO (af 2) (eC (.str "("))) (eJn (eC (.str ",")) (af 3))) (eC (.str ")"))))))))
noncomputable def df:Fn:=bx 2 4 eJ
noncomputable def eR:Fs:=(aI (aY 2 (eOp gIx (eOp gIx (af 0) (af 1)) (eC (.int 1))))
 (aI (sIf (aB (eOp gGt (eOp gIx (eOp gIx (af 0) (af 1)) (eC (.int 2))) (eC (.int 1)))) (aY 2 (eOp aO (eOp aO (af 2) (eC (.str "*"))) (eB g8 (aj (eOp gIx (eOp gIx (af 0) (af 1)) (eC (.int 2))) aF)))) sNx)
 (aI (aY 3 (eSh (gc (iR2 (eOp aO (af 1) (eC (.int 1))) (eB cg (aj (af 0) aF))) (gNm 0) (aB (eOp gEq (eOp gIx (eOp gIx (af 1) (af 0)) (eC (.int 0))) (af 2))) (eSh (aR df (aj (af 1) (aj (af 0) aF)))) 1 [0,1])))
 (aI (sIf (aB (eOp gEq (af 3) (fM aF))) (ba (af 2)) sNx)
 (ba (eOp aO (eOp aO (eOp aO (af 2) (eC (.str "("))) (eJn (eC (.str ",")) (af 3))) (eC (.str ")"))))))))
noncomputable def c7:Fn:=bx 2 4 eR
noncomputable def eP:Fs:=(aI (aY 2 (eOp gIx (eOp gIx (af 0) (af 1)) (eC (.int 1))))
 (aI (sIf (aB (eOp gGt (eOp gIx (eOp gIx (af 0) (af 1)) (eC (.int 2))) (eC (.int 1)))) (aY 2 (eOp aO (eOp aO (af 2) (eC (.str "*"))) (eB g8 (aj (eOp gIx (eOp gIx (af 0) (af 1)) (eC (.int 2))) aF)))) sNx)
 (aI (aY 3 (eSh (gc (iR2 (eOp aO (af 1) (eC (.int 1))) (eB cg (aj (af 0) aF))) (gNm 0) (aB (eOp gEq (eOp gIx (eOp gIx (af 1) (af 0)) (eC (.int 0))) (af 2))) (eSh (aR c7 (aj (af 1) (aj (af 0) aF)))) 1 [0,1])))
 (aI (sIf (aB (eOp gEq (af 3) (fM aF))) (ba (af 2)) sNx)
 (ba (eOp aO (eOp aO (eOp aO (af 2) (eC (.str "("))) (eJn (eC (.str ",")) (af 3))) (eC (.str ")"))))))))
noncomputable def dm:Fn:=bx 2 4 eP
noncomputable def eN:Fs:=(aI (aY 2 (eOp gIx (eOp gIx (af 0) (af 1)) (eC (.int 1))))
 (aI (sIf (aB (eOp gGt (eOp gIx (eOp gIx (af 0) (af 1)) (eC (.int 2))) (eC (.int 1)))) (aY 2 (eOp aO (eOp aO (af 2) (eC (.str "*"))) (eB g8 (aj (eOp gIx (eOp gIx (af 0) (af 1)) (eC (.int 2))) aF)))) sNx)
 (aI (aY 3 (eSh (gc (iR2 (eOp aO (af 1) (eC (.int 1))) (eB cg (aj (af 0) aF))) (gNm 0) (aB (eOp gEq (eOp gIx (eOp gIx (af 1) (af 0)) (eC (.int 0))) (af 2))) (eSh (aR dm (aj (af 1) (aj (af 0) aF)))) 1 [0,1])))
 (aI (sIf (aB (eOp gEq (af 3) (fM aF))) (ba (af 2)) sNx)
 (ba (eOp aO (eOp aO (eOp aO (af 2) (eC (.str "("))) (eJn (eC (.str ",")) (af 3))) (eC (.str ")"))))))))
noncomputable def dv:Fn:=bx 2 4 eN
noncomputable def eO:Fs:=(aI (aY 2 (eOp gIx (eOp gIx (af 0) (af 1)) (eC (.int 1))))
 (aI (sIf (aB (eOp gGt (eOp gIx (eOp gIx (af 0) (af 1)) (eC (.int 2))) (eC (.int 1)))) (aY 2 (eOp aO (eOp aO (af 2) (eC (.str "*"))) (eB g8 (aj (eOp gIx (eOp gIx (af 0) (af 1)) (eC (.int 2))) aF)))) sNx)
 (aI (aY 3 (eSh (gc (iR2 (eOp aO (af 1) (eC (.int 1))) (eB cg (aj (af 0) aF))) (gNm 0) (aB (eOp gEq (eOp gIx (eOp gIx (af 1) (af 0)) (eC (.int 0))) (af 2))) (eSh (aR dv (aj (af 1) (aj (af 0) aF)))) 1 [0,1])))
 (aI (sIf (aB (eOp gEq (af 3) (fM aF))) (ba (af 2)) sNx)
 (ba (eOp aO (eOp aO (eOp aO (af 2) (eC (.str "("))) (eJn (eC (.str ",")) (af 3))) (eC (.str ")"))))))))
noncomputable def dj:Fn:=bx 2 4 eO
noncomputable def eQ:Fs:=(aI (aY 2 (eOp gIx (eOp gIx (af 0) (af 1)) (eC (.int 1))))
 (aI (sIf (aB (eOp gGt (eOp gIx (eOp gIx (af 0) (af 1)) (eC (.int 2))) (eC (.int 1)))) (aY 2 (eOp aO (eOp aO (af 2) (eC (.str "*"))) (eB g8 (aj (eOp gIx (eOp gIx (af 0) (af 1)) (eC (.int 2))) aF)))) sNx)
 (aI (aY 3 (eSh (gc (iR2 (eOp aO (af 1) (eC (.int 1))) (eB cg (aj (af 0) aF))) (gNm 0) (aB (eOp gEq (eOp gIx (eOp gIx (af 1) (af 0)) (eC (.int 0))) (af 2))) (eSh (aR dj (aj (af 1) (aj (af 0) aF)))) 1 [0,1])))
 (aI (sIf (aB (eOp gEq (af 3) (fM aF))) (ba (af 2)) sNx)
 (ba (eOp aO (eOp aO (eOp aO (af 2) (eC (.str "("))) (eJn (eC (.str ",")) (af 3))) (eC (.str ")"))))))))
noncomputable def gO:Fn:=bx 2 4 eQ
noncomputable abbrev bX:Fn:=gO
noncomputable def d4:Fs:=(aI (aY 1 (eSh (aR bE (aj (af 0) aF))))
 (aI (sIf (ej (aB (aR dR (aj (af 0) aF)))) (ba (eOp gEq (af 1) (j9 (aj (eC (.str "refused")) (aj (eC (.int 1)) aF))))) sNx)
 (aI (sIf (f_ (aB (eOp gGt (eOp aO (eTx uu (af 0) (eC (.str ","))) (eTx uu (af 0) (eC (.str "(")))) (eC (.int 39)))) (aB (eOp gGt (aR cK (aj (af 0) aF)) (eC (.int 8))))) (ba (eOp gEq (af 1) (j9 (aj (eC (.str "refused")) (aj (eC (.int 2)) aF))))) sNx)
 (ba (pT (eOp gEq (eOp gIx (af 1) (eC (.int 0))) (eC (.str "told"))) (pT (aR ez (aj (eOp gIx (af 1) (eC (.int 1))) aF)) (eOp gEq (aR bX (aj (eOp gIx (af 1) (eC (.int 1))) (aj (eC (.int 0)) aF))) (af 0))))))))
noncomputable def dZ:Fn:=bx 1 2 d4
noncomputable def oG:Fs:=(aI (aY 1 (eSh (aR fq (aj (af 0) (aj (eC (.int 2)) (aj (eOp aO (eC (.int 1)) (eOp dM (aR bQ (aj (af 0) (aj (eC (.int 0)) aF))) (eC (.int 12)))) (aj (eC (.int 9)) (aj (eC (.int 8)) aF))))))))
 (aI (aY 2 (eSh (aR bX (aj (af 1) (aj (eC (.int 0)) aF)))))
 (aI (aY 3 (eOp dM (eOp jH (aR bQ (aj (af 0) (aj (eC (.int 1)) aF))) (eC (.int 48271))) (eC (.int 2147483647))))
 (aI (aY 4 (fM (aj (eSh (aR cz (aj (af 2) (aj (aR bQ (aj (af 0) (aj (eC (.int 15)) aF))) aF)))) (aj (eSh (aR cz (aj (af 2) (aj (aR bQ (aj (af 0) (aj (eC (.int 16)) aF))) aF)))) (aj (af 2) aF)))))
 (aI (sIf (aB (eOp gEq (eOp dM (af 3) (eC (.int 4))) (eC (.int 1)))) (ju 4 (eSh (aR d9 (aj (eOp gG (af 3) (eC (.int 32))) aF)))) sNx)
 (aI (sIf (aB (eOp gEq (eOp dM (af 3) (eC (.int 4))) (eC (.int 2)))) (ju 4 (eSh (aR d5 (aj (eOp gG (af 3) (eC (.int 32))) aF)))) sNx)
 (aI (sIf (aB (eOp gEq (eOp dM (eOp gG (af 3) (eC (.int 4))) (eC (.int 8))) (eC (.int 1)))) (ju 4 (eSh (aR eU (aj (eOp gG (af 3) (eC (.int 32))) aF)))) sNx)
 (aI (uq 4 (jM (pI (af 4)) (gNm 5) (sIf (ej (aB (aR dZ (aj (af 5) aF)))) (ba (eC (.bool false))) sNx)))
 (aI (jM (pI (fM (aj (eC .none) (aj (eC (.int 7)) (aj (eC (.bool true)) (aj (eSh (fM (aj (eC (.str "a")) aF))) (aj (j9 (aj (eC (.str "a")) aF)) aF))))))) (gNm 6) (sIf (aB (eOp gNe (aR bE (aj (af 6) aF)) (j9 (aj (eC (.str "refused")) (aj (eC (.int 1)) aF))))) (ba (eC (.bool false))) sNx))
 (ba (aR dZ (aj (af 2) aF))))))))))))
noncomputable def l9:Fn:=bx 1 7 oG
noncomputable def top (i:Nat):Stmt:=PySem.Challenge.pw_boughdraw_k12_texts_refused.main.body.getD i (.Pass ⟨0,0,0,0⟩)
noncomputable abbrev bH:Stmt:=top 17
theorem f9:FnScope ["rows", "start", "wanted", "node"] ["rows", "start", "wanted"] (aq bH):=⟨rfl,rfl,rfl,by decide +kernel,rfl,by decide +kernel,by decide +kernel⟩
noncomputable abbrev bW:Stmt:=top 19
theorem pW:FnScope ["text"] ["text"] (aq bW):=⟨rfl,rfl,rfl,by decide +kernel,rfl,by decide +kernel,by decide +kernel⟩
noncomputable abbrev bP:Stmt:=top 20
theorem jD:FnScope ["tall"] ["tall"] (aq bP):=⟨rfl,rfl,rfl,by decide +kernel,rfl,by decide +kernel,by decide +kernel⟩
noncomputable abbrev bO:Stmt:=top 21
theorem gW:FnScope ["tree", "levels", "row"] ["tree"] (aq bO):=⟨rfl,rfl,rfl,by decide +kernel,rfl,by decide +kernel,by decide +kernel⟩
noncomputable abbrev dh:Stmt:=top 28
theorem iZ:FnScope ["text", "place", "end"] ["text", "place"] (aq dh):=⟨rfl,rfl,rfl,by decide +kernel,rfl,by decide +kernel,by decide +kernel⟩
noncomputable abbrev bA:Stmt:=top 30
theorem ja:FnScope ["depth"] ["depth"] (aq bA):=⟨rfl,rfl,rfl,by decide +kernel,rfl,by decide +kernel,by decide +kernel⟩
noncomputable abbrev bt:Stmt:=top 31
theorem iq:FnScope ["text", "place", "opened"] ["text", "place", "opened"] (aq bt):=⟨rfl,rfl,rfl,by decide +kernel,rfl,by decide +kernel,by decide +kernel⟩
noncomputable abbrev dC:Stmt:=top 32
theorem l6:FnScope ["text", "place", "depth"] ["text", "place", "depth"] (aq dC):=⟨rfl,rfl,rfl,by decide +kernel,rfl,by decide +kernel,by decide +kernel⟩
noncomputable abbrev cB:Stmt:=top 34
theorem iK:FnScope ["_law_script", "_law_k", "_law_number"] ["_law_script", "_law_k"] (aq cB):=⟨rfl,rfl,rfl,by decide +kernel,rfl,by decide +kernel,by decide +kernel⟩
noncomputable abbrev cG:Stmt:=top 35
theorem mD:FnScope ["_law_found"] ["_law_found"] (aq cG):=⟨rfl,rfl,rfl,by decide +kernel,rfl,by decide +kernel,by decide +kernel⟩
noncomputable abbrev cC:Stmt:=top 36
theorem eA:FnScope ["_law_number", "_law_most", "_law_letters", "_law_label_here", "_law_k"] ["_law_number", "_law_most"] (aq cC):=⟨rfl,rfl,rfl,by decide +kernel,rfl,by decide +kernel,by decide +kernel⟩
noncomputable abbrev cW:Stmt:=top 39
theorem iB:FnScope ["_law_number", "_law_some"] ["_law_number"] (aq cW):=⟨rfl,rfl,rfl,by decide +kernel,rfl,by decide +kernel,by decide +kernel⟩
noncomputable abbrev cX:Stmt:=top 41
theorem iF:FnScope ["_law_number", "_law_many"] ["_law_number"] (aq cX):=⟨rfl,rfl,rfl,by decide +kernel,rfl,by decide +kernel,by decide +kernel⟩
noncomputable abbrev cV:Stmt:=top 42
theorem o4:FnScope ["_law_number"] ["_law_number"] (aq cV):=⟨rfl,rfl,rfl,by decide +kernel,rfl,by decide +kernel,by decide +kernel⟩
noncomputable abbrev dQ:Stmt:=top 43
theorem kP:FnScope ["_law_number", "_law_some"] ["_law_number"] (aq dQ):=⟨rfl,rfl,rfl,by decide +kernel,rfl,by decide +kernel,by decide +kernel⟩
noncomputable abbrev bD:Stmt:=top 44
theorem dz:FnScope ["_law_word_here", "_law_name", "_law_star_here", "_law_tall", "_law_sign_here"] ["_law_word_here"] (aq bD):=⟨rfl,rfl,rfl,by decide +kernel,rfl,by decide +kernel,by decide +kernel⟩
noncomputable abbrev b7:Stmt:=top 46
theorem dE:FnScope ["_law_text", "_law_most", "_law_now", "_law_sign_here"] ["_law_text"] (aq b7):=⟨rfl,rfl,rfl,by decide +kernel,rfl,by decide +kernel,by decide +kernel⟩
noncomputable abbrev cJ:Stmt:=top 48
theorem j_:FnScope ["_law_error"] ["_law_error"] (aq cJ):=⟨rfl,rfl,rfl,by decide +kernel,rfl,by decide +kernel,by decide +kernel⟩
noncomputable abbrev bB:Stmt:=top 16
theorem fA:FnScope ["rows", "number", "elder"] ["rows", "number"] (aq bB):=⟨rfl,rfl,rfl,by decide +kernel,rfl,by decide +kernel,by decide +kernel⟩
noncomputable abbrev bC:Stmt:=top 18
theorem iT:FnScope ["label"] ["label"] (aq bC):=⟨rfl,rfl,rfl,by decide +kernel,rfl,by decide +kernel,by decide +kernel⟩
noncomputable abbrev cf:Stmt:=top 29
theorem gF:FnScope ["elder", "part", "pieces"] ["elder", "part"] (aq cf):=⟨rfl,rfl,rfl,by decide +kernel,rfl,by decide +kernel,by decide +kernel⟩
noncomputable abbrev cY:Stmt:=top 37
theorem b8:FnScope ["_law_script", "_law_start", "_law_many", "_law_most", "_law_deep", "_law_tree_here", "_law_way", "_law_k", "_law_number", "_law_keep"] ["_law_script", "_law_start", "_law_many", "_law_most", "_law_deep"] (aq cY):=⟨rfl,rfl,rfl,by decide +kernel,rfl,by decide +kernel,by decide +kernel⟩
noncomputable abbrev bS:Stmt:=top 40
theorem eE:FnScope ["_law_text", "_law_cell_here", "_law_number", "_law_sign_here", "_law_at"] ["_law_text", "_law_cell_here"] (aq bS):=⟨rfl,rfl,rfl,by decide +kernel,rfl,by decide +kernel,by decide +kernel⟩
noncomputable abbrev bT:Stmt:=top 45
theorem kW:FnScope ["_law_word_here"] ["_law_word_here"] (aq bT):=⟨rfl,rfl,rfl,by decide +kernel,rfl,by decide +kernel,by decide +kernel⟩
noncomputable abbrev cI:Stmt:=top 50
theorem ei:FnScope ["_law_found", "_law_k", "_law_row", "_law_at"] ["_law_found"] (aq cI):=⟨rfl,rfl,rfl,by decide +kernel,rfl,by decide +kernel,by decide +kernel⟩
noncomputable abbrev cb:Stmt:=top 15
theorem d_:FnScope ["rows", "number", "row"] ["rows"] (aq cb):=⟨rfl,rfl,rfl,by decide +kernel,rfl,by decide +kernel,by decide +kernel⟩
noncomputable abbrev b_:Stmt:=top 27
theorem aV:FnScope ["text", "rows", "opened", "place", "unread", "end"] ["text"] (aq b_):=⟨rfl,rfl,rfl,by decide +kernel,rfl,by decide +kernel,by decide +kernel⟩
noncomputable abbrev b9:Stmt:=top 47
theorem cR:FnScope ["_law_text", "_law_end", "_law_begin", "_law_word_here", "_law_cut"] ["_law_text"] (aq b9):=⟨rfl,rfl,rfl,by decide +kernel,rfl,by decide +kernel,by decide +kernel⟩
noncomputable abbrev cA:Stmt:=top 26
theorem ko:FnScope ["text"] ["text"] (aq cA):=⟨rfl,rfl,rfl,by decide +kernel,rfl,by decide +kernel,by decide +kernel⟩
noncomputable abbrev cF:Stmt:=top 49
theorem gu:FnScope ["_law_text", "_law_found", "e"] ["_law_text"] (aq cF):=⟨rfl,rfl,rfl,by decide +kernel,rfl,by decide +kernel,by decide +kernel⟩
noncomputable abbrev ax:Stmt:=top 38
theorem aw:FnScope ["_law_tree_here", "_law_node", "_law_text", "_law_below"] ["_law_tree_here", "_law_node"] (aq ax):=⟨rfl,rfl,rfl,by decide +kernel,rfl,by decide +kernel,by decide +kernel⟩
noncomputable abbrev cZ:Stmt:=top 51
theorem jZ:FnScope ["_law_text", "_law_found"] ["_law_text"] (aq cZ):=⟨rfl,rfl,rfl,by decide +kernel,rfl,by decide +kernel,by decide +kernel⟩
noncomputable abbrev j7:Stmt:=top 52
theorem jQ:FnScope ["_law_script", "_law_tree_here", "_law_text", "_law_number", "_law_some", "_law_one", "_law_thing"] ["_law_script"] (aq j7):=⟨rfl,rfl,rfl,by decide +kernel,rfl,by decide +kernel,by decide +kernel⟩
theorem nW:bootBuiltins "list" = some (.type "list"):=by decide +kernel
theorem uO:bootBuiltins "tuple" = some (.type "tuple"):=by decide +kernel
theorem jS:bootBuiltins "int" = some (.type "int"):=by decide +kernel
theorem wm:bootBuiltins "bool" = some (.type "bool"):=by decide +kernel
theorem fZ:bootBuiltins "str" = some (.type "str"):=by decide +kernel
theorem jB:bootBuiltins "ValueError" = some (.type "ValueError"):=by decide +kernel
structure Txt (K:PySem.W.Frag) (mg:Str->Option Value):Prop where
 z_ValueError:mg "ValueError" = none
 z_all:mg "all" = none
 z_bool:mg "bool" = none
 z_enumerate:mg "enumerate" = none
 z_int:mg "int" = none
 z_isinstance:mg "isinstance" = none
 z_len:mg "len" = none
 z_list:mg "list" = none
 z_max:mg "max" = none
 z_min:mg "min" = none
 z_range:mg "range" = none
 z_str:mg "str" = none
 z_tuple:mg "tuple" = none
 c_DEEPEST:∃t,mg "DEEPEST" = some (.int 100 t)
 c_GREATEST_LEVEL:∃t,mg "GREATEST_LEVEL" = some (.int 8 t)
 c_GREATEST_TALL:∃t,mg "GREATEST_TALL" = some (.int 9 t)
 c_LETTERS:∃t,mg "LETTERS" = some (.str "abcdefghijklmnopqrstuvwxyz" t)
 c_LONGEST_LABEL:∃t,mg "LONGEST_LABEL" = some (.int 9 t)
 c_MOST_NODES:∃t,mg "MOST_NODES" = some (.int 40 t)
 c_MOST_SIGNS:∃t,mg "MOST_SIGNS" = some (.int 600 t)
 c_TALL_FIGURES:∃t,mg "TALL_FIGURES" = some (.str "23456789" t)
 xs:∃c_DrawError c_NoDeed c_NoNode c_NoPicture c_NoPlace c_NoText c_NoTree c_TooMany:Addr,mg "DrawError" = some (.ref c_DrawError)/\mg "NoDeed" = some (.ref c_NoDeed)/\mg "NoNode" = some (.ref c_NoNode)/\mg "NoPicture" = some (.ref c_NoPicture)/\mg "NoPlace" = some (.ref c_NoPlace)/\mg "NoText" = some (.ref c_NoText)/\mg "NoTree" = some (.ref c_NoTree)/\mg "TooMany" = some (.ref c_TooMany)/\ExcK K c_NoText/\ExcK K c_NoTree/\PySem.W.excIn K c_DrawError vE vN=true/\PySem.W.subIn K (.ref c_NoText) (.ref c_DrawError)=some true/\PySem.W.subIn K (.ref c_NoTree) (.ref c_DrawError)=some true/\PySem.W.kitOne K (.ref c_NoText) (.ref c_NoText)=some true/\PySem.W.kitOne K (.ref c_NoText) (.ref c_NoTree)=some false/\PySem.W.kitOne K (.ref c_NoTree) (.ref c_NoText)=some false/\PySem.W.kitOne K (.ref c_NoTree) (.ref c_NoTree)=some true/\PySem.W.kitOne K (.ref c_NoText) (.type "ValueError")=some true/\PySem.W.kitOne K (.ref c_NoTree) (.type "ValueError")=some true/\PySem.W.kitAny K (.ref c_NoText) [.ref c_NoNode,.ref c_NoPicture,.ref c_TooMany,.ref c_NoDeed,.ref c_NoPlace]=some false/\PySem.W.kitAny K (.ref c_NoTree) [.ref c_NoNode,.ref c_NoPicture,.ref c_TooMany,.ref c_NoDeed,.ref c_NoPlace]=some false
section
variable {P:Program} {w:World} {K:PySem.W.Frag} {mg:Str->Option Value} {base:Heap}
theorem kX {f:Addr} {fd:FuncData} (F:Fun K "is_on_way_up" "is_on_way_up" bH f fd) (T:Txt K mg):FnOk P w K mg base CX0 1 f fd ["rows", "start", "wanted"] (sp3 K mg bZ):=by
 refine de (N:=["rows", "start", "wanted", "node"]) (k:=0) (body:=eG) rfl rfl rfl F f9 λcdv A outer s H E hr=>?_
 unfold eG;exact (ah (aJ (i:=3) f9.nd rfl (Or.inl rfl) (aa 1))
   (ah (ix PassesOwn.never (gX (ku (az (gU hr.units) iY (aa 3) (iw fL (λ_=>fI) ag) (ay _)) (jo (az (gU hr.units) iY (aa 3) (aa 2) (ay _))))) (ai (aJ (i:=3) f9.nd rfl (Or.inl rfl) (aE av aD (aE av aD (aa 0) (aa 3) (λ_ _=>rfl)) ag (λ_ _=>rfl)))))
   (ai (aL (hZ (gU hr.units) iY (aa 3) (iw fL (λ_=>fI) ag) (ay _))))))
theorem pB {f:Addr} {fd:FuncData} (F:Fun K "is_label" "is_label" bW f fd) (T:Txt K mg):FnOk P w K mg base CX0 1 f fd ["text"] (sp3 K mg bR):=by
 refine de (N:=["text"]) (k:=0) (body:=g5) rfl rfl rfl F pW λcdv A outer s H E hr=>?_
 unfold g5;exact (ai (aL (n_ (E7 ag (bh aK a_ rfl T.z_len PySem.boot_len (ae (aa 0) ao)) (dO rfl T.c_LONGEST_LABEL)) (oj (bh (vB rfl) Bx rfl T.z_all PyProof.Rows.boot_all (ae (xR (sc:=(aq bW)) (outs:=[]) (is:=[0]) ["sign"] ⟨rfl,rfl,by decide +kernel,by decide +kernel,by decide +kernel,trivial⟩ rfl (by decide) (oN (aa 0)) (λ_ _ _ _ _=>(br (i:=0) (show List.Nodup (["sign"]:List Str) by decide +kernel) rfl (Or.inl rfl))) (λ_ _ _ _ _=>BQ) (λ_ _ _ _ _=>(hZ oW rB (aa 0) (ma rfl T.c_LETTERS) rfl))) ao))))))
theorem mB {f:Addr} {fd:FuncData} (F:Fun K "check_tall" "check_tall" bP f fd) (T:Txt K mg):FnOk P w K mg base CX0 1 f fd ["tall"] (sp3 K mg fP):=by
 refine de (N:=["tall"]) (k:=0) (body:=ie) rfl rfl rfl F jD λcdv A outer s H E hr=>?_
 unfold ie;exact (ai (aQ (gX (ey (az iV (λ_=>jc) (aa 0) ag (ay _)) (eg (az b4 (λ_=>b6) (aa 0) (dO rfl T.c_GREATEST_TALL) (ay _))))) (ai dI) aG))
theorem mE {f:Addr} {fd:FuncData} (F:Fun K "check_tall" "check_tall" bP f fd) (T:Txt K mg):FnOk P w K mg base (CXE P w) 1 f fd ["tall"] (sp3 K mg dB):=by
 refine oM (N:=["tall"]) (k:=0) (body:=fU) rfl rfl rfl F jD λcdv A outer s H E hr=>?_
 obtain ⟨c_DrawError,c_NoDeed,c_NoNode,c_NoPicture,c_NoPlace,c_NoText,c_NoTree,c_TooMany,m_DrawError,m_NoDeed,m_NoNode,m_NoPicture,m_NoPlace,m_NoText,m_NoTree,m_TooMany,x_NoText,x_NoTree,h_DrawError,u_NoText_DrawError,u_NoTree_DrawError,k_NoText_NoText,k_NoText_NoTree,k_NoTree_NoText,k_NoTree_NoTree,v_NoText_ValueError,v_NoTree_ValueError,t_NoText_NoNode_NoPicture_TooMany_NoDeed_NoPlace,t_NoTree_NoNode_NoPicture_TooMany_NoDeed_NoPlace⟩:=T.xs;unfold fU;exact (ai (aQ (gX (ey (az iV (λ_=>jc) (aa 0) ag (ay _)) (eg (az b4 (λ_=>b6) (aa 0) (dO rfl T.c_GREATEST_TALL) (ay _))))) (ai (dS Lv.of rfl rfl m_NoTree x_NoTree.ex)) aG))
theorem my {f:Addr} {fd:FuncData} (F:Fun K "node_levels" "node_levels" bO f fd) (T:Txt K mg):FnOk P w K mg base CX0 1 f fd ["tree"] (sp3 K mg cq):=by
 refine de (N:=["tree", "levels", "row"]) (k:=0) (body:=ft) rfl rfl rfl F gW λcdv A outer s H E hr=>?_
 unfold ft;exact (ah (aJ (i:=1) gW.nd rfl (Or.inl rfl) (cu ao))
   (ah (gS rfl PassesOwn.never (lg (aa 0)) (br (i:=2) gW.nd rfl (Or.inl rfl)) (ai (h_ 1 (bV (iy (CH (az (aZ hr.units) bo (aE av aD (aa 2) ag (λ_ _=>rfl)) (iw fL (λ_=>fI) ag) (ay _)) ag (ar au aA (aE av aD (aa 1) (aE av aD (aa 2) ag (λ_ _=>rfl)) (λ_ _=>rfl)) ag)))))))
   (ai (lA 1))))
theorem pw {f:Addr} {fd:FuncData} (F:Fun K "node_end" "node_end" dh f fd) (T:Txt K mg):FnOk P w K mg base CX0 1 f fd ["text", "place"] (sp3 K mg dJ):=by
 refine de (N:=["text", "place", "end"]) (k:=0) (body:=g9) rfl rfl rfl F iZ λcdv A outer s H E hr=>?_
 unfold g9;exact (ah (aJ (i:=2) iZ.nd rfl (Or.inl rfl) (aa 1))
   (ah (ix PassesOwn.never (gX (ku (az iV (λ_=>jc) (aa 2) (bh aK a_ rfl T.z_len PySem.boot_len (ae (aa 0) ao)) (ay _)) (jo (az jf j6 (aE av aD (aa 0) (aa 2) (λ_ _=>rfl)) aC rfl)))) (ai (AA (i:=2) iZ.nd rfl (Or.inl rfl) ag vS (λ_=>vO))))
   (ai (aL (aa 2)))))
theorem mi {f:Addr} {fd:FuncData} (F:Fun K "check_depth" "check_depth" bA f fd) (T:Txt K mg):FnOk P w K mg base CX0 1 f fd ["depth"] (sp3 K mg fu):=by
 refine de (N:=["depth"]) (k:=0) (body:=gL) rfl rfl rfl F ja λcdv A outer s H E hr=>?_
 unfold gL;exact (ai (aQ (az b4 (λ_=>b6) (aa 0) (dO rfl T.c_DEEPEST) (ay _)) (ai dI) aG))
theorem lO {f:Addr} {fd:FuncData} (F:Fun K "check_depth" "check_depth" bA f fd) (T:Txt K mg):FnOk P w K mg base (CXE P w) 1 f fd ["depth"] (sp3 K mg cQ):=by
 refine oM (N:=["depth"]) (k:=0) (body:=e9) rfl rfl rfl F ja λcdv A outer s H E hr=>?_
 obtain ⟨c_DrawError,c_NoDeed,c_NoNode,c_NoPicture,c_NoPlace,c_NoText,c_NoTree,c_TooMany,m_DrawError,m_NoDeed,m_NoNode,m_NoPicture,m_NoPlace,m_NoText,m_NoTree,m_TooMany,x_NoText,x_NoTree,h_DrawError,u_NoText_DrawError,u_NoTree_DrawError,k_NoText_NoText,k_NoText_NoTree,k_NoTree_NoText,k_NoTree_NoTree,v_NoText_ValueError,v_NoTree_ValueError,t_NoText_NoNode_NoPicture_TooMany_NoDeed_NoPlace,t_NoTree_NoNode_NoPicture_TooMany_NoDeed_NoPlace⟩:=T.xs;unfold e9;exact (ai (aQ (az b4 (λ_=>b6) (aa 0) (dO rfl T.c_DEEPEST) (ay _)) (ai (dS Lv.of rfl rfl m_NoText x_NoText.ex)) aG))
theorem kG {f:Addr} {fd:FuncData} (F:Fun K "shut_brackets" "shut_brackets" bt f fd) (T:Txt K mg):FnOk P w K mg base CX0 1 f fd ["text", "place", "opened"] (spM K bL):=by
 refine fnM (k:=0) (ta:=bz) F iq rfl λcdv A outer s H E hr=>?_
 unfold bz;exact ⟨(Bw (gX (ku (az (aZ hr.units) bo (dP cx cy (aa 0) (a8 (aa 1)) (a8 (ar au aA (aa 1) ag))) aC (ay _)) (jo (az b4 (λ_=>b6) (bh aK a_ rfl T.z_len PySem.boot_len (ae (aa 2) ao)) ag (ay _)))))),nS (zV PySem.F.plainAttrs_list PySem.F.slot_list_pop PySem.F.type_list_pop zD (eS rfl (by first | exact Or.inl rfl | exact Or.inr (Or.inl rfl) | exact Or.inr (Or.inr rfl)))) rfl,ui iq.nd rfl (Or.inl rfl) l8 vS,eS rfl (by first | exact Or.inl rfl | exact Or.inr (Or.inl rfl) | exact Or.inr (Or.inr rfl))⟩
theorem qe {f:Addr} {fd:FuncData} (F:Fun K "goes_on" "goes_on" dC f fd) (T:Txt K mg):FnOk P w K mg base CX0 1 f fd ["text", "place", "depth"] (sp3 K mg iz):=by
 refine de (N:=["text", "place", "depth"]) (k:=0) (body:=jO) rfl rfl rfl F l6 λcdv A outer s H E hr=>?_
 unfold jO;exact (ah (aQ (gX (ku (az b4 (λ_=>b6) (aa 2) ag (ay _)) (jo (az (aZ hr.units) bo (dP cx cy (aa 0) (a8 (aa 1)) (a8 (ar au aA (aa 1) ag))) aC (ay _))))) (ai (aL eW)) aG)
   (ah (aQ (gX (ey (az b4 (λ_=>b6) (aa 2) ag (ay _)) (eg (az iV (λ_=>jc) (aa 1) (bh aK a_ rfl T.z_len PySem.boot_len (ae (aa 0) ao)) (ay _))))) (ai dI) aG)
   (ai (aL eW))))
theorem qd {f:Addr} {fd:FuncData} (F:Fun K "goes_on" "goes_on" dC f fd) (T:Txt K mg):FnOk P w K mg base (CXE P w) 1 f fd ["text", "place", "depth"] (sp3 K mg fF):=by
 refine oM (N:=["text", "place", "depth"]) (k:=0) (body:=iA) rfl rfl rfl F l6 λcdv A outer s H E hr=>?_
 obtain ⟨c_DrawError,c_NoDeed,c_NoNode,c_NoPicture,c_NoPlace,c_NoText,c_NoTree,c_TooMany,m_DrawError,m_NoDeed,m_NoNode,m_NoPicture,m_NoPlace,m_NoText,m_NoTree,m_TooMany,x_NoText,x_NoTree,h_DrawError,u_NoText_DrawError,u_NoTree_DrawError,k_NoText_NoText,k_NoText_NoTree,k_NoTree_NoText,k_NoTree_NoTree,v_NoText_ValueError,v_NoTree_ValueError,t_NoText_NoNode_NoPicture_TooMany_NoDeed_NoPlace,t_NoTree_NoNode_NoPicture_TooMany_NoDeed_NoPlace⟩:=T.xs;unfold iA;exact (ah (aQ (gX (ku (az b4 (λ_=>b6) (aa 2) ag (ay _)) (jo (az (aZ hr.units) bo (dP cx cy (aa 0) (a8 (aa 1)) (a8 (ar au aA (aa 1) ag))) aC (ay _))))) (ai (aL eW)) aG)
   (ah (aQ (gX (ey (az b4 (λ_=>b6) (aa 2) ag (ay _)) (eg (az iV (λ_=>jc) (aa 1) (bh aK a_ rfl T.z_len PySem.boot_len (ae (aa 0) ao)) (ay _))))) (ai (dS Lv.of rfl rfl m_NoText x_NoText.ex)) aG)
   (ai (aL eW))))
theorem oU {f:Addr} {fd:FuncData} (F:Fun K "_law_cell" "_law_cell" cB f fd) (T:Txt K mg):FnOk P w K mg base CX0 1 f fd ["_law_script", "_law_k"] (sp3 K mg bQ):=by
 refine de (N:=["_law_script", "_law_k", "_law_number"]) (k:=0) (body:=gh) rfl rfl rfl F iK λcdv A outer s H E hr=>?_
 unfold gh;exact (ah (aQ (az iV (λ_=>jc) (aa 1) (bh aK a_ rfl T.z_len PySem.boot_len (ae (aa 0) ao)) (ay _)) (ai (aL (aE av aD (aa 0) (aa 1) (λ_ _=>rfl)))) aG)
   (ah (aJ (i:=2) iK.nd rfl (Or.inl rfl) (ar au aA (ar fS hV ag (aa 1)) ag))
   (ah (aQ (az b4 (λ_=>b6) (bh aK a_ rfl T.z_len PySem.boot_len (ae (aa 0) ao)) ag (ay _)) (ai (aJ (i:=2) iK.nd rfl (Or.inl rfl) (ar bJ (λ_=>bF) (ar au aA (ar fS hV (aE av aD (aa 0) (ar bJ (λ_=>bF) (aa 1) (bh aK a_ rfl T.z_len PySem.boot_len (ae (aa 0) ao))) (λ_ _=>rfl)) ag) (ar fS hV (aa 1) ag)) ag))) aG)
   (ai (aL (ar bJ (λ_=>bF) (ar fS hV (aa 2) (aa 2)) ag))))))
theorem mL {f:Addr} {fd:FuncData} (F:Fun K "_law_whole" "_law_whole" cG f fd) (T:Txt K mg):FnOk P w K mg base CX0 1 f fd ["_law_found"] (sp3 K mg cL):=by
 refine de (N:=["_law_found"]) (k:=0) (body:=fQ) rfl rfl rfl F mD λcdv A outer s H E hr=>?_
 unfold fQ;exact (ai (aL (n_ (jG rfl T.z_isinstance rfl T.z_int jS (aa 0)) (oj (AB (jG rfl T.z_isinstance rfl T.z_bool wm (aa 0)))))))
theorem mG {f:Addr} {fd:FuncData} (F:Fun K "_law_label" "_law_label" cC f fd) (T:Txt K mg):FnOk P w K mg base CX0 1 f fd ["_law_number", "_law_most"] (sp3 K mg dA):=by
 refine de (N:=["_law_number", "_law_most", "_law_letters", "_law_label_here", "_law_k"]) (k:=0) (body:=fT) rfl rfl rfl F eA λcdv A outer s H E hr=>?_
 unfold fT;exact (ah (aJ (i:=2) eA.nd rfl (Or.inl rfl) aC)
   (ah (aJ (i:=3) eA.nd rfl (Or.inl rfl) aC)
   (ah (gS rfl PassesOwn.never (vp rfl T.z_range (ar au aA ag (ar bJ (λ_=>bF) (aa 0) (aa 1)))) (br (i:=4) eA.nd rfl (Or.inl rfl)) (ai (aJ (i:=3) eA.nd rfl (Or.inl rfl) (ar au aA (aa 3) (aE av aD (aa 2) (ar bJ (λ_=>bF) (ar cw (λ_=>dG) (aa 0) (ar au aA ag (ar fS hV (ar fS hV ag (aa 4)) (aa 4)))) ag) (λ_ _=>rfl))))))
   (ai (aL (aa 3))))))
theorem oy {f:Addr} {fd:FuncData} (F:Fun K "_law_sign" "_law_sign" cW f fd) (T:Txt K mg):FnOk P w K mg base CX0 1 f fd ["_law_number"] (sp3 K mg fC):=by
 refine de (N:=["_law_number", "_law_some"]) (k:=0) (body:=gB) rfl rfl rfl F iB λcdv A outer s H E hr=>?_
 unfold gB;exact (ah (aJ (i:=1) iB.nd rfl (Or.inl rfl) aC)
   (ah (aJ (i:=1) iB.nd rfl (Or.inl rfl) (ar au aA (aa 1) aC))
   (ah (aQ (az b4 (λ_=>b6) (ar bJ (λ_=>bF) (aa 0) ag) ag (ay _)) (ai (aL (aE av aD aC (ar bJ (λ_=>bF) (ar cw (λ_=>dG) (aa 0) ag) ag) (λ_ _=>rfl)))) aG)
   (ai (aL (aE av aD (aa 1) (ar bJ (λ_=>bF) (ar cw (λ_=>dG) (aa 0) ag) ag) (λ_ _=>rfl)))))))
theorem oR {f:Addr} {fd:FuncData} (F:Fun K "_law_line" "_law_line" cX f fd) (T:Txt K mg):FnOk P w K mg base CX0 1 f fd ["_law_number"] (sp3 K mg d9):=by
 refine de (N:=["_law_number", "_law_many"]) (k:=0) (body:=gm) rfl rfl rfl F iF λcdv A outer s H E hr=>?_
 unfold gm;exact (ah (aJ (i:=1) iF.nd rfl (Or.inl rfl) (ar au aA ag (ar bJ (λ_=>bF) (aa 0) ag)))
   (ah (aQ (az (aZ hr.units) bo (ar bJ (λ_=>bF) (ar cw (λ_=>dG) (aa 0) ag) ag) ag (ay _)) (ai (aJ (i:=1) iF.nd rfl (Or.inl rfl) (ar au aA ag (ar bJ (λ_=>bF) (ar cw (λ_=>dG) (aa 0) ag) ag)))) aG)
   (ai (aL (ar au aA (ar au aA (ar lj lD aC (aa 1)) aC) (ar lj lD aC (aa 1)))))))
theorem ov {f:Addr} {fd:FuncData} (F:Fun K "_law_star" "_law_star" cV f fd) (T:Txt K mg):FnOk P w K mg base CX0 1 f fd ["_law_number"] (sp3 K mg d5):=by
 refine de (N:=["_law_number"]) (k:=0) (body:=gv) rfl rfl rfl F o4 λcdv A outer s H E hr=>?_
 unfold gv;exact (ah (aQ (az (aZ hr.units) bo (ar bJ (λ_=>bF) (aa 0) ag) ag (ay _)) (ai (aL (ar au aA (ar au aA aC (fR aC (ar fS hV (cu (ae aC ao)) (ar au aA ag (ar bJ (λ_=>bF) (ar cw (λ_=>dG) (aa 0) ag) ag))))) aC))) aG)
   (ai (aL (ar au aA (ar au aA (ar au aA aC (ar lj lD aC ag)) (ar lj lD aC (ar au aA ag (ar bJ (λ_=>bF) (ar cw (λ_=>dG) (aa 0) ag) ag)))) aC))))
theorem k6 {c:Const} {j:Nat} {p:Pos} {es:List Expr} {env:PySem.Env}:starEach (.Constant c j p :: es) env=(false,eval (.Constant c j p) env) :: starEach es env:=by rfl
theorem p9 {f:Addr} {fd:FuncData} (F:Fun K "_law_odd" "_law_odd" dQ f fd) (T:Txt K mg):FnOk P w K mg base CX0 1 f fd ["_law_number"] (sp3 K mg eU):=by
 refine de (N:=["_law_number", "_law_some"]) (k:=0) (body:=g7) rfl rfl rfl F kP λcdv A outer s H E hr=>?_
 unfold g7;refine ah ?_ ?_
 ·refine aJ (hs:=?hs) (hf:=?hf) (i:=1) ?a ?b ?c ?d
  case d =>
   refine bV ?_;refine cu ?_;refine ae aC ?_ k6;refine ae aC ?_ k6;refine ae aC ?_ k6;refine ae aC ?_ k6;refine ae aC ?_ k6;refine ae aC ?_ k6;refine ae aC ?_ k6;refine ae aC ?_ k6;refine ae aC ?_ k6;refine ae aC ?_ k6;refine ae aC ?_ k6;refine ae aC ?_ k6;exact ao
  case hs=>rfl
  case hf=>exact .inl rfl
  case a=>exact kP.nd
  case b=>rfl
  case c=>exact Or.inl rfl
 ·exact (ai (aL (aE av aD (aa 1) (ar bJ (λ_=>bF) (aa 0) ag) (λ_ _=>rfl))))
theorem k_ {f:Addr} {fd:FuncData} (F:Fun K "_law_is_name" "_law_is_name" bD f fd) (T:Txt K mg):FnOk P w K mg base CX0 1 f fd ["_law_word_here"] (sp3 K mg bK):=by
 refine de (N:=["_law_word_here", "_law_name", "_law_star_here", "_law_tall", "_law_sign_here"]) (k:=0) (body:=eF) rfl rfl rfl F dz λcdv A outer s H E hr=>?_
 unfold eF;exact (ah (AH (nN (aa 0) aC) (qm (n:=3) rfl (gN (br (i:=1) dz.nd rfl (Or.inl rfl)) (gN (br (i:=2) dz.nd rfl (Or.inl rfl)) (gN (br (i:=3) dz.nd rfl (Or.inl rfl)) ou)))))
   (ah (aQ (gX (ey (az iV (λ_=>jc) (bh aK a_ rfl T.z_len PySem.boot_len (ae (aa 1) ao)) ag (ay _)) (ey (az b4 (λ_=>b6) (bh aK a_ rfl T.z_len PySem.boot_len (ae (aa 1) ao)) ag (ay _)) (eg (gX (ku (az (aZ hr.units) bo (aa 2) aC (ay _)) (jo (az (gU hr.units) iY (bh aK a_ rfl T.z_len PySem.boot_len (ae (aa 3) ao)) ag (ay _))))))))) (ai (aL eW)) aG)
   (ah (gS rfl PassesOwn.never (oN (aa 1)) (br (i:=4) dz.nd rfl (Or.inl rfl)) (ai (aQ (az jf j6 (aa 4) aC rfl) (ai (aL eW)) aG)))
   (ai (aL (C3 (hZ (aZ hr.units) bo (aa 2) aC (ay _)) (oj (hZ oW rB (aa 3) aC rfl))))))))
theorem mI {f:Addr} {fd:FuncData} (F:Fun K "_law_depth" "_law_depth" b7 f fd) (T:Txt K mg):FnOk P w K mg base CX0 1 f fd ["_law_text"] (sp3 K mg cK):=by
 refine de (N:=["_law_text", "_law_most", "_law_now", "_law_sign_here"]) (k:=0) (body:=fO) rfl rfl rfl F dE λcdv A outer s H E hr=>?_
 unfold fO;exact (ah (aJ (i:=1) dE.nd rfl (Or.inl rfl) ag)
   (ah (aJ (i:=2) dE.nd rfl (Or.inl rfl) ag)
   (ah (gS rfl PassesOwn.never (oN (aa 0)) (br (i:=3) dE.nd rfl (Or.inl rfl)) (ah (aJ (i:=2) dE.nd rfl (Or.inl rfl) (ar gQ (λ_=>gH) (ar au aA (aa 2) (gM jq (λ_=>qE) rfl T.z_int jS (ae (hZ (aZ hr.units) bo (aa 3) aC (ay _)) ao))) (gM jq (λ_=>qE) rfl T.z_int jS (ae (hZ (aZ hr.units) bo (aa 3) aC (ay _)) ao))))
   (ai (aJ (i:=1) dE.nd rfl (Or.inl rfl) (bh (nI rfl) (λ_=>rL) rfl T.z_max PyProof.Rows.boot_max (ae (aa 1) (ae (aa 2) ao)))))))
   (ai (aL (aa 1))))))
theorem jr {f:Addr} {fd:FuncData} (F:Fun K "_law_word" "_law_word" cJ f fd) (T:Txt K mg) (C:Addr) (hC:mg "NoText" = some (.ref C)):WordOk P w K mg base f fd ["_law_error"] C [.str "refused",.int 1]:=by
 obtain ⟨c_DrawError,c_NoDeed,c_NoNode,c_NoPicture,c_NoPlace,c_NoText,c_NoTree,c_TooMany,m_DrawError,m_NoDeed,m_NoNode,m_NoPicture,m_NoPlace,m_NoText,m_NoTree,m_TooMany,x_NoText,x_NoTree,h_DrawError,u_NoText_DrawError,u_NoTree_DrawError,k_NoText_NoText,k_NoText_NoTree,k_NoTree_NoText,k_NoTree_NoTree,v_NoText_ValueError,v_NoTree_ValueError,t_NoText_NoNode_NoPicture_TooMany_NoDeed_NoPlace,t_NoTree_NoNode_NoPicture_TooMany_NoDeed_NoPlace⟩:=T.xs;cases m_NoText.symm.trans hC;refine rJ F j_ λcdv A outer s H ea oe hoc=>?_
 refine lH (b1:=true) (b2:=false) ?_ ?_ ?_ ?_ ?_ ?_ ?_ ?_ ?_
 ·exact rz ⟨x_NoText,Zf,hoc⟩ (λ_ h=>h) rfl (Or.inl rfl) rfl T.z_isinstance rfl T.z_ValueError jB v_NoText_ValueError
 ·exact rQ (Ds:=[c_NoNode,c_NoPicture,c_TooMany,c_NoDeed,c_NoPlace]) ⟨x_NoText,Zf,hoc⟩ (λ_ h=>h) rfl (Or.inl rfl) rfl T.z_isinstance (jy rfl m_NoNode (jy rfl m_NoPicture (jy rfl m_TooMany (jy rfl m_NoDeed (jy rfl m_NoPlace x9))))) (show 5<=9 by decide) t_NoText_NoNode_NoPicture_TooMany_NoDeed_NoPlace
 ·exact ll ⟨x_NoText,Zf,hoc⟩ (λ_ h=>h) rfl (Or.inl rfl) rfl T.z_isinstance rfl m_NoText k_NoText_NoText
 ·exact ll ⟨x_NoText,Zf,hoc⟩ (λ_ h=>h) rfl (Or.inl rfl) rfl T.z_isinstance rfl m_NoTree k_NoText_NoTree
 ·exact ⟨_,mz (bc lM (bc l8 c_))⟩
 ·rfl
 ·exact T.z_int
 ·exact jS
 ·rfl
theorem jx {f:Addr} {fd:FuncData} (F:Fun K "_law_word" "_law_word" cJ f fd) (T:Txt K mg) (C:Addr) (hC:mg "NoTree" = some (.ref C)):WordOk P w K mg base f fd ["_law_error"] C [.str "refused",.int 2]:=by
 obtain ⟨c_DrawError,c_NoDeed,c_NoNode,c_NoPicture,c_NoPlace,c_NoText,c_NoTree,c_TooMany,m_DrawError,m_NoDeed,m_NoNode,m_NoPicture,m_NoPlace,m_NoText,m_NoTree,m_TooMany,x_NoText,x_NoTree,h_DrawError,u_NoText_DrawError,u_NoTree_DrawError,k_NoText_NoText,k_NoText_NoTree,k_NoTree_NoText,k_NoTree_NoTree,v_NoText_ValueError,v_NoTree_ValueError,t_NoText_NoNode_NoPicture_TooMany_NoDeed_NoPlace,t_NoTree_NoNode_NoPicture_TooMany_NoDeed_NoPlace⟩:=T.xs;cases m_NoTree.symm.trans hC;refine rJ F j_ λcdv A outer s H ea oe hoc=>?_
 refine lH (b1:=false) (b2:=true) ?_ ?_ ?_ ?_ ?_ ?_ ?_ ?_ ?_
 ·exact rz ⟨x_NoTree,Zf,hoc⟩ (λ_ h=>h) rfl (Or.inl rfl) rfl T.z_isinstance rfl T.z_ValueError jB v_NoTree_ValueError
 ·exact rQ (Ds:=[c_NoNode,c_NoPicture,c_TooMany,c_NoDeed,c_NoPlace]) ⟨x_NoTree,Zf,hoc⟩ (λ_ h=>h) rfl (Or.inl rfl) rfl T.z_isinstance (jy rfl m_NoNode (jy rfl m_NoPicture (jy rfl m_TooMany (jy rfl m_NoDeed (jy rfl m_NoPlace x9))))) (show 5<=9 by decide) t_NoTree_NoNode_NoPicture_TooMany_NoDeed_NoPlace
 ·exact ll ⟨x_NoTree,Zf,hoc⟩ (λ_ h=>h) rfl (Or.inl rfl) rfl T.z_isinstance rfl m_NoText k_NoTree_NoText
 ·exact ll ⟨x_NoTree,Zf,hoc⟩ (λ_ h=>h) rfl (Or.inl rfl) rfl T.z_isinstance rfl m_NoTree k_NoTree_NoTree
 ·exact ⟨_,mz (bc lM (bc l8 c_))⟩
 ·rfl
 ·exact T.z_int
 ·exact jS
 ·rfl
theorem lU {f:Addr} {fd:FuncData} (F:Fun K "check_elder" "check_elder" bB f fd) (T:Txt K mg) {A1:Addr} {B1:FuncData} (a_1:Def K mg "is_on_way_up" bH ["rows", "start", "wanted"] A1 B1) (b_1:FnOk P w K mg base CX0 1 A1 B1 ["rows", "start", "wanted"] (sp3 K mg bZ)):FnOk P w K mg base CX0 2 f fd ["rows", "number"] (sp3 K mg fw):=by
 refine de (N:=["rows", "number", "elder"]) (k:=1) (body:=gJ) rfl rfl rfl F fA λcdv A outer s H E hr=>?_
 unfold gJ;exact (ah (aJ (i:=2) fA.nd rfl (Or.inl rfl) (aE av aD (aE av aD (aa 0) (aa 1) (λ_ _=>rfl)) ag (λ_ _=>rfl)))
   (ai (aQ (az (aZ hr.units) bo (aa 1) ag (ay _)) (ai (aQ (az (gU hr.units) iY (aa 2) (iw fL (λ_=>fI) ag) (ay _)) (ai dI) aG)) (ai (aQ (dU (c8 (aH b_1 (hr.mono (by decide)) rfl a_1.g a_1.F.kp a_1.b a7 (ae (aa 0) (ae (ar gQ (λ_=>gH) (aa 1) ag) (ae (aa 2) ao)))))) (ai dI) aG)))))
theorem lS {f:Addr} {fd:FuncData} (F:Fun K "check_elder" "check_elder" bB f fd) (T:Txt K mg) {A1:Addr} {B1:FuncData} (a_1:Def K mg "is_on_way_up" bH ["rows", "start", "wanted"] A1 B1) (b_1:FnOk P w K mg base CX0 1 A1 B1 ["rows", "start", "wanted"] (sp3 K mg bZ)):FnOk P w K mg base (CXE P w) 2 f fd ["rows", "number"] (sp3 K mg cS):=by
 refine oM (N:=["rows", "number", "elder"]) (k:=1) (body:=fE) rfl rfl rfl F fA λcdv A outer s H E hr=>?_
 obtain ⟨c_DrawError,c_NoDeed,c_NoNode,c_NoPicture,c_NoPlace,c_NoText,c_NoTree,c_TooMany,m_DrawError,m_NoDeed,m_NoNode,m_NoPicture,m_NoPlace,m_NoText,m_NoTree,m_TooMany,x_NoText,x_NoTree,h_DrawError,u_NoText_DrawError,u_NoTree_DrawError,k_NoText_NoText,k_NoText_NoTree,k_NoTree_NoText,k_NoTree_NoTree,v_NoText_ValueError,v_NoTree_ValueError,t_NoText_NoNode_NoPicture_TooMany_NoDeed_NoPlace,t_NoTree_NoNode_NoPicture_TooMany_NoDeed_NoPlace⟩:=T.xs;unfold fE;exact (ah (aJ (i:=2) fA.nd rfl (Or.inl rfl) (aE av aD (aE av aD (aa 0) (aa 1) (λ_ _=>rfl)) ag (λ_ _=>rfl)))
   (ai (aQ (az (aZ hr.units) bo (aa 1) ag (ay _)) (ai (aQ (az (gU hr.units) iY (aa 2) (iw fL (λ_=>fI) ag) (ay _)) (ai (dS Lv.of rfl rfl m_NoTree x_NoTree.ex)) aG)) (ai (aQ (dU (c8 (aH b_1 (hr.mono (by decide)) rfl a_1.g a_1.F.kp a_1.b a7 (ae (aa 0) (ae (ar gQ (λ_=>gH) (aa 1) ag) (ae (aa 2) ao)))))) (ai (dS Lv.of rfl rfl m_NoTree x_NoTree.ex)) aG)))))
theorem lR {f:Addr} {fd:FuncData} (F:Fun K "check_label" "check_label" bC f fd) (T:Txt K mg) {A2:Addr} {B2:FuncData} (a_2:Def K mg "is_label" bW ["text"] A2 B2) (b_2:FnOk P w K mg base CX0 1 A2 B2 ["text"] (sp3 K mg bR)):FnOk P w K mg base CX0 2 f fd ["label"] (sp3 K mg fj):=by
 refine de (N:=["label"]) (k:=1) (body:=gT) rfl rfl rfl F iT λcdv A outer s H E hr=>?_
 unfold gT;exact (ai (aQ (dU (c8 (aH b_2 (hr.mono (by decide)) rfl a_2.g a_2.F.kp a_2.b a7 (ae (aa 0) ao)))) (ai dI) aG))
theorem lP {f:Addr} {fd:FuncData} (F:Fun K "check_label" "check_label" bC f fd) (T:Txt K mg) {A2:Addr} {B2:FuncData} (a_2:Def K mg "is_label" bW ["text"] A2 B2) (b_2:FnOk P w K mg base CX0 1 A2 B2 ["text"] (sp3 K mg bR)):FnOk P w K mg base (CXE P w) 2 f fd ["label"] (sp3 K mg cU):=by
 refine oM (N:=["label"]) (k:=1) (body:=e_) rfl rfl rfl F iT λcdv A outer s H E hr=>?_
 obtain ⟨c_DrawError,c_NoDeed,c_NoNode,c_NoPicture,c_NoPlace,c_NoText,c_NoTree,c_TooMany,m_DrawError,m_NoDeed,m_NoNode,m_NoPicture,m_NoPlace,m_NoText,m_NoTree,m_TooMany,x_NoText,x_NoTree,h_DrawError,u_NoText_DrawError,u_NoTree_DrawError,k_NoText_NoText,k_NoText_NoTree,k_NoTree_NoText,k_NoTree_NoTree,v_NoText_ValueError,v_NoTree_ValueError,t_NoText_NoNode_NoPicture_TooMany_NoDeed_NoPlace,t_NoTree_NoNode_NoPicture_TooMany_NoDeed_NoPlace⟩:=T.xs;unfold e_;exact (ai (aQ (dU (c8 (aH b_2 (hr.mono (by decide)) rfl a_2.g a_2.F.kp a_2.b a7 (ae (aa 0) ao)))) (ai (dS Lv.of rfl rfl m_NoTree x_NoTree.ex)) aG))
theorem oA {f:Addr} {fd:FuncData} (F:Fun K "read_node" "read_node" cf f fd) (T:Txt K mg) {A2:Addr} {B2:FuncData} (a_2:Def K mg "is_label" bW ["text"] A2 B2) (b_2:FnOk P w K mg base CX0 1 A2 B2 ["text"] (sp3 K mg bR)):FnOk P w K mg base CX0 2 f fd ["elder", "part"] (sp3 K mg gA):=by
 refine de (N:=["elder", "part", "pieces"]) (k:=1) (body:=iI) rfl rfl rfl F gF λcdv A outer s H E hr=>?_
 unfold iI;exact (ah (aJ (i:=2) gF.nd rfl (Or.inl rfl) (nN (aa 1) aC))
   (ah (aQ (dU (c8 (aH b_2 (hr.mono (by decide)) rfl a_2.g a_2.F.kp a_2.b a7 (ae (aE av aD (aa 2) ag (λ_ _=>rfl)) ao)))) (ai dI) aG)
   (ah (aQ (az (aZ hr.units) bo (aE av aD (aa 2) ag (λ_ _=>rfl)) aC (ay _)) (ai (aL (gP (ae (aa 0) (ae (aE av aD (aa 2) ag (λ_ _=>rfl)) (ae ag ao)))))) aG)
   (ah (aQ (gX (ey (az (gU hr.units) iY (bh aK a_ rfl T.z_len PySem.boot_len (ae (aE av aD (aa 2) ag (λ_ _=>rfl)) ao)) ag (ay _)) (eg (az jf j6 (aE av aD (aa 2) ag (λ_ _=>rfl)) (ma rfl T.c_TALL_FIGURES) rfl)))) (ai dI) aG)
   (ai (aL (gP (ae (aa 0) (ae (aE av aD (aa 2) ag (λ_ _=>rfl)) (ae (gM nr (λ_=>qS) rfl T.z_int jS (ae (aE av aD (aa 2) ag (λ_ _=>rfl)) ao)) ao))))))))))
theorem oO {f:Addr} {fd:FuncData} (F:Fun K "read_node" "read_node" cf f fd) (T:Txt K mg) {A2:Addr} {B2:FuncData} (a_2:Def K mg "is_label" bW ["text"] A2 B2) (b_2:FnOk P w K mg base CX0 1 A2 B2 ["text"] (sp3 K mg bR)):FnOk P w K mg base (CXE P w) 2 f fd ["elder", "part"] (sp3 K mg da):=by
 refine oM (N:=["elder", "part", "pieces"]) (k:=1) (body:=gj) rfl rfl rfl F gF λcdv A outer s H E hr=>?_
 obtain ⟨c_DrawError,c_NoDeed,c_NoNode,c_NoPicture,c_NoPlace,c_NoText,c_NoTree,c_TooMany,m_DrawError,m_NoDeed,m_NoNode,m_NoPicture,m_NoPlace,m_NoText,m_NoTree,m_TooMany,x_NoText,x_NoTree,h_DrawError,u_NoText_DrawError,u_NoTree_DrawError,k_NoText_NoText,k_NoText_NoTree,k_NoTree_NoText,k_NoTree_NoTree,v_NoText_ValueError,v_NoTree_ValueError,t_NoText_NoNode_NoPicture_TooMany_NoDeed_NoPlace,t_NoTree_NoNode_NoPicture_TooMany_NoDeed_NoPlace⟩:=T.xs;unfold gj;exact (ah (aJ (i:=2) gF.nd rfl (Or.inl rfl) (nN (aa 1) aC))
   (ah (aQ (dU (c8 (aH b_2 (hr.mono (by decide)) rfl a_2.g a_2.F.kp a_2.b a7 (ae (aE av aD (aa 2) ag (λ_ _=>rfl)) ao)))) (ai (dS Lv.of rfl rfl m_NoText x_NoText.ex)) aG)
   (ah (aQ (az (aZ hr.units) bo (aE av aD (aa 2) ag (λ_ _=>rfl)) aC (ay _)) (ai (aL (gP (ae (aa 0) (ae (aE av aD (aa 2) ag (λ_ _=>rfl)) (ae ag ao)))))) aG)
   (ah (aQ (gX (ey (az (gU hr.units) iY (bh aK a_ rfl T.z_len PySem.boot_len (ae (aE av aD (aa 2) ag (λ_ _=>rfl)) ao)) ag (ay _)) (eg (az jf j6 (aE av aD (aa 2) ag (λ_ _=>rfl)) (ma rfl T.c_TALL_FIGURES) rfl)))) (ai (dS Lv.of rfl rfl m_NoText x_NoText.ex)) aG)
   (ai (aL (gP (ae (aa 0) (ae (aE av aD (aa 2) ag (λ_ _=>rfl)) (ae (gM nr (λ_=>qS) rfl T.z_int jS (ae (aE av aD (aa 2) ag (λ_ _=>rfl)) ao)) ao))))))))))
theorem oZ {f:Addr} {fd:FuncData} (F:Fun K "_law_tree" "_law_tree" cY f fd) (T:Txt K mg) {A9:Addr} {B9:FuncData} (a_9:Def K mg "_law_cell" cB ["_law_script", "_law_k"] A9 B9) (b_9:FnOk P w K mg base CX0 1 A9 B9 ["_law_script", "_law_k"] (sp3 K mg bQ)) {A11:Addr} {B11:FuncData} (a_11:Def K mg "_law_label" cC ["_law_number", "_law_most"] A11 B11) (b_11:FnOk P w K mg base CX0 1 A11 B11 ["_law_number", "_law_most"] (sp3 K mg dA)):FnOk P w K mg base CX0 2 f fd ["_law_script", "_law_start", "_law_many", "_law_most", "_law_deep"] (sp3 K mg fq):=by
 refine de (N:=["_law_script", "_law_start", "_law_many", "_law_most", "_law_deep", "_law_tree_here", "_law_way", "_law_k", "_law_number", "_law_keep"]) (k:=1) (body:=gE) rfl rfl rfl F b8 λcdv A outer s H E hr=>?_
 unfold gE;exact (ah (aJ (i:=5) b8.nd rfl (Or.inl rfl) (cu ao))
   (ah (aJ (i:=6) b8.nd rfl (Or.inl rfl) (bV (cu ao)))
   (ah (gS rfl PassesOwn.never (vp rfl T.z_range (aa 2)) (br (i:=7) b8.nd rfl (Or.inl rfl)) (ah (aJ (i:=8) b8.nd rfl (Or.inl rfl) (ar bJ (λ_=>bF) (ar fS hV (aH b_9 (hr.mono (by decide)) rfl a_9.g a_9.F.kp a_9.b a7 (ae (aa 0) (ae (ar au aA (aa 1) (aa 7)) ao))) ag) ag))
   (ah (aQ (az b4 (λ_=>b6) (aa 7) ag (ay _)) (ah (aJ (i:=9) b8.nd rfl (Or.inl rfl) (ar au aA ag (ar bJ (λ_=>bF) (aa 8) (bh aK a_ rfl T.z_len PySem.boot_len (ae (aa 6) ao)))))
   (ah (aQ (az (aZ hr.units) bo (ar bJ (λ_=>bF) (ar cw (λ_=>dG) (aa 8) ag) ag) ag (ay _)) (ai (aJ (i:=9) b8.nd rfl (Or.inl rfl) (bh aK a_ rfl T.z_len PySem.boot_len (ae (aa 6) ao)))) aG)
   (ah (aJ (i:=6) b8.nd rfl (Or.inl rfl) (bV (dP wg zF (aa 6) dH (a8 (bh (nH rfl) (λ_=>rl) rfl T.z_min PyProof.Rows.boot_min (ae (aa 9) (ae (aa 4) ao)))))))
   (ai (h_ 5 (bV (gP (ae (aE av aD (aa 6) (iw fL (λ_=>fI) ag) (λ_ _=>rfl)) (ae (bV (aH b_11 (hr.mono (by decide)) rfl a_11.g a_11.F.kp a_11.b a7 (ae (ar cw (λ_=>dG) (aa 8) ag) (ae (aa 3) ao)))) (ae (ar au aA ag (ar bJ (λ_=>bF) (ar cw (λ_=>dG) (aa 8) ag) ag)) ao)))))))))) (ai (h_ 5 (bV (gP (ae (iw fL (λ_=>fI) ag) (ae (bV (aH b_11 (hr.mono (by decide)) rfl a_11.g a_11.F.kp a_11.b a7 (ae (ar cw (λ_=>dG) (aa 8) ag) (ae (aa 3) ao)))) (ae (ar au aA ag (ar bJ (λ_=>bF) (ar cw (λ_=>dG) (aa 8) ag) ag)) ao))))))))
   (ai (aJ (i:=6) b8.nd rfl (Or.inl rfl) (bV (ar au aA (aa 6) (cu (ae (aa 7) ao)))))))))
   (ai (lA 5)))))
theorem kT {f:Addr} {fd:FuncData} (F:Fun K "_law_spoiled" "_law_spoiled" bS f fd) (T:Txt K mg) {A12:Addr} {B12:FuncData} (a_12:Def K mg "_law_sign" cW ["_law_number"] A12 B12) (b_12:FnOk P w K mg base CX0 1 A12 B12 ["_law_number"] (sp3 K mg fC)):FnOk P w K mg base CX0 2 f fd ["_law_text", "_law_cell_here"] (sp3 K mg cz):=by
 refine de (N:=["_law_text", "_law_cell_here", "_law_number", "_law_sign_here", "_law_at"]) (k:=1) (body:=eI) rfl rfl rfl F eE λcdv A outer s H E hr=>?_
 unfold eI;exact (ah (aJ (i:=2) eE.nd rfl (Or.inl rfl) (ar bJ (λ_=>bF) (ar fS hV (aa 1) ag) ag))
   (ah (aJ (i:=3) eE.nd rfl (Or.inl rfl) (bV (aH b_12 (hr.mono (by decide)) rfl a_12.g a_12.F.kp a_12.b a7 (ae (ar cw (λ_=>dG) (aa 2) ag) ao))))
   (ah (aJ (i:=4) eE.nd rfl (Or.inl rfl) (ar bJ (λ_=>bF) (ar cw (λ_=>dG) (aa 2) ag) (ar au aA (bh aK a_ rfl T.z_len PySem.boot_len (ae (aa 0) ao)) ag)))
   (ah (aQ (az (aZ hr.units) bo (ar bJ (λ_=>bF) (aa 2) ag) ag (ay _)) (ai (aL (ar au aA (ar au aA (dP cx cy (aa 0) dH (a8 (aa 4))) (aa 3)) (dP cx cy (aa 0) (a8 (aa 4)) dH)))) aG)
   (ah (aQ (az (aZ hr.units) bo (ar bJ (λ_=>bF) (aa 2) ag) ag (ay _)) (ai (aL (ar au aA (dP cx cy (aa 0) dH (a8 (aa 4))) (dP cx cy (aa 0) (a8 (ar au aA (aa 4) ag)) dH)))) aG)
   (ai (aL (ar au aA (ar au aA (dP cx cy (aa 0) dH (a8 (aa 4))) (aa 3)) (dP cx cy (aa 0) (a8 (ar au aA (aa 4) ag)) dH)))))))))
theorem k9 {f:Addr} {fd:FuncData} (F:Fun K "_law_is_done" "_law_is_done" bT f fd) (T:Txt K mg) {A16:Addr} {B16:FuncData} (a_16:Def K mg "_law_is_name" bD ["_law_word_here"] A16 B16) (b_16:FnOk P w K mg base CX0 1 A16 B16 ["_law_word_here"] (sp3 K mg bK)):FnOk P w K mg base CX0 2 f fd ["_law_word_here"] (sp3 K mg bY):=by
 refine de (N:=["_law_word_here"]) (k:=1) (body:=eD) rfl rfl rfl F kW λcdv A outer s H E hr=>?_
 unfold eD;exact (ah (aQ (az (aZ hr.units) bo (dP cx cy (aa 0) (a8 (iw fL (λ_=>fI) ag)) dH) aC (ay _)) (ai (aL (aH b_16 (hr.mono (by decide)) rfl a_16.g a_16.F.kp a_16.b a7 (ae (dP cx cy (aa 0) dH (a8 (iw fL (λ_=>fI) ag))) ao)))) aG)
   (ai (aL (aH b_16 (hr.mono (by decide)) rfl a_16.g a_16.F.kp a_16.b a7 (ae (aa 0) ao)))))
theorem mH {f:Addr} {fd:FuncData} (F:Fun K "_law_kinds" "_law_kinds" cI f fd) (T:Txt K mg) {A10:Addr} {B10:FuncData} (a_10:Def K mg "_law_whole" cG ["_law_found"] A10 B10) (b_10:FnOk P w K mg base CX0 1 A10 B10 ["_law_found"] (sp3 K mg cL)):FnOk P w K mg base CX0 2 f fd ["_law_found"] (sp3 K mg ez):=by
 refine de (N:=["_law_found", "_law_k", "_law_row", "_law_at"]) (k:=1) (body:=fN) rfl rfl rfl F ei λcdv A outer s H E hr=>?_
 unfold fN;exact (ah (aQ (gX (ey (dU (c8 (jG rfl T.z_isinstance rfl T.z_list nW (aa 0)))) (eg (az (aZ hr.units) bo (aa 0) (cu ao) (ay _))))) (ai (aL eW)) aG)
   (ah (gS rfl PassesOwn.never (vp rfl T.z_range (bh aK a_ rfl T.z_len PySem.boot_len (ae (aa 0) ao))) (br (i:=1) ei.nd rfl (Or.inl rfl)) (ah (aJ (i:=2) ei.nd rfl (Or.inl rfl) (aE av aD (aa 0) (aa 1) (λ_ _=>rfl)))
   (ah (aQ (gX (ey (dU (c8 (jG rfl T.z_isinstance rfl T.z_tuple uO (aa 2)))) (ey (az (gU hr.units) iY (bh aK a_ rfl T.z_len PySem.boot_len (ae (aa 2) ao)) ag (ay _)) (ey (dU (c8 (aH b_10 (hr.mono (by decide)) rfl a_10.g a_10.F.kp a_10.b a7 (ae (aE av aD (aa 2) ag (λ_ _=>rfl)) ao)))) (eg (dU (c8 (jG rfl T.z_isinstance rfl T.z_str fZ (aE av aD (aa 2) ag (λ_ _=>rfl)))))))))) (ai (aL eW)) aG)
   (ah (aQ (gX (ey (dU (c8 (aH b_10 (hr.mono (by decide)) rfl a_10.g a_10.F.kp a_10.b a7 (ae (aE av aD (aa 2) ag (λ_ _=>rfl)) ao)))) (ey (az CK (λ_=>Fx) (aE av aD (aa 2) ag (λ_ _=>rfl)) (aa 1) (ay _)) (eg (az iV (λ_=>jc) (aE av aD (aa 2) ag (λ_ _=>rfl)) (ar gQ (λ_=>gH) (bh (nH rfl) (λ_=>rl) rfl T.z_min PyProof.Rows.boot_min (ae (aa 1) (ae ag ao))) ag) (ay _)))))) (ai (aL eW)) aG)
   (ah (aJ (i:=3) ei.nd rfl (Or.inl rfl) (ar gQ (λ_=>gH) (aa 1) ag))
   (ah (ix PassesOwn.never (az b4 (λ_=>b6) (aa 3) (aE av aD (aa 2) ag (λ_ _=>rfl)) (ay _)) (ai (aJ (i:=3) ei.nd rfl (Or.inl rfl) (aE av aD (aE av aD (aa 0) (aa 3) (λ_ _=>rfl)) ag (λ_ _=>rfl)))))
   (ai (aQ (az (gU hr.units) iY (aa 3) (aE av aD (aa 2) ag (λ_ _=>rfl)) (ay _)) (ai (aL eW)) aG))))))))
   (ai (aL eW))))
theorem oH {f:Addr} {fd:FuncData} (F:Fun K "made_tree" "made_tree" cb f fd) (T:Txt K mg) {A19:Addr} {B19:FuncData} (a_19:Def K mg "check_elder" bB ["rows", "number"] A19 B19) (b_19:FnOk P w K mg base CX0 2 A19 B19 ["rows", "number"] (sp3 K mg fw)) (Gx_check_elder:FnOk P w K mg base (CXE P w) 2 A19 B19 ["rows", "number"] (sp3 K mg cS)) {A20:Addr} {B20:FuncData} (a_20:Def K mg "check_label" bC ["label"] A20 B20) (b_20:FnOk P w K mg base CX0 2 A20 B20 ["label"] (sp3 K mg fj)) (Gx_check_label:FnOk P w K mg base (CXE P w) 2 A20 B20 ["label"] (sp3 K mg cU)) {A3:Addr} {B3:FuncData} (a_3:Def K mg "check_tall" bP ["tall"] A3 B3) (b_3:FnOk P w K mg base CX0 1 A3 B3 ["tall"] (sp3 K mg fP)) (Gx_check_tall:FnOk P w K mg base (CXE P w) 1 A3 B3 ["tall"] (sp3 K mg dB)) {A4:Addr} {B4:FuncData} (a_4:Def K mg "node_levels" bO ["tree"] A4 B4) (b_4:FnOk P w K mg base CX0 1 A4 B4 ["tree"] (sp3 K mg cq)):FnOk P w K mg base CX0 3 f fd ["rows"] (sp3 K mg gw):=by
 refine de (N:=["rows", "number", "row"]) (k:=2) (body:=iE) rfl rfl rfl F d_ λcdv A outer s H E hr=>?_
 unfold iE;exact (ah (aQ (gX (ey (az iV (λ_=>jc) (bh aK a_ rfl T.z_len PySem.boot_len (ae (aa 0) ao)) ag (ay _)) (eg (az b4 (λ_=>b6) (bh aK a_ rfl T.z_len PySem.boot_len (ae (aa 0) ao)) (dO rfl T.c_MOST_NODES) (ay _))))) (ai dI) aG)
   (ah (gS rfl PassesOwn.never (qV rfl T.z_enumerate (aa 0)) (qm (n:=2) rfl (gN (br (i:=1) d_.nd rfl (Or.inl rfl)) (gN (br (i:=2) d_.nd rfl (Or.inl rfl)) ou))) (ah (g_ (aH b_19 (hr.mono (by decide)) rfl a_19.g a_19.F.kp a_19.b a7 (ae (aa 0) (ae (aa 1) ao))))
   (ah (g_ (aH b_20 (hr.mono (by decide)) rfl a_20.g a_20.F.kp a_20.b a7 (ae (aE av aD (aa 2) ag (λ_ _=>rfl)) ao)))
   (ai (g_ (aH b_3 (hr.mono (by decide)) rfl a_3.g a_3.F.kp a_3.b a7 (ae (aE av aD (aa 2) ag (λ_ _=>rfl)) ao)))))))
   (ah (aQ (az b4 (λ_=>b6) (bh (nD _ rfl rfl) rh rfl T.z_max PyProof.Rows.boot_max (ae (aH b_4 (hr.mono (by decide)) rfl a_4.g a_4.F.kp a_4.b a7 (ae (aa 0) ao)) ao)) (dO rfl T.c_GREATEST_LEVEL) (ay _)) (ai dI) aG)
   (ai (aL (gM (m_ _ rfl) tM rfl T.z_list nW (ae (aa 0) ao)))))))
theorem oX {f:Addr} {fd:FuncData} (F:Fun K "made_tree" "made_tree" cb f fd) (T:Txt K mg) {A19:Addr} {B19:FuncData} (a_19:Def K mg "check_elder" bB ["rows", "number"] A19 B19) (b_19:FnOk P w K mg base CX0 2 A19 B19 ["rows", "number"] (sp3 K mg fw)) (Gx_check_elder:FnOk P w K mg base (CXE P w) 2 A19 B19 ["rows", "number"] (sp3 K mg cS)) {A20:Addr} {B20:FuncData} (a_20:Def K mg "check_label" bC ["label"] A20 B20) (b_20:FnOk P w K mg base CX0 2 A20 B20 ["label"] (sp3 K mg fj)) (Gx_check_label:FnOk P w K mg base (CXE P w) 2 A20 B20 ["label"] (sp3 K mg cU)) {A3:Addr} {B3:FuncData} (a_3:Def K mg "check_tall" bP ["tall"] A3 B3) (b_3:FnOk P w K mg base CX0 1 A3 B3 ["tall"] (sp3 K mg fP)) (Gx_check_tall:FnOk P w K mg base (CXE P w) 1 A3 B3 ["tall"] (sp3 K mg dB)) {A4:Addr} {B4:FuncData} (a_4:Def K mg "node_levels" bO ["tree"] A4 B4) (b_4:FnOk P w K mg base CX0 1 A4 B4 ["tree"] (sp3 K mg cq)):FnOk P w K mg base (CXE P w) 3 f fd ["rows"] (sp3 K mg bI):=by
 refine oM (N:=["rows", "number", "row"]) (k:=2) (body:=gk) rfl rfl rfl F d_ λcdv A outer s H E hr=>?_
 obtain ⟨c_DrawError,c_NoDeed,c_NoNode,c_NoPicture,c_NoPlace,c_NoText,c_NoTree,c_TooMany,m_DrawError,m_NoDeed,m_NoNode,m_NoPicture,m_NoPlace,m_NoText,m_NoTree,m_TooMany,x_NoText,x_NoTree,h_DrawError,u_NoText_DrawError,u_NoTree_DrawError,k_NoText_NoText,k_NoText_NoTree,k_NoTree_NoText,k_NoTree_NoTree,v_NoText_ValueError,v_NoTree_ValueError,t_NoText_NoNode_NoPicture_TooMany_NoDeed_NoPlace,t_NoTree_NoNode_NoPicture_TooMany_NoDeed_NoPlace⟩:=T.xs;unfold gk;exact (ah (aQ (gX (ey (az iV (λ_=>jc) (bh aK a_ rfl T.z_len PySem.boot_len (ae (aa 0) ao)) ag (ay _)) (eg (az b4 (λ_=>b6) (bh aK a_ rfl T.z_len PySem.boot_len (ae (aa 0) ao)) (dO rfl T.c_MOST_NODES) (ay _))))) (ai (dS Lv.of rfl rfl m_NoTree x_NoTree.ex)) aG)
   (ah (gS rfl PassesOwn.leaving (qV rfl T.z_enumerate (aa 0)) (qm (n:=2) rfl (gN (br (i:=1) d_.nd rfl (Or.inl rfl)) (gN (br (i:=2) d_.nd rfl (Or.inl rfl)) ou))) (ah (g_ (aH Gx_check_elder (hr.mono (by decide)) rfl a_19.g a_19.F.kp a_19.b Lv.of.pass (ae (aa 0) (ae (aa 1) ao))))
   (ah (g_ (aH Gx_check_label (hr.mono (by decide)) rfl a_20.g a_20.F.kp a_20.b Lv.of.pass (ae (aE av aD (aa 2) ag (λ_ _=>rfl)) ao)))
   (ai (g_ (aH Gx_check_tall (hr.mono (by decide)) rfl a_3.g a_3.F.kp a_3.b Lv.of.pass (ae (aE av aD (aa 2) ag (λ_ _=>rfl)) ao)))))))
   (ah (aQ (az b4 (λ_=>b6) (bh (nD _ rfl rfl) rh rfl T.z_max PyProof.Rows.boot_max (ae (aH b_4 (hr.mono (by decide)) rfl a_4.g a_4.F.kp a_4.b a7 (ae (aa 0) ao)) ao)) (dO rfl T.c_GREATEST_LEVEL) (ay _)) (ai (dS Lv.of rfl rfl m_NoTree x_NoTree.ex)) aG)
   (ai (aL (gM (m_ _ rfl) tM rfl T.z_list nW (ae (aa 0) ao)))))))
theorem ox {f:Addr} {fd:FuncData} (F:Fun K "read_rows" "read_rows" b_ f fd) (T:Txt K mg) {A5:Addr} {B5:FuncData} (a_5:Def K mg "node_end" dh ["text", "place"] A5 B5) (b_5:FnOk P w K mg base CX0 1 A5 B5 ["text", "place"] (sp3 K mg dJ)) {A21:Addr} {B21:FuncData} (a_21:Def K mg "read_node" cf ["elder", "part"] A21 B21) (b_21:FnOk P w K mg base CX0 2 A21 B21 ["elder", "part"] (sp3 K mg gA)) (Gx_read_node:FnOk P w K mg base (CXE P w) 2 A21 B21 ["elder", "part"] (sp3 K mg da)) {A6:Addr} {B6:FuncData} (a_6:Def K mg "check_depth" bA ["depth"] A6 B6) (b_6:FnOk P w K mg base CX0 1 A6 B6 ["depth"] (sp3 K mg fu)) (Gx_check_depth:FnOk P w K mg base (CXE P w) 1 A6 B6 ["depth"] (sp3 K mg cQ)) {A7:Addr} {B7:FuncData} (a_7:Def K mg "shut_brackets" bt ["text", "place", "opened"] A7 B7) (b_7:FnOk P w K mg base CX0 1 A7 B7 ["text", "place", "opened"] (spM K bL)) {A8:Addr} {B8:FuncData} (a_8:Def K mg "goes_on" dC ["text", "place", "depth"] A8 B8) (b_8:FnOk P w K mg base CX0 1 A8 B8 ["text", "place", "depth"] (sp3 K mg iz)) (Gx_goes_on:FnOk P w K mg base (CXE P w) 1 A8 B8 ["text", "place", "depth"] (sp3 K mg fF)):FnOk P w K mg base CX0 3 f fd ["text"] (sp3 K mg gz):=by
 refine de (N:=["text", "rows", "opened", "place", "unread", "end"]) (k:=2) (body:=iJ) rfl rfl rfl F aV λcdv A outer s H E hr=>?_
 unfold iJ;exact (ah (aJ (i:=1) aV.nd rfl (Or.inl rfl) (cu ao))
   (ah (aJ (i:=2) aV.nd rfl (Or.inl rfl) (cu (ae (iw fL (λ_=>fI) ag) ao)))
   (ah (aJ (i:=3) aV.nd rfl (Or.inl rfl) ag)
   (ah (aJ (i:=4) aV.nd rfl (Or.inl rfl) eW)
   (ah (ix PassesOwn.never (c8 (aa 4)) (ah (aJ (i:=5) aV.nd rfl (Or.inl rfl) (bV (aH b_5 (hr.mono (by decide)) rfl a_5.g a_5.F.kp a_5.b a7 (ae (aa 0) (ae (aa 3) ao)))))
   (ah (h_ 1 (bV (aH b_21 (hr.mono (by decide)) rfl a_21.g a_21.F.kp a_21.b a7 (ae (iy (aE av aD (aa 2) (iw fL (λ_=>fI) ag) (λ_ _=>rfl))) (ae (dP cx cy (aa 0) (a8 (aa 3)) (a8 (aa 5))) ao)))))
   (ah (aQ (az (aZ hr.units) bo (dP cx cy (aa 0) (a8 (aa 5)) (a8 (ar au aA (aa 5) ag))) aC (ay _)) (ah (h_ 2 (iy (ar gQ (λ_=>gH) (bh aK a_ rfl T.z_len PySem.boot_len (ae (aa 1) ao)) ag)))
   (ai (g_ (aH b_6 (hr.mono (by decide)) rfl a_6.g a_6.F.kp a_6.b a7 (ae (iy (ar gQ (λ_=>gH) (bh aK a_ rfl T.z_len PySem.boot_len (ae (aa 2) ao)) ag)) ao))))) (ah (u7 (i:=5) (i1:=0) (i2:=5) (j:=2) b_7 s_ (hr.mono (by decide)) rfl a_7.g a_7.F.kp a_7.b a7 (eS rfl (by first | exact Or.inl rfl | exact Or.inr (Or.inl rfl) | exact Or.inr (Or.inr rfl))) (eS rfl (by first | exact Or.inl rfl | exact Or.inr (Or.inl rfl) | exact Or.inr (Or.inr rfl))) (eS rfl (by first | exact Or.inl rfl | exact Or.inr (Or.inl rfl) | exact Or.inr (Or.inr rfl))) aV.nd rfl (Or.inl rfl))
   (ai (aJ (i:=4) aV.nd rfl (Or.inl rfl) (bV (aH b_8 (hr.mono (by decide)) rfl a_8.g a_8.F.kp a_8.b a7 (ae (aa 0) (ae (aa 5) (ae (iy (ar gQ (λ_=>gH) (bh aK a_ rfl T.z_len PySem.boot_len (ae (aa 2) ao)) ag)) ao)))))))))
   (ai (aJ (i:=3) aV.nd rfl (Or.inl rfl) (ar au aA (aa 5) ag)))))))
   (ai (lA 1)))))))
theorem n8 {f:Addr} {fd:FuncData} (F:Fun K "read_rows" "read_rows" b_ f fd) (T:Txt K mg) {A5:Addr} {B5:FuncData} (a_5:Def K mg "node_end" dh ["text", "place"] A5 B5) (b_5:FnOk P w K mg base CX0 1 A5 B5 ["text", "place"] (sp3 K mg dJ)) {A21:Addr} {B21:FuncData} (a_21:Def K mg "read_node" cf ["elder", "part"] A21 B21) (b_21:FnOk P w K mg base CX0 2 A21 B21 ["elder", "part"] (sp3 K mg gA)) (Gx_read_node:FnOk P w K mg base (CXE P w) 2 A21 B21 ["elder", "part"] (sp3 K mg da)) {A6:Addr} {B6:FuncData} (a_6:Def K mg "check_depth" bA ["depth"] A6 B6) (b_6:FnOk P w K mg base CX0 1 A6 B6 ["depth"] (sp3 K mg fu)) (Gx_check_depth:FnOk P w K mg base (CXE P w) 1 A6 B6 ["depth"] (sp3 K mg cQ)) {A7:Addr} {B7:FuncData} (a_7:Def K mg "shut_brackets" bt ["text", "place", "opened"] A7 B7) (b_7:FnOk P w K mg base CX0 1 A7 B7 ["text", "place", "opened"] (spM K bL)) {A8:Addr} {B8:FuncData} (a_8:Def K mg "goes_on" dC ["text", "place", "depth"] A8 B8) (b_8:FnOk P w K mg base CX0 1 A8 B8 ["text", "place", "depth"] (sp3 K mg iz)) (Gx_goes_on:FnOk P w K mg base (CXE P w) 1 A8 B8 ["text", "place", "depth"] (sp3 K mg fF)):FnOk P w K mg base (CXE P w) 3 f fd ["text"] (sp3 K mg c9):=by
 refine oM (N:=["text", "rows", "opened", "place", "unread", "end"]) (k:=2) (body:=gD) rfl rfl rfl F aV λcdv A outer s H E hr=>?_
 unfold gD;exact (ah (aJ (i:=1) aV.nd rfl (Or.inl rfl) (cu ao))
   (ah (aJ (i:=2) aV.nd rfl (Or.inl rfl) (cu (ae (iw fL (λ_=>fI) ag) ao)))
   (ah (aJ (i:=3) aV.nd rfl (Or.inl rfl) ag)
   (ah (aJ (i:=4) aV.nd rfl (Or.inl rfl) eW)
   (ah (ix PassesOwn.leaving (c8 (aa 4)) (ah (aJ (i:=5) aV.nd rfl (Or.inl rfl) (bV (aH b_5 (hr.mono (by decide)) rfl a_5.g a_5.F.kp a_5.b a7 (ae (aa 0) (ae (aa 3) ao)))))
   (ah (h_ 1 (bV (aH Gx_read_node (hr.mono (by decide)) rfl a_21.g a_21.F.kp a_21.b Lv.of.pass (ae (iy (aE av aD (aa 2) (iw fL (λ_=>fI) ag) (λ_ _=>rfl))) (ae (dP cx cy (aa 0) (a8 (aa 3)) (a8 (aa 5))) ao)))))
   (ah (aQ (az (aZ hr.units) bo (dP cx cy (aa 0) (a8 (aa 5)) (a8 (ar au aA (aa 5) ag))) aC (ay _)) (ah (h_ 2 (iy (ar gQ (λ_=>gH) (bh aK a_ rfl T.z_len PySem.boot_len (ae (aa 1) ao)) ag)))
   (ai (g_ (aH Gx_check_depth (hr.mono (by decide)) rfl a_6.g a_6.F.kp a_6.b Lv.of.pass (ae (iy (ar gQ (λ_=>gH) (bh aK a_ rfl T.z_len PySem.boot_len (ae (aa 2) ao)) ag)) ao))))) (ah (u7 (i:=5) (i1:=0) (i2:=5) (j:=2) b_7 s_ (hr.mono (by decide)) rfl a_7.g a_7.F.kp a_7.b a7 (eS rfl (by first | exact Or.inl rfl | exact Or.inr (Or.inl rfl) | exact Or.inr (Or.inr rfl))) (eS rfl (by first | exact Or.inl rfl | exact Or.inr (Or.inl rfl) | exact Or.inr (Or.inr rfl))) (eS rfl (by first | exact Or.inl rfl | exact Or.inr (Or.inl rfl) | exact Or.inr (Or.inr rfl))) aV.nd rfl (Or.inl rfl))
   (ai (aJ (i:=4) aV.nd rfl (Or.inl rfl) (bV (aH Gx_goes_on (hr.mono (by decide)) rfl a_8.g a_8.F.kp a_8.b Lv.of.pass (ae (aa 0) (ae (aa 5) (ae (iy (ar gQ (λ_=>gH) (bh aK a_ rfl T.z_len PySem.boot_len (ae (aa 2) ao)) ag)) ao)))))))))
   (ai (aJ (i:=3) aV.nd rfl (Or.inl rfl) (ar au aA (aa 5) ag)))))))
   (ai (lA 1)))))))
theorem mv {f:Addr} {fd:FuncData} (F:Fun K "_law_formed" "_law_formed" b9 f fd) (T:Txt K mg) {A16:Addr} {B16:FuncData} (a_16:Def K mg "_law_is_name" bD ["_law_word_here"] A16 B16) (b_16:FnOk P w K mg base CX0 1 A16 B16 ["_law_word_here"] (sp3 K mg bK)) {A24:Addr} {B24:FuncData} (a_24:Def K mg "_law_is_done" bT ["_law_word_here"] A24 B24) (b_24:FnOk P w K mg base CX0 2 A24 B24 ["_law_word_here"] (sp3 K mg bY)) {A17:Addr} {B17:FuncData} (a_17:Def K mg "_law_depth" b7 ["_law_text"] A17 B17) (b_17:FnOk P w K mg base CX0 1 A17 B17 ["_law_text"] (sp3 K mg cK)):FnOk P w K mg base CX0 3 f fd ["_law_text"] (sp3 K mg dR):=by
 refine de (N:=["_law_text", "_law_end", "_law_begin", "_law_word_here", "_law_cut"]) (k:=2) (body:=fv) rfl rfl rfl F cR λcdv A outer s H E hr=>?_
 unfold fv;exact (ah (aQ (gX (ey (az oW rB aC (aa 0) rfl) (ey (az b4 (λ_=>b6) (bh aK a_ rfl T.z_len PySem.boot_len (ae (aa 0) ao)) ag (ay _)) (eg (az b4 (λ_=>b6) (aH b_17 (hr.mono (by decide)) rfl a_17.g a_17.F.kp a_17.b a7 (ae (aa 0) ao)) ag (ay _)))))) (ai (aL eW)) aG)
   (ah (ix PassesOwn.never (az oW rB aC (aa 0) rfl) (ah (aJ (i:=1) cR.nd rfl (Or.inl rfl) (mX (op:=yU) PySem.F.slot_str_find PySem.F.type_str_find xQ (λ_ _ _ _=>.int _) (aa 0) aC))
   (ah (aJ (i:=2) cR.nd rfl (Or.inl rfl) (mX (op:=qi) PySem.F.slot_str_rfind PySem.F.type_str_rfind l3 (λ_ _ _ _=>.int _) (dP cx cy (aa 0) dH (a8 (aa 1))) aC))
   (ah (aQ (az iV (λ_=>jc) (aa 2) ag (ay _)) (ai (aL eW)) aG)
   (ah (gS rfl PassesOwn.never (lg (zP (dP cx cy (aa 0) (a8 (ar au aA (aa 2) ag)) (a8 (aa 1))) aC)) (br (i:=3) cR.nd rfl (Or.inl rfl)) (ai (aQ (dU (c8 (aH b_24 (hr.mono (by decide)) rfl a_24.g a_24.F.kp a_24.b a7 (ae (aa 3) ao)))) (ai (aL eW)) aG)))
   (ah (aJ (i:=4) cR.nd rfl (Or.inl rfl) (ar au aA (bh (nI rfl) (λ_=>rL) rfl T.z_max PyProof.Rows.boot_max (ae (mX (op:=qi) PySem.F.slot_str_rfind PySem.F.type_str_rfind l3 (λ_ _ _ _=>.int _) (dP cx cy (aa 0) dH (a8 (aa 2))) aC) (ae (mX (op:=qi) PySem.F.slot_str_rfind PySem.F.type_str_rfind l3 (λ_ _ _ _=>.int _) (dP cx cy (aa 0) dH (a8 (aa 2))) aC) ao))) ag))
   (ah (aQ (dU (c8 (aH b_16 (hr.mono (by decide)) rfl a_16.g a_16.F.kp a_16.b a7 (ae (dP cx cy (aa 0) (a8 (aa 4)) (a8 (aa 2))) ao)))) (ai (aL eW)) aG)
   (ai (aJ (i:=0) cR.nd rfl (Or.inl rfl) (ar au aA (ar au aA (dP cx cy (aa 0) dH (a8 (aa 2))) aC) (dP cx cy (aa 0) (a8 (ar au aA (aa 1) ag)) dH)))))))))))
   (ai (aL (aH b_24 (hr.mono (by decide)) rfl a_24.g a_24.F.kp a_24.b a7 (ae (aa 0) ao))))))
theorem og {f:Addr} {fd:FuncData} (F:Fun K "read_tree" "read_tree" cA f fd) (T:Txt K mg) {A26:Addr} {B26:FuncData} (a_26:Def K mg "made_tree" cb ["rows"] A26 B26) (b_26:FnOk P w K mg base CX0 3 A26 B26 ["rows"] (sp3 K mg gw)) (Gx_made_tree:FnOk P w K mg base (CXE P w) 3 A26 B26 ["rows"] (sp3 K mg bI)) {A27:Addr} {B27:FuncData} (a_27:Def K mg "read_rows" b_ ["text"] A27 B27) (b_27:FnOk P w K mg base CX0 3 A27 B27 ["text"] (sp3 K mg gz)) (Gx_read_rows:FnOk P w K mg base (CXE P w) 3 A27 B27 ["text"] (sp3 K mg c9)):FnOk P w K mg base CX0 4 f fd ["text"] (sp3 K mg kf):=by
 refine de (N:=["text"]) (k:=3) (body:=iG) rfl rfl rfl F ko λcdv A outer s H E hr=>?_
 unfold iG;exact (ah (aQ (gX (ey (dU (c8 (jG rfl T.z_isinstance rfl T.z_str fZ (aa 0)))) (eg (az b4 (λ_=>b6) (bh aK a_ rfl T.z_len PySem.boot_len (ae (aa 0) ao)) (dO rfl T.c_MOST_SIGNS) (ay _))))) (ai dI) aG)
   (ai (aL (aH b_26 (hr.mono (by decide)) rfl a_26.g a_26.F.kp a_26.b a7 (ae (aH b_27 (hr.mono (by decide)) rfl a_27.g a_27.F.kp a_27.b a7 (ae (aa 0) ao)) ao)))))
theorem nZ {f:Addr} {fd:FuncData} (F:Fun K "read_tree" "read_tree" cA f fd) (T:Txt K mg) {A26:Addr} {B26:FuncData} (a_26:Def K mg "made_tree" cb ["rows"] A26 B26) (b_26:FnOk P w K mg base CX0 3 A26 B26 ["rows"] (sp3 K mg gw)) (Gx_made_tree:FnOk P w K mg base (CXE P w) 3 A26 B26 ["rows"] (sp3 K mg bI)) {A27:Addr} {B27:FuncData} (a_27:Def K mg "read_rows" b_ ["text"] A27 B27) (b_27:FnOk P w K mg base CX0 3 A27 B27 ["text"] (sp3 K mg gz)) (Gx_read_rows:FnOk P w K mg base (CXE P w) 3 A27 B27 ["text"] (sp3 K mg c9)):FnOk P w K mg base (CXE P w) 4 f fd ["text"] (sp3 K mg bp):=by
 refine oM (N:=["text"]) (k:=3) (body:=ef) rfl rfl rfl F ko λcdv A outer s H E hr=>?_
 obtain ⟨c_DrawError,c_NoDeed,c_NoNode,c_NoPicture,c_NoPlace,c_NoText,c_NoTree,c_TooMany,m_DrawError,m_NoDeed,m_NoNode,m_NoPicture,m_NoPlace,m_NoText,m_NoTree,m_TooMany,x_NoText,x_NoTree,h_DrawError,u_NoText_DrawError,u_NoTree_DrawError,k_NoText_NoText,k_NoText_NoTree,k_NoTree_NoText,k_NoTree_NoTree,v_NoText_ValueError,v_NoTree_ValueError,t_NoText_NoNode_NoPicture_TooMany_NoDeed_NoPlace,t_NoTree_NoNode_NoPicture_TooMany_NoDeed_NoPlace⟩:=T.xs;unfold ef;exact (ah (aQ (gX (ey (dU (c8 (jG rfl T.z_isinstance rfl T.z_str fZ (aa 0)))) (eg (az b4 (λ_=>b6) (bh aK a_ rfl T.z_len PySem.boot_len (ae (aa 0) ao)) (dO rfl T.c_MOST_SIGNS) (ay _))))) (ai (dS Lv.of rfl rfl m_NoText x_NoText.ex)) aG)
   (ai (aL (aH Gx_made_tree (hr.mono (by decide)) rfl a_26.g a_26.F.kp a_26.b Lv.of.pass (ae (aH Gx_read_rows (hr.mono (by decide)) rfl a_27.g a_27.F.kp a_27.b Lv.of.pass (ae (aa 0) ao)) ao)))))
theorem nU {f:Addr} {fd:FuncData} (F:Fun K "_law_read" "_law_read" cF f fd) (T:Txt K mg) {A29:Addr} {B29:FuncData} (a_29:Def K mg "read_tree" cA ["text"] A29 B29) (b_29:FnOk P w K mg base CX0 4 A29 B29 ["text"] (sp3 K mg kf)) (Gx_read_tree:FnOk P w K mg base (CXE P w) 4 A29 B29 ["text"] (sp3 K mg bp)) {A18:Addr} {B18:FuncData} (a_18:Def K mg "_law_word" cJ ["_law_error"] A18 B18) (W__law_word_NoText:∀C,mg "NoText" = some (.ref C)->WordOk P w K mg base A18 B18 ["_law_error"] C [.str "refused",.int 1]) (W__law_word_NoTree:∀C,mg "NoTree" = some (.ref C)->WordOk P w K mg base A18 B18 ["_law_error"] C [.str "refused",.int 2]):FnOk P w K mg base CX0 5 f fd ["_law_text"] (sp3 K mg bE):=by
 refine de (N:=["_law_text", "_law_found", "e"]) (k:=4) (body:=fg) rfl rfl rfl F gu λcdv A outer s H E hr=>?_
 obtain ⟨c_DrawError,c_NoDeed,c_NoNode,c_NoPicture,c_NoPlace,c_NoText,c_NoTree,c_TooMany,m_DrawError,m_NoDeed,m_NoNode,m_NoPicture,m_NoPlace,m_NoText,m_NoTree,m_TooMany,x_NoText,x_NoTree,h_DrawError,u_NoText_DrawError,u_NoTree_DrawError,k_NoText_NoText,k_NoText_NoTree,k_NoTree_NoText,k_NoTree_NoTree,v_NoText_ValueError,v_NoTree_ValueError,t_NoText_NoNode_NoPicture_TooMany_NoDeed_NoPlace,t_NoTree_NoNode_NoPicture_TooMany_NoDeed_NoPlace⟩:=T.xs;unfold fg;exact (ah (wq (tbl:=[("NoText",PyData.tuple [.str "refused",.int 1]),("NoTree",PyData.tuple [.str "refused",.int 2])]) Gx_read_tree (hr.mono (by decide)) rfl a_29.g a_29.F.kp a_29.b (λ_=>(ae (aa 0) ao)) rfl rfl gu.nd (j:=1) rfl rfl h_DrawError rfl m_DrawError (qz ⟨c_NoText,_,_,rfl,λF=>.cons (.str _) (.cons (.int _) .nil),m_NoText,u_NoText_DrawError,λpins σ H' ea Q E hca hfr hlen hq=>nJ (i:=2) (W__law_word_NoText _ m_NoText) (hr.mono (Zm _)) rfl a_18.g a_18.F.kp a_18.b rfl rfl hca hfr gu.nd rfl rfl hlen hq⟩ (qz ⟨c_NoTree,_,_,rfl,λF=>.cons (.str _) (.cons (.int _) .nil),m_NoTree,u_NoTree_DrawError,λpins σ H' ea Q E hca hfr hlen hq=>nJ (i:=2) (W__law_word_NoTree _ m_NoTree) (hr.mono (Zm _)) rfl a_18.g a_18.F.kp a_18.b rfl rfl hca hfr gu.nd rfl rfl hlen hq⟩ zl)))
   (ai (aL (gP (ae aC (ae (aa 1) ao))))))
theorem jW {f:Addr} {fd:FuncData} (F:Fun K "_law_text_of" "_law_text_of" ax f fd) (T:Txt K mg) {A31:Addr} {B31:FuncData} (a_31:Def K mg "_law_text_of" ax ["_law_tree_here", "_law_node"] A31 B31) (b_31:FnOk P w K mg base CX0 1 A31 B31 ["_law_tree_here", "_law_node"] (sp3 K mg dc)):FnOk P w K mg base CX0 2 f fd ["_law_tree_here", "_law_node"] (sp3 K mg du):=by
 refine de (N:=["_law_tree_here", "_law_node", "_law_text", "_law_below"]) (k:=1) (body:=eT) rfl rfl rfl F aw λcdv A outer s H E hr=>?_
 unfold eT;exact (ah (aJ (i:=2) aw.nd rfl (Or.inl rfl) (aE av aD (aE av aD (aa 0) (aa 1) (λ_ _=>rfl)) ag (λ_ _=>rfl)))
   (ah (aQ (az b4 (λ_=>b6) (aE av aD (aE av aD (aa 0) (aa 1) (λ_ _=>rfl)) ag (λ_ _=>rfl)) ag (ay _)) (ai (aJ (i:=2) aw.nd rfl (Or.inl rfl) (ar au aA (ar au aA (aa 2) aC) (gM ee (λ_=>gx) rfl T.z_str fZ (ae (aE av aD (aE av aD (aa 0) (aa 1) (λ_ _=>rfl)) ag (λ_ _=>rfl)) ao))))) aG)
   (ah (gp (i:=3) (sc:=(aq ax)) (outs:=[(0, "_law_tree_here"),(1, "_law_node")]) (is:=[0]) ["_law_child"] (λ_ _ _ q=>mK q) aw.nd rfl (Or.inl rfl) ⟨rfl,rfl,by decide +kernel,by decide +kernel,by decide +kernel,⟨⟨rfl,rfl⟩,⟨rfl,rfl⟩,trivial⟩⟩ rfl (by decide) (j8 rfl T.z_range (ar au aA (aa 1) ag) (bh aK a_ rfl T.z_len PySem.boot_len (ae (aa 0) ao))) (λ_ _ _ _ _=>(br (i:=0) (show List.Nodup (["_law_child", "_law_tree_here", "_law_node"]:List Str) by decide +kernel) rfl (Or.inl rfl))) (λ_ _ _ _ _=>(iC (az (aZ hr.units) bo (aE av aD (aE av aD (aa 1) (aa 0) (λ_ _=>rfl)) ag (λ_ _=>rfl)) (aa 2) (ay _)))) (λ_ _ _ _ _=>(bV (aH b_31 (hr.mono (by decide)) rfl a_31.g a_31.F.kp a_31.b a7 (ae (aa 1) (ae (aa 0) ao))))))
   (ah (aQ (az (aZ hr.units) bo (aa 3) (cu ao) (ay _)) (ai (aL (aa 2))) aG)
   (ai (aL (ar au aA (ar au aA (ar au aA (aa 2) aC) (fR aC (aa 3))) aC)))))))
theorem jP {f:Addr} {fd:FuncData} (F:Fun K "_law_text_of" "_law_text_of" ax f fd) (T:Txt K mg) {A31:Addr} {B31:FuncData} (a_31:Def K mg "_law_text_of" ax ["_law_tree_here", "_law_node"] A31 B31) (b_31:FnOk P w K mg base CX0 2 A31 B31 ["_law_tree_here", "_law_node"] (sp3 K mg du)):FnOk P w K mg base CX0 3 f fd ["_law_tree_here", "_law_node"] (sp3 K mg dr):=by
 refine de (N:=["_law_tree_here", "_law_node", "_law_text", "_law_below"]) (k:=2) (body:=eL) rfl rfl rfl F aw λcdv A outer s H E hr=>?_
 unfold eL;exact (ah (aJ (i:=2) aw.nd rfl (Or.inl rfl) (aE av aD (aE av aD (aa 0) (aa 1) (λ_ _=>rfl)) ag (λ_ _=>rfl)))
   (ah (aQ (az b4 (λ_=>b6) (aE av aD (aE av aD (aa 0) (aa 1) (λ_ _=>rfl)) ag (λ_ _=>rfl)) ag (ay _)) (ai (aJ (i:=2) aw.nd rfl (Or.inl rfl) (ar au aA (ar au aA (aa 2) aC) (gM ee (λ_=>gx) rfl T.z_str fZ (ae (aE av aD (aE av aD (aa 0) (aa 1) (λ_ _=>rfl)) ag (λ_ _=>rfl)) ao))))) aG)
   (ah (gp (i:=3) (sc:=(aq ax)) (outs:=[(0, "_law_tree_here"),(1, "_law_node")]) (is:=[0]) ["_law_child"] (λ_ _ _ q=>mK q) aw.nd rfl (Or.inl rfl) ⟨rfl,rfl,by decide +kernel,by decide +kernel,by decide +kernel,⟨⟨rfl,rfl⟩,⟨rfl,rfl⟩,trivial⟩⟩ rfl (by decide) (j8 rfl T.z_range (ar au aA (aa 1) ag) (bh aK a_ rfl T.z_len PySem.boot_len (ae (aa 0) ao))) (λ_ _ _ _ _=>(br (i:=0) (show List.Nodup (["_law_child", "_law_tree_here", "_law_node"]:List Str) by decide +kernel) rfl (Or.inl rfl))) (λ_ _ _ _ _=>(iC (az (aZ hr.units) bo (aE av aD (aE av aD (aa 1) (aa 0) (λ_ _=>rfl)) ag (λ_ _=>rfl)) (aa 2) (ay _)))) (λ_ _ _ _ _=>(bV (aH b_31 (hr.mono (by decide)) rfl a_31.g a_31.F.kp a_31.b a7 (ae (aa 1) (ae (aa 0) ao))))))
   (ah (aQ (az (aZ hr.units) bo (aa 3) (cu ao) (ay _)) (ai (aL (aa 2))) aG)
   (ai (aL (ar au aA (ar au aA (ar au aA (aa 2) aC) (fR aC (aa 3))) aC)))))))
theorem jL {f:Addr} {fd:FuncData} (F:Fun K "_law_text_of" "_law_text_of" ax f fd) (T:Txt K mg) {A31:Addr} {B31:FuncData} (a_31:Def K mg "_law_text_of" ax ["_law_tree_here", "_law_node"] A31 B31) (b_31:FnOk P w K mg base CX0 3 A31 B31 ["_law_tree_here", "_law_node"] (sp3 K mg dr)):FnOk P w K mg base CX0 4 f fd ["_law_tree_here", "_law_node"] (sp3 K mg di):=by
 refine de (N:=["_law_tree_here", "_law_node", "_law_text", "_law_below"]) (k:=3) (body:=eK) rfl rfl rfl F aw λcdv A outer s H E hr=>?_
 unfold eK;exact (ah (aJ (i:=2) aw.nd rfl (Or.inl rfl) (aE av aD (aE av aD (aa 0) (aa 1) (λ_ _=>rfl)) ag (λ_ _=>rfl)))
   (ah (aQ (az b4 (λ_=>b6) (aE av aD (aE av aD (aa 0) (aa 1) (λ_ _=>rfl)) ag (λ_ _=>rfl)) ag (ay _)) (ai (aJ (i:=2) aw.nd rfl (Or.inl rfl) (ar au aA (ar au aA (aa 2) aC) (gM ee (λ_=>gx) rfl T.z_str fZ (ae (aE av aD (aE av aD (aa 0) (aa 1) (λ_ _=>rfl)) ag (λ_ _=>rfl)) ao))))) aG)
   (ah (gp (i:=3) (sc:=(aq ax)) (outs:=[(0, "_law_tree_here"),(1, "_law_node")]) (is:=[0]) ["_law_child"] (λ_ _ _ q=>mK q) aw.nd rfl (Or.inl rfl) ⟨rfl,rfl,by decide +kernel,by decide +kernel,by decide +kernel,⟨⟨rfl,rfl⟩,⟨rfl,rfl⟩,trivial⟩⟩ rfl (by decide) (j8 rfl T.z_range (ar au aA (aa 1) ag) (bh aK a_ rfl T.z_len PySem.boot_len (ae (aa 0) ao))) (λ_ _ _ _ _=>(br (i:=0) (show List.Nodup (["_law_child", "_law_tree_here", "_law_node"]:List Str) by decide +kernel) rfl (Or.inl rfl))) (λ_ _ _ _ _=>(iC (az (aZ hr.units) bo (aE av aD (aE av aD (aa 1) (aa 0) (λ_ _=>rfl)) ag (λ_ _=>rfl)) (aa 2) (ay _)))) (λ_ _ _ _ _=>(bV (aH b_31 (hr.mono (by decide)) rfl a_31.g a_31.F.kp a_31.b a7 (ae (aa 1) (ae (aa 0) ao))))))
   (ah (aQ (az (aZ hr.units) bo (aa 3) (cu ao) (ay _)) (ai (aL (aa 2))) aG)
   (ai (aL (ar au aA (ar au aA (ar au aA (aa 2) aC) (fR aC (aa 3))) aC)))))))
theorem jI {f:Addr} {fd:FuncData} (F:Fun K "_law_text_of" "_law_text_of" ax f fd) (T:Txt K mg) {A31:Addr} {B31:FuncData} (a_31:Def K mg "_law_text_of" ax ["_law_tree_here", "_law_node"] A31 B31) (b_31:FnOk P w K mg base CX0 4 A31 B31 ["_law_tree_here", "_law_node"] (sp3 K mg di)):FnOk P w K mg base CX0 5 f fd ["_law_tree_here", "_law_node"] (sp3 K mg df):=by
 refine de (N:=["_law_tree_here", "_law_node", "_law_text", "_law_below"]) (k:=4) (body:=eJ) rfl rfl rfl F aw λcdv A outer s H E hr=>?_
 unfold eJ;exact (ah (aJ (i:=2) aw.nd rfl (Or.inl rfl) (aE av aD (aE av aD (aa 0) (aa 1) (λ_ _=>rfl)) ag (λ_ _=>rfl)))
   (ah (aQ (az b4 (λ_=>b6) (aE av aD (aE av aD (aa 0) (aa 1) (λ_ _=>rfl)) ag (λ_ _=>rfl)) ag (ay _)) (ai (aJ (i:=2) aw.nd rfl (Or.inl rfl) (ar au aA (ar au aA (aa 2) aC) (gM ee (λ_=>gx) rfl T.z_str fZ (ae (aE av aD (aE av aD (aa 0) (aa 1) (λ_ _=>rfl)) ag (λ_ _=>rfl)) ao))))) aG)
   (ah (gp (i:=3) (sc:=(aq ax)) (outs:=[(0, "_law_tree_here"),(1, "_law_node")]) (is:=[0]) ["_law_child"] (λ_ _ _ q=>mK q) aw.nd rfl (Or.inl rfl) ⟨rfl,rfl,by decide +kernel,by decide +kernel,by decide +kernel,⟨⟨rfl,rfl⟩,⟨rfl,rfl⟩,trivial⟩⟩ rfl (by decide) (j8 rfl T.z_range (ar au aA (aa 1) ag) (bh aK a_ rfl T.z_len PySem.boot_len (ae (aa 0) ao))) (λ_ _ _ _ _=>(br (i:=0) (show List.Nodup (["_law_child", "_law_tree_here", "_law_node"]:List Str) by decide +kernel) rfl (Or.inl rfl))) (λ_ _ _ _ _=>(iC (az (aZ hr.units) bo (aE av aD (aE av aD (aa 1) (aa 0) (λ_ _=>rfl)) ag (λ_ _=>rfl)) (aa 2) (ay _)))) (λ_ _ _ _ _=>(bV (aH b_31 (hr.mono (by decide)) rfl a_31.g a_31.F.kp a_31.b a7 (ae (aa 1) (ae (aa 0) ao))))))
   (ah (aQ (az (aZ hr.units) bo (aa 3) (cu ao) (ay _)) (ai (aL (aa 2))) aG)
   (ai (aL (ar au aA (ar au aA (ar au aA (aa 2) aC) (fR aC (aa 3))) aC)))))))
theorem jN {f:Addr} {fd:FuncData} (F:Fun K "_law_text_of" "_law_text_of" ax f fd) (T:Txt K mg) {A31:Addr} {B31:FuncData} (a_31:Def K mg "_law_text_of" ax ["_law_tree_here", "_law_node"] A31 B31) (b_31:FnOk P w K mg base CX0 5 A31 B31 ["_law_tree_here", "_law_node"] (sp3 K mg df)):FnOk P w K mg base CX0 6 f fd ["_law_tree_here", "_law_node"] (sp3 K mg c7):=by
 refine de (N:=["_law_tree_here", "_law_node", "_law_text", "_law_below"]) (k:=5) (body:=eR) rfl rfl rfl F aw λcdv A outer s H E hr=>?_
 unfold eR;exact (ah (aJ (i:=2) aw.nd rfl (Or.inl rfl) (aE av aD (aE av aD (aa 0) (aa 1) (λ_ _=>rfl)) ag (λ_ _=>rfl)))
   (ah (aQ (az b4 (λ_=>b6) (aE av aD (aE av aD (aa 0) (aa 1) (λ_ _=>rfl)) ag (λ_ _=>rfl)) ag (ay _)) (ai (aJ (i:=2) aw.nd rfl (Or.inl rfl) (ar au aA (ar au aA (aa 2) aC) (gM ee (λ_=>gx) rfl T.z_str fZ (ae (aE av aD (aE av aD (aa 0) (aa 1) (λ_ _=>rfl)) ag (λ_ _=>rfl)) ao))))) aG)
   (ah (gp (i:=3) (sc:=(aq ax)) (outs:=[(0, "_law_tree_here"),(1, "_law_node")]) (is:=[0]) ["_law_child"] (λ_ _ _ q=>mK q) aw.nd rfl (Or.inl rfl) ⟨rfl,rfl,by decide +kernel,by decide +kernel,by decide +kernel,⟨⟨rfl,rfl⟩,⟨rfl,rfl⟩,trivial⟩⟩ rfl (by decide) (j8 rfl T.z_range (ar au aA (aa 1) ag) (bh aK a_ rfl T.z_len PySem.boot_len (ae (aa 0) ao))) (λ_ _ _ _ _=>(br (i:=0) (show List.Nodup (["_law_child", "_law_tree_here", "_law_node"]:List Str) by decide +kernel) rfl (Or.inl rfl))) (λ_ _ _ _ _=>(iC (az (aZ hr.units) bo (aE av aD (aE av aD (aa 1) (aa 0) (λ_ _=>rfl)) ag (λ_ _=>rfl)) (aa 2) (ay _)))) (λ_ _ _ _ _=>(bV (aH b_31 (hr.mono (by decide)) rfl a_31.g a_31.F.kp a_31.b a7 (ae (aa 1) (ae (aa 0) ao))))))
   (ah (aQ (az (aZ hr.units) bo (aa 3) (cu ao) (ay _)) (ai (aL (aa 2))) aG)
   (ai (aL (ar au aA (ar au aA (ar au aA (aa 2) aC) (fR aC (aa 3))) aC)))))))
theorem jF {f:Addr} {fd:FuncData} (F:Fun K "_law_text_of" "_law_text_of" ax f fd) (T:Txt K mg) {A31:Addr} {B31:FuncData} (a_31:Def K mg "_law_text_of" ax ["_law_tree_here", "_law_node"] A31 B31) (b_31:FnOk P w K mg base CX0 6 A31 B31 ["_law_tree_here", "_law_node"] (sp3 K mg c7)):FnOk P w K mg base CX0 7 f fd ["_law_tree_here", "_law_node"] (sp3 K mg dm):=by
 refine de (N:=["_law_tree_here", "_law_node", "_law_text", "_law_below"]) (k:=6) (body:=eP) rfl rfl rfl F aw λcdv A outer s H E hr=>?_
 unfold eP;exact (ah (aJ (i:=2) aw.nd rfl (Or.inl rfl) (aE av aD (aE av aD (aa 0) (aa 1) (λ_ _=>rfl)) ag (λ_ _=>rfl)))
   (ah (aQ (az b4 (λ_=>b6) (aE av aD (aE av aD (aa 0) (aa 1) (λ_ _=>rfl)) ag (λ_ _=>rfl)) ag (ay _)) (ai (aJ (i:=2) aw.nd rfl (Or.inl rfl) (ar au aA (ar au aA (aa 2) aC) (gM ee (λ_=>gx) rfl T.z_str fZ (ae (aE av aD (aE av aD (aa 0) (aa 1) (λ_ _=>rfl)) ag (λ_ _=>rfl)) ao))))) aG)
   (ah (gp (i:=3) (sc:=(aq ax)) (outs:=[(0, "_law_tree_here"),(1, "_law_node")]) (is:=[0]) ["_law_child"] (λ_ _ _ q=>mK q) aw.nd rfl (Or.inl rfl) ⟨rfl,rfl,by decide +kernel,by decide +kernel,by decide +kernel,⟨⟨rfl,rfl⟩,⟨rfl,rfl⟩,trivial⟩⟩ rfl (by decide) (j8 rfl T.z_range (ar au aA (aa 1) ag) (bh aK a_ rfl T.z_len PySem.boot_len (ae (aa 0) ao))) (λ_ _ _ _ _=>(br (i:=0) (show List.Nodup (["_law_child", "_law_tree_here", "_law_node"]:List Str) by decide +kernel) rfl (Or.inl rfl))) (λ_ _ _ _ _=>(iC (az (aZ hr.units) bo (aE av aD (aE av aD (aa 1) (aa 0) (λ_ _=>rfl)) ag (λ_ _=>rfl)) (aa 2) (ay _)))) (λ_ _ _ _ _=>(bV (aH b_31 (hr.mono (by decide)) rfl a_31.g a_31.F.kp a_31.b a7 (ae (aa 1) (ae (aa 0) ao))))))
   (ah (aQ (az (aZ hr.units) bo (aa 3) (cu ao) (ay _)) (ai (aL (aa 2))) aG)
   (ai (aL (ar au aA (ar au aA (ar au aA (aa 2) aC) (fR aC (aa 3))) aC)))))))
theorem jU {f:Addr} {fd:FuncData} (F:Fun K "_law_text_of" "_law_text_of" ax f fd) (T:Txt K mg) {A31:Addr} {B31:FuncData} (a_31:Def K mg "_law_text_of" ax ["_law_tree_here", "_law_node"] A31 B31) (b_31:FnOk P w K mg base CX0 7 A31 B31 ["_law_tree_here", "_law_node"] (sp3 K mg dm)):FnOk P w K mg base CX0 8 f fd ["_law_tree_here", "_law_node"] (sp3 K mg dv):=by
 refine de (N:=["_law_tree_here", "_law_node", "_law_text", "_law_below"]) (k:=7) (body:=eN) rfl rfl rfl F aw λcdv A outer s H E hr=>?_
 unfold eN;exact (ah (aJ (i:=2) aw.nd rfl (Or.inl rfl) (aE av aD (aE av aD (aa 0) (aa 1) (λ_ _=>rfl)) ag (λ_ _=>rfl)))
   (ah (aQ (az b4 (λ_=>b6) (aE av aD (aE av aD (aa 0) (aa 1) (λ_ _=>rfl)) ag (λ_ _=>rfl)) ag (ay _)) (ai (aJ (i:=2) aw.nd rfl (Or.inl rfl) (ar au aA (ar au aA (aa 2) aC) (gM ee (λ_=>gx) rfl T.z_str fZ (ae (aE av aD (aE av aD (aa 0) (aa 1) (λ_ _=>rfl)) ag (λ_ _=>rfl)) ao))))) aG)
   (ah (gp (i:=3) (sc:=(aq ax)) (outs:=[(0, "_law_tree_here"),(1, "_law_node")]) (is:=[0]) ["_law_child"] (λ_ _ _ q=>mK q) aw.nd rfl (Or.inl rfl) ⟨rfl,rfl,by decide +kernel,by decide +kernel,by decide +kernel,⟨⟨rfl,rfl⟩,⟨rfl,rfl⟩,trivial⟩⟩ rfl (by decide) (j8 rfl T.z_range (ar au aA (aa 1) ag) (bh aK a_ rfl T.z_len PySem.boot_len (ae (aa 0) ao))) (λ_ _ _ _ _=>(br (i:=0) (show List.Nodup (["_law_child", "_law_tree_here", "_law_node"]:List Str) by decide +kernel) rfl (Or.inl rfl))) (λ_ _ _ _ _=>(iC (az (aZ hr.units) bo (aE av aD (aE av aD (aa 1) (aa 0) (λ_ _=>rfl)) ag (λ_ _=>rfl)) (aa 2) (ay _)))) (λ_ _ _ _ _=>(bV (aH b_31 (hr.mono (by decide)) rfl a_31.g a_31.F.kp a_31.b a7 (ae (aa 1) (ae (aa 0) ao))))))
   (ah (aQ (az (aZ hr.units) bo (aa 3) (cu ao) (ay _)) (ai (aL (aa 2))) aG)
   (ai (aL (ar au aA (ar au aA (ar au aA (aa 2) aC) (fR aC (aa 3))) aC)))))))
theorem jR {f:Addr} {fd:FuncData} (F:Fun K "_law_text_of" "_law_text_of" ax f fd) (T:Txt K mg) {A31:Addr} {B31:FuncData} (a_31:Def K mg "_law_text_of" ax ["_law_tree_here", "_law_node"] A31 B31) (b_31:FnOk P w K mg base CX0 8 A31 B31 ["_law_tree_here", "_law_node"] (sp3 K mg dv)):FnOk P w K mg base CX0 9 f fd ["_law_tree_here", "_law_node"] (sp3 K mg dj):=by
 refine de (N:=["_law_tree_here", "_law_node", "_law_text", "_law_below"]) (k:=8) (body:=eO) rfl rfl rfl F aw λcdv A outer s H E hr=>?_
 unfold eO;exact (ah (aJ (i:=2) aw.nd rfl (Or.inl rfl) (aE av aD (aE av aD (aa 0) (aa 1) (λ_ _=>rfl)) ag (λ_ _=>rfl)))
   (ah (aQ (az b4 (λ_=>b6) (aE av aD (aE av aD (aa 0) (aa 1) (λ_ _=>rfl)) ag (λ_ _=>rfl)) ag (ay _)) (ai (aJ (i:=2) aw.nd rfl (Or.inl rfl) (ar au aA (ar au aA (aa 2) aC) (gM ee (λ_=>gx) rfl T.z_str fZ (ae (aE av aD (aE av aD (aa 0) (aa 1) (λ_ _=>rfl)) ag (λ_ _=>rfl)) ao))))) aG)
   (ah (gp (i:=3) (sc:=(aq ax)) (outs:=[(0, "_law_tree_here"),(1, "_law_node")]) (is:=[0]) ["_law_child"] (λ_ _ _ q=>mK q) aw.nd rfl (Or.inl rfl) ⟨rfl,rfl,by decide +kernel,by decide +kernel,by decide +kernel,⟨⟨rfl,rfl⟩,⟨rfl,rfl⟩,trivial⟩⟩ rfl (by decide) (j8 rfl T.z_range (ar au aA (aa 1) ag) (bh aK a_ rfl T.z_len PySem.boot_len (ae (aa 0) ao))) (λ_ _ _ _ _=>(br (i:=0) (show List.Nodup (["_law_child", "_law_tree_here", "_law_node"]:List Str) by decide +kernel) rfl (Or.inl rfl))) (λ_ _ _ _ _=>(iC (az (aZ hr.units) bo (aE av aD (aE av aD (aa 1) (aa 0) (λ_ _=>rfl)) ag (λ_ _=>rfl)) (aa 2) (ay _)))) (λ_ _ _ _ _=>(bV (aH b_31 (hr.mono (by decide)) rfl a_31.g a_31.F.kp a_31.b a7 (ae (aa 1) (ae (aa 0) ao))))))
   (ah (aQ (az (aZ hr.units) bo (aa 3) (cu ao) (ay _)) (ai (aL (aa 2))) aG)
   (ai (aL (ar au aA (ar au aA (ar au aA (aa 2) aC) (fR aC (aa 3))) aC)))))))
theorem jT {f:Addr} {fd:FuncData} (F:Fun K "_law_text_of" "_law_text_of" ax f fd) (T:Txt K mg) {A31:Addr} {B31:FuncData} (a_31:Def K mg "_law_text_of" ax ["_law_tree_here", "_law_node"] A31 B31) (b_31:FnOk P w K mg base CX0 9 A31 B31 ["_law_tree_here", "_law_node"] (sp3 K mg dj)):FnOk P w K mg base CX0 10 f fd ["_law_tree_here", "_law_node"] (sp3 K mg gO):=by
 refine de (N:=["_law_tree_here", "_law_node", "_law_text", "_law_below"]) (k:=9) (body:=eQ) rfl rfl rfl F aw λcdv A outer s H E hr=>?_
 unfold eQ;exact (ah (aJ (i:=2) aw.nd rfl (Or.inl rfl) (aE av aD (aE av aD (aa 0) (aa 1) (λ_ _=>rfl)) ag (λ_ _=>rfl)))
   (ah (aQ (az b4 (λ_=>b6) (aE av aD (aE av aD (aa 0) (aa 1) (λ_ _=>rfl)) ag (λ_ _=>rfl)) ag (ay _)) (ai (aJ (i:=2) aw.nd rfl (Or.inl rfl) (ar au aA (ar au aA (aa 2) aC) (gM ee (λ_=>gx) rfl T.z_str fZ (ae (aE av aD (aE av aD (aa 0) (aa 1) (λ_ _=>rfl)) ag (λ_ _=>rfl)) ao))))) aG)
   (ah (gp (i:=3) (sc:=(aq ax)) (outs:=[(0, "_law_tree_here"),(1, "_law_node")]) (is:=[0]) ["_law_child"] (λ_ _ _ q=>mK q) aw.nd rfl (Or.inl rfl) ⟨rfl,rfl,by decide +kernel,by decide +kernel,by decide +kernel,⟨⟨rfl,rfl⟩,⟨rfl,rfl⟩,trivial⟩⟩ rfl (by decide) (j8 rfl T.z_range (ar au aA (aa 1) ag) (bh aK a_ rfl T.z_len PySem.boot_len (ae (aa 0) ao))) (λ_ _ _ _ _=>(br (i:=0) (show List.Nodup (["_law_child", "_law_tree_here", "_law_node"]:List Str) by decide +kernel) rfl (Or.inl rfl))) (λ_ _ _ _ _=>(iC (az (aZ hr.units) bo (aE av aD (aE av aD (aa 1) (aa 0) (λ_ _=>rfl)) ag (λ_ _=>rfl)) (aa 2) (ay _)))) (λ_ _ _ _ _=>(bV (aH b_31 (hr.mono (by decide)) rfl a_31.g a_31.F.kp a_31.b a7 (ae (aa 1) (ae (aa 0) ao))))))
   (ah (aQ (az (aZ hr.units) bo (aa 3) (cu ao) (ay _)) (ai (aL (aa 2))) aG)
   (ai (aL (ar au aA (ar au aA (ar au aA (aa 2) aC) (fR aC (aa 3))) aC)))))))
theorem nP {f:Addr} {fd:FuncData} (F:Fun K "_law_good" "_law_good" cZ f fd) (T:Txt K mg) {A31:Addr} {B31:FuncData} (a_31:Def K mg "_law_text_of" ax ["_law_tree_here", "_law_node"] A31 B31) (b_31:FnOk P w K mg base CX0 10 A31 B31 ["_law_tree_here", "_law_node"] (sp3 K mg bX)) {A17:Addr} {B17:FuncData} (a_17:Def K mg "_law_depth" b7 ["_law_text"] A17 B17) (b_17:FnOk P w K mg base CX0 1 A17 B17 ["_law_text"] (sp3 K mg cK)) {A28:Addr} {B28:FuncData} (a_28:Def K mg "_law_formed" b9 ["_law_text"] A28 B28) (b_28:FnOk P w K mg base CX0 3 A28 B28 ["_law_text"] (sp3 K mg dR)) {A30:Addr} {B30:FuncData} (a_30:Def K mg "_law_read" cF ["_law_text"] A30 B30) (b_30:FnOk P w K mg base CX0 5 A30 B30 ["_law_text"] (sp3 K mg bE)) {A25:Addr} {B25:FuncData} (a_25:Def K mg "_law_kinds" cI ["_law_found"] A25 B25) (b_25:FnOk P w K mg base CX0 2 A25 B25 ["_law_found"] (sp3 K mg ez)):FnOk P w K mg base CX0 11 f fd ["_law_text"] (sp3 K mg dZ):=by
 refine de (N:=["_law_text", "_law_found"]) (k:=10) (body:=d4) rfl rfl rfl F jZ λcdv A outer s H E hr=>?_
 unfold d4;exact (ah (aJ (i:=1) jZ.nd rfl (Or.inl rfl) (bV (aH b_30 (hr.mono (by decide)) rfl a_30.g a_30.F.kp a_30.b a7 (ae (aa 0) ao))))
   (ah (aQ (dU (c8 (aH b_28 (hr.mono (by decide)) rfl a_28.g a_28.F.kp a_28.b a7 (ae (aa 0) ao)))) (ai (aL (hZ (aZ hr.units) bo (aa 1) (gP (ae aC (ae ag ao))) (ay _)))) aG)
   (ah (aQ (gX (ey (az b4 (λ_=>b6) (ar au aA (mX (op:=uu) PySem.F.slot_str_count PySem.F.type_str_count pH (λ_ _ _ _=>.int _) (aa 0) aC) (mX (op:=uu) PySem.F.slot_str_count PySem.F.type_str_count pH (λ_ _ _ _=>.int _) (aa 0) aC)) ag (ay _)) (eg (az b4 (λ_=>b6) (aH b_17 (hr.mono (by decide)) rfl a_17.g a_17.F.kp a_17.b a7 (ae (aa 0) ao)) ag (ay _))))) (ai (aL (hZ (aZ hr.units) bo (aa 1) (gP (ae aC (ae ag ao))) (ay _)))) aG)
   (ai (aL (n_ (hZ (aZ hr.units) bo (aE av aD (aa 1) ag (λ_ _=>rfl)) aC (ay _)) (n_ (aH b_25 (hr.mono (by decide)) rfl a_25.g a_25.F.kp a_25.b a7 (ae (aE av aD (aa 1) ag (λ_ _=>rfl)) ao)) (oj (hZ (aZ hr.units) bo (aH b_31 (hr.mono (by decide)) rfl a_31.g a_31.F.kp a_31.b a7 (ae (aE av aD (aa 1) ag (λ_ _=>rfl)) (ae ag ao))) (aa 0) (ay _))))))))))
theorem AO {f:Addr} {fd:FuncData} (F:Fun K "law" "law" j7 f fd) (T:Txt K mg) {A9:Addr} {B9:FuncData} (a_9:Def K mg "_law_cell" cB ["_law_script", "_law_k"] A9 B9) (b_9:FnOk P w K mg base CX0 1 A9 B9 ["_law_script", "_law_k"] (sp3 K mg bQ)) {A22:Addr} {B22:FuncData} (a_22:Def K mg "_law_tree" cY ["_law_script", "_law_start", "_law_many", "_law_most", "_law_deep"] A22 B22) (b_22:FnOk P w K mg base CX0 2 A22 B22 ["_law_script", "_law_start", "_law_many", "_law_most", "_law_deep"] (sp3 K mg fq)) {A31:Addr} {B31:FuncData} (a_31:Def K mg "_law_text_of" ax ["_law_tree_here", "_law_node"] A31 B31) (b_31:FnOk P w K mg base CX0 10 A31 B31 ["_law_tree_here", "_law_node"] (sp3 K mg bX)) {A23:Addr} {B23:FuncData} (a_23:Def K mg "_law_spoiled" bS ["_law_text", "_law_cell_here"] A23 B23) (b_23:FnOk P w K mg base CX0 2 A23 B23 ["_law_text", "_law_cell_here"] (sp3 K mg cz)) {A13:Addr} {B13:FuncData} (a_13:Def K mg "_law_line" cX ["_law_number"] A13 B13) (b_13:FnOk P w K mg base CX0 1 A13 B13 ["_law_number"] (sp3 K mg d9)) {A14:Addr} {B14:FuncData} (a_14:Def K mg "_law_star" cV ["_law_number"] A14 B14) (b_14:FnOk P w K mg base CX0 1 A14 B14 ["_law_number"] (sp3 K mg d5)) {A15:Addr} {B15:FuncData} (a_15:Def K mg "_law_odd" dQ ["_law_number"] A15 B15) (b_15:FnOk P w K mg base CX0 1 A15 B15 ["_law_number"] (sp3 K mg eU)) {A30:Addr} {B30:FuncData} (a_30:Def K mg "_law_read" cF ["_law_text"] A30 B30) (b_30:FnOk P w K mg base CX0 5 A30 B30 ["_law_text"] (sp3 K mg bE)) {A32:Addr} {B32:FuncData} (a_32:Def K mg "_law_good" cZ ["_law_text"] A32 B32) (b_32:FnOk P w K mg base CX0 11 A32 B32 ["_law_text"] (sp3 K mg dZ)):FnOk P w K mg base CX0 12 f fd ["_law_script"] (sp3 K mg l9):=by
 refine de (N:=["_law_script", "_law_tree_here", "_law_text", "_law_number", "_law_some", "_law_one", "_law_thing"]) (k:=11) (body:=oG) rfl rfl rfl F jQ λcdv A outer s H E hr=>?_
 unfold oG;exact (ah (aJ (i:=1) jQ.nd rfl (Or.inl rfl) (bV (aH b_22 (hr.mono (by decide)) rfl a_22.g a_22.F.kp a_22.b a7 (ae (aa 0) (ae ag (ae (ar au aA ag (ar bJ (λ_=>bF) (aH b_9 (hr.mono (by decide)) rfl a_9.g a_9.F.kp a_9.b a7 (ae (aa 0) (ae ag ao))) ag)) (ae ag (ae ag ao))))))))
   (ah (aJ (i:=2) jQ.nd rfl (Or.inl rfl) (bV (aH b_31 (hr.mono (by decide)) rfl a_31.g a_31.F.kp a_31.b a7 (ae (aa 1) (ae ag ao)))))
   (ah (aJ (i:=3) jQ.nd rfl (Or.inl rfl) (ar bJ (λ_=>bF) (ar fS hV (aH b_9 (hr.mono (by decide)) rfl a_9.g a_9.F.kp a_9.b a7 (ae (aa 0) (ae ag ao))) ag) ag))
   (ah (aJ (i:=4) jQ.nd rfl (Or.inl rfl) (cu (ae (bV (aH b_23 (hr.mono (by decide)) rfl a_23.g a_23.F.kp a_23.b a7 (ae (aa 2) (ae (aH b_9 (hr.mono (by decide)) rfl a_9.g a_9.F.kp a_9.b a7 (ae (aa 0) (ae ag ao))) ao)))) (ae (bV (aH b_23 (hr.mono (by decide)) rfl a_23.g a_23.F.kp a_23.b a7 (ae (aa 2) (ae (aH b_9 (hr.mono (by decide)) rfl a_9.g a_9.F.kp a_9.b a7 (ae (aa 0) (ae ag ao))) ao)))) (ae (aa 2) ao)))))
   (ah (aQ (az (aZ hr.units) bo (ar bJ (λ_=>bF) (aa 3) ag) ag (ay _)) (ai (h_ 4 (bV (aH b_13 (hr.mono (by decide)) rfl a_13.g a_13.F.kp a_13.b a7 (ae (ar cw (λ_=>dG) (aa 3) ag) ao))))) aG)
   (ah (aQ (az (aZ hr.units) bo (ar bJ (λ_=>bF) (aa 3) ag) ag (ay _)) (ai (h_ 4 (bV (aH b_14 (hr.mono (by decide)) rfl a_14.g a_14.F.kp a_14.b a7 (ae (ar cw (λ_=>dG) (aa 3) ag) ao))))) aG)
   (ah (aQ (az (aZ hr.units) bo (ar bJ (λ_=>bF) (ar cw (λ_=>dG) (aa 3) ag) ag) ag (ay _)) (ai (h_ 4 (bV (aH b_15 (hr.mono (by decide)) rfl a_15.g a_15.F.kp a_15.b a7 (ae (ar cw (λ_=>dG) (aa 3) ag) ao))))) aG)
   (ah (yR 4 (gS rfl PassesOwn.never (lg (aa 4)) (br (i:=5) jQ.nd rfl (Or.inl rfl)) (ai (aQ (dU (c8 (aH b_32 (hr.mono (by decide)) rfl a_32.g a_32.F.kp a_32.b a7 (ae (aa 5) ao)))) (ai (aL eW)) aG))))
   (ah (gS rfl PassesOwn.never (lg (cu (ae Bi (ae ag (ae eW (ae (bV (cu (ae aC ao))) (ae (gP (ae aC ao)) ao))))))) (br (i:=6) jQ.nd rfl (Or.inl rfl)) (ai (aQ (az (gU hr.units) iY (aH b_30 (hr.mono (by decide)) rfl a_30.g a_30.F.kp a_30.b a7 (ae (aa 6) ao)) (gP (ae aC (ae ag ao))) (ay _)) (ai (aL eW)) aG)))
   (ai (aL (aH b_32 (hr.mono (by decide)) rfl a_32.g a_32.F.kp a_32.b a7 (ae (aa 2) ao)))))))))))))
end
noncomputable def wc:List Int->Int
 |[]=>0
 |a :: as=>nM a as
theorem uS {xs:List Int} (h:xs≠[]):nF [.list (xs.map PyData.int)]=.ok (.sh (.int (wc xs))):=by
 cases xs with
 |nil=>exact absurd rfl h
 |cons a as=>exact BL a as
theorem sx {xs:List Int} (h:xs≠[]):wc xs∈xs/\∀z∈xs,z<=wc xs:=by
 cases xs with
 |nil=>exact absurd rfl h
 |cons a as=>exact kA as a
noncomputable def chB (c:Nat):Bool:=decide (97<=c/\c<=122)
theorem Ao (k:Fin 128):inS ⟨#[k.val]⟩ (Str.ofString "abcdefghijklmnopqrstuvwxyz")=chB k.val:=by revert k;decide +kernel
theorem yJ {c:Nat} (h:c<128):inS ⟨#[c]⟩ "abcdefghijklmnopqrstuvwxyz" = chB c:=Ao ⟨c,h⟩
noncomputable def Asc (l:Str):Prop:=(∀c∈l.cps.toList,c<128)/\l.length<=1000
noncomputable def jw (l:Str):Bool:=decide (1<=(l.length:Int)/\(l.length:Int)<=9) && l.cps.toList.all chB
theorem xS {l:Str} (h:Asc l):(l.cps.all (·<128))=true:=by
 rw [<-Array.all_toList,List.all_eq_true];exact λc hc=>decide_eq_true (h.1 c hc)
theorem iS {l:Str} (h:Asc l):bR [.str l]=.ok (.sh (.bool (jw l))):=by
 unfold bR g5;have lb:(l.length<=BIG)=True:=aN h.2;have e1:eCh (eC (.int 1)) (eB cg (aj (af 0) aF)) (eC (.int 9)) [some (.sh (.str l))]=.ok (.sh (.bool (decide (1<=(l.length:Int)/\(l.length:Int)<=9)))) :=
  Gz rfl (iU _) (y:=.sh (.int (l.length:Int))) (by push_cast only [lb]) (iU _) rfl (iU _)
 have tx:iTx (af 0) [some (.sh (.str l))]=.ok (signs l):=by
  show (if l.cps.all (·<128)=true then R.ok (signs l) else .bad)=_
  rw [if_pos (xS h)]
 unfold jw;cases hd:decide (1<=(l.length:Int)/\(l.length:Int)<=9) with
 |false =>
  rw [hd]at e1;push_cast only [e1];rfl
 |true =>
  rw [hd]at e1;push_cast only [e1,tx];generalize hC:e8 _ _ _ _ _ _=rc
  have e:=zd hC (λc:Nat=>PyData.str ⟨#[c]⟩) (λc:Nat=>.sh (.bool (chB c))) l.cps.toList (by unfold signs;rfl) (by
   have:l.cps.toList.length=l.length:=(je l).symm;rw [this];exact of_eq_true lb) (by
   intro c hc;have:=yJ (h.1 c hc);push_cast only [pO,this])
  subst e;have e2:(l.cps.toList.map λc=>OD.sh (.bool (chB c))).map OD.er=(l.cps.toList.map chB).map PyData.bool:=by
   rw [Zi,Zi];exact Zs λc _=>iU _
  have e3:(l.cps.toList.map chB).all id=l.cps.toList.all chB:=by
   rw [List.all_map];rfl
  push_cast only [e2,Dg,e3,Bool.true_and]
noncomputable def fnd (ts:List Nd) (w:Int) (n:Nat):Bool:=if (n:Int)=w then true else if 0<=eOf ts n/\eOf ts n<n then fnd ts w (eOf ts n).toNat else false
termination_by n
decreasing_by lia
theorem iX (ts:List Nd) (w:Int) (n:Nat):fnd ts w n=if (n:Int)=w then true else if 0<=eOf ts n/\eOf ts n<n then fnd ts w (eOf ts n).toNat else false:=by rw [fnd]
theorem nz (ts:List Nd) (w:Int):∀m n:Nat,n<=m->fnd ts w n=true->0<=w/\w<=n:=by
 intro m
 induction m with
 |zero =>
  intro n hn h;have:n=0:=by lia
  subst this;rw [iX]at h;split at h
  ·lia
  ·split at h
   ·rename_i h2
    lia
   ·cases h
 |succ m ih =>
  intro n hn h;rw [iX]at h;split at h
  ·lia
  ·split at h
   ·rename_i h2
    have:=ih (eOf ts n).toNat (by lia) h
    lia
   ·cases h
noncomputable def Pre (ts:List Nd) (k:Nat):Prop:=∀i,i<k->-1<=eOf ts i/\eOf ts i<i
theorem zk (ts:List Nd) (n:Nat) (hn:n<ts.length) (hp:Pre ts (n+1)) (w:Int):bZ [.list (aW ts),.int (n:Int),.int w]=.ok (.sh (.bool (fnd ts w n))):=by
 unfold bZ eG;push_cast only [and_self];generalize hL:cM _ _ _=r
 refine oV hL (λm ρ=>∃z:Int,ρ=[some (.sh (.list (aW ts))),some (.sh (.int (n:Int))),some (.sh (.int w)),some (.sh (.int z))]/\-1<=z/\z<=n/\m=(z+1).toNat/\(z=-1->fnd ts w n=false)/\(∀q:Nat,z=q->fnd ts w n=fnd ts w q)) (n+1)
  ⟨(n:Int),rfl,by lia,by lia,by lia,λh=>by lia,λq h=>by rw [show n=q by lia]⟩
  (fun ρ=>∃z:Int,ρ=[some (.sh (.list (aW ts))),some (.sh (.int (n:Int))),some (.sh (.int w)),some (.sh (.int z))]/\decide (z=-1)=!(fnd ts w n)) ?_ ?_
 ·rintro m ρ ⟨z,rfl,z0,z1,rfl,h1,h2⟩
  by_cases hz:z=-1
  ·left
   refine ⟨by push_cast only [decide_eq_true hz],z,rfl,?_⟩
   rw [h1 hz,decide_eq_true hz];rfl
  ·obtain ⟨q,hq⟩:∃q:Nat,z=(q:Int):=⟨z.toNat,by lia⟩
   have e1:=h2 q hq;by_cases hw:z=w
   ·left
    refine ⟨by push_cast only [decide_eq_false hz,decide_eq_true hw],z,rfl,?_⟩
    rw [e1,iX,if_pos (by lia),decide_eq_false hz]
    rfl
   ·right
    obtain ⟨nd,hnd⟩:∃x,ts[q]?=some x:=⟨ts[q]'(by lia),by simp⟩
    have g1:=iv hnd;have pq:=hp q (by lia)
    have eo:eOf ts q=nd.e:=by unfold eOf;rw [hnd];rfl
    rw [eo]at pq;refine ⟨by push_cast only [decide_eq_false hz,decide_eq_false hw],?_⟩
    subst hq;push_cast only [g1];refine ⟨_,?_,nd.e,rfl,pq.1,by lia,rfl,λh=>?_,λq' h=>?_⟩
    ·lia
    ·rw [e1,iX,if_neg hw,if_neg (by lia)]
    ·rw [e1,iX,if_neg hw,eo,if_pos (by lia),h]
     rfl
 ·rintro ρ' rfl ⟨z,rfl,hz⟩
  push_cast only [hz];cases fnd ts w n <;> rfl
noncomputable def elB (ts:List Nd) (k:Nat):Bool:=if k=0 then decide (eOf ts 0=-1) else fnd ts (eOf ts k) (k-1)
noncomputable def mJ (ts:List Nd) (k:Nat):Bool:=elB ts k && (match ts[k]? with
 |some n=>jw n.l && decide (1<=n.t/\n.t<=9)
 |none=>false)
theorem qX {ts:List Nd} {k:Nat} {n:Nd} (h:ts[k]?=some n):mJ ts k=(elB ts k && (jw n.l && decide (1<=n.t/\n.t<=9))):=by
 unfold mJ;rw [h]
structure Valid (ts:List Nd):Prop where
 l0:1<=ts.length
 l1:ts.length<=40
 row:∀k,k<ts.length->mJ ts k=true
 lv:∀k v:Nat,(lvs ts)[k]?=some v->v<=8
theorem qo {ts:List Nd} {k:Nat} (h:mJ ts k=true):elB ts k=true:=by
 unfold mJ at h;rw [Zu]at h;exact h.1
theorem lG {ts:List Nd} {k:Nat} (h:elB ts k=true):(k=0->eOf ts k=-1)/\(0<k->0<=eOf ts k/\eOf ts k<k):=by
 unfold elB at h;by_cases h0:k=0
 ·subst h0
  rw [if_pos rfl]at h;exact ⟨λ_=>of_decide_eq_true h,λz=>absurd z (by lia)⟩
 ·rw [if_neg h0]at h
  have:=nz ts (eOf ts k) (k-1) (k-1) (Zm _) h;exact ⟨λz=>absurd z h0,λ_=>by lia⟩
theorem pre_of {ts:List Nd} {k:Nat} (h:∀i,i<k->mJ ts i=true):Pre ts k:=λi hi=>by
 have:=lG (qo (h i hi));by_cases h0:i=0
 ·have:=this.1 h0
  lia
 ·have:=this.2 (by lia)
  lia
theorem Cd {ts:List Nd} {k:Nat} {n:Nd} (h:ts[k]?=some n):eOf ts k=n.e:=by unfold eOf;rw [h];rfl
theorem Ce {ts:List Nd} (h:∀k,k<ts.length->mJ ts k=true):EL ts:=λk n hn=>by
 have hk:=(Zb.mp hn).1;have:=lG (qo (h k hk));rw [Cd hn]at this;refine ⟨this.1,λz=>(this.2 z).1,?_⟩
 by_cases h0:k=0
 ·have:=this.1 h0
  lia
 ·exact (this.2 (by lia)).2
noncomputable abbrev As (ts:List Nd):Prop:=∀n∈ts,Asc n.l
theorem tU {l:Str} (h:Asc l):PyData.strOk l=true:=by
 unfold PyData.strOk;rw [Array.all_eq_true'];intro c hc;have:=h.1 c (by simpa using hc)
 simp
 lia
theorem wO {n:Nd} (h:Asc n.l):lay 1 (ndD n):=mZ λx hx=>by
 simp only [Zn,List.not_mem_nil,or_false]at hx;rcases hx with rfl | rfl | rfl
 ·exact oo _
 ·exact oK (tU h)
 ·exact oo _
theorem layAs {ts:List Nd} (h:As ts):lay 2 (.list (aW ts)):=kn λx hx=>by
 unfold aW at hx;obtain ⟨n,hn,rfl⟩:=ZA.mp hx;exact wO (h n hn)
theorem zU {t:Int}:dB [.int t]=if 1<=t/\t<=9 then .ok (.sh .none) else .ex "NoTree" := by
 unfold dB fU;by_cases h1:t<1
 ·rw [if_neg (by lia)]
  push_cast only [decide_eq_true h1,cE,cO]
 ·by_cases h2:9<t
  ·rw [if_neg (by lia)]
   push_cast only [decide_eq_false h1,decide_eq_true h2,cE,cO]
  ·rw [if_pos (by lia)]
   push_cast only [decide_eq_false h1,decide_eq_false h2]
theorem wN {l:Str} (h:Asc l):cU [.str l]=if jw l=true then .ok (.sh .none) else .ex "NoTree" := by
 unfold cU e_;have e:=iS h;cases hb:jw l with
 |true =>
  rw [hb]at e;push_cast only [e]
 |false =>
  rw [hb]at e;push_cast only [e,cE,cO]
theorem wb {ts:List Nd} {k:Nat} (hk:k<ts.length) (hp:Pre ts k):cS [.list (aW ts),.int (k:Int)]=if elB ts k=true then .ok (.sh .none) else .ex "NoTree" := by
 unfold cS fE;obtain ⟨nd,hnd⟩:∃x,ts[k]?=some x:=⟨ts[k]'(by lia),by simp⟩
 have g1:=iv hnd;have eo:eOf ts k=nd.e:=by unfold eOf;rw [hnd];rfl
 by_cases h0:k=0
 ·subst h0
  unfold elB;rw [if_pos rfl,eo];rw [show ((0:Nat):Int)=0 from rfl]at g1 ⊢
  by_cases he:nd.e=-1
  ·push_cast only [g1,decide_eq_true he]
  ·push_cast only [g1,decide_eq_false he,cE,cO]
 ·have d0:decide ((k:Int)=0)=false:=decide_eq_false (by lia)
  have ek:(k:Int)-1=((k-1:Nat):Int):=by lia
  have wy:=zk ts (k-1) (by lia) (λi hi=>hp i (by lia)) nd.e
  unfold elB;rw [if_neg h0,eo];cases hf:fnd ts nd.e (k-1) with
  |true =>
   rw [hf]at wy;push_cast only [g1,d0,ek,wy]
  |false =>
   rw [hf]at wy;push_cast only [g1,d0,ek,wy,cE,cO]
theorem t8 (ts:List Nd) (ha:∀n∈ts,Asc n.l) (hl:ts.length<=1000):(Valid ts/\bI [.list (aW ts)]=.ok (.ol ((aW ts).map OD.sh)))\/(¬Valid ts/\bI [.list (aW ts)]=.ex "NoTree"):=by
 unfold bI gk;by_cases h1:(ts.length:Int)<1
 ·right
  refine ⟨λv=>by have:=v.l0;lia,?_⟩
  push_cast only [cP,decide_eq_true h1,cE,cN,cO]
 ·by_cases h2:(40:Int)<(ts.length:Int)
  ·right
   refine ⟨λv=>by have:=v.l1;lia,?_⟩
   have bg:(ts.length<=BIG)=True:=aN (by lia)
   push_cast only [cP,bg,decide_eq_false h1,decide_eq_true h2,cE,cN,cO]
  ·have hl:ts.length<=100:=by lia
   push_cast only [cP,decide_eq_false h1,decide_eq_false h2];generalize hL:bG _ _ _ _=r'
   refine zh hL (λi ρ=>(∀k,k<i->mJ ts k=true)/\∃v1 v2:Option OD,ρ=[some (.sh (.list (aW ts))),v1,v2]) (¬Valid ts) "NoTree" ⟨λk hk=>by lia,_,_,rfl⟩ ?_ ?_ ?_
   ·rintro i d ρ hd ⟨hr,v1,v2,rfl⟩
    obtain ⟨x,hx,rfl⟩:=mT hd;unfold aW at hx;rw [Za]at hx;obtain ⟨n,hn,rfl⟩:=Zo.mp hx;have hi:=(Zb.mp hn).1;have rb:=qX hn;have e1:=wb hi (pre_of hr);have e2:=wN (ha n (Zz hn));have e3:=zU (t:=n.t);have no:mJ ts i=false->¬Valid ts:=λh v=>by rw [v.row i hi]at h;cases h
    cases b1:elB ts i with
    |false =>
     rw [b1,if_neg (by simp)]at e1
     push_cast only [ndD,e1,cN,uy];exact no (by rw [rb,b1];rfl)
    |true =>
     rw [b1,if_pos rfl]at e1;cases b2:jw n.l with
     |false =>
      rw [b2,if_neg (by simp)]at e2
      push_cast only [ndD,e1,e2,cN,uy];exact no (by rw [rb,b1,b2];rfl)
     |true =>
      rw [b2,if_pos rfl]at e2;by_cases b3:1<=n.t/\n.t<=9
      ·rw [if_pos b3]at e3
       push_cast only [ndD,e1,e2,e3,Ea];refine ⟨λk hk=>?_,_,_,rfl⟩
       by_cases hk':k<i
       ·exact hr k hk'
       ·have:k=i:=by lia
        rw [this,rb,b1,b2,decide_eq_true b3];rfl
      ·rw [if_neg b3]at e3
       push_cast only [ndD,e1,e2,e3,cN,uy];exact no (by rw [rb,b1,b2,decide_eq_false b3];rfl)
   ·rintro ρ' rfl ⟨hr,v1,v2,rfl⟩
    have hr':∀k,k<ts.length->mJ ts k=true:=λk hk=>hr k (by
     unfold jz;rw [Zc,List.length_zipIdx,cP];exact hk)
    have nl:=lI ts (Ce hr') hl;have el:(k8 (lvs ts))=((lvs ts).map λk:Nat=>(k:Int)).map PyData.int:=by
     unfold k8;rw [Zi];rfl
    have ne:((lvs ts).map λk:Nat=>(k:Int))≠[]:=λz=>by
     have:=congrArg List.length z;rw [Zc,eZ]at this;simp at this
     rw [this]at h1;simp at h1
    have mx:=uS ne;rw [<-el]at mx;obtain ⟨m1,m2⟩:=sx ne;have bg:(ts.length<=BIG)=True:=aN (by lia)
    by_cases h8:(8:Int)<wc ((lvs ts).map λk:Nat=>(k:Int))
    ·right
     constructor
     ·intro v
      obtain ⟨w,hw,hw2⟩:=ZA.mp m1;obtain ⟨k,hk,hk2⟩:=List.mem_iff_getElem.mp hw;have:=v.lv k w (by rw [Zg hk,hk2])
      lia
     ·push_cast only [nl,dw,mx,decide_eq_true h8,cE,cN,cO]
    ·left
     constructor
     ·refine ⟨by lia,by lia,hr',λk v hv=>?_⟩
      have:=m2 (v:Int) (ZA.mpr ⟨v,Zz hv,rfl⟩)
      lia
     ·push_cast only [nl,dw,mx,decide_eq_false h8,cP,bg]
   ·rintro rfl hv
    right
    refine ⟨hv,?_⟩;push_cast only [cN,cO]
theorem jm {a b:Str} (h:a.cps.toList=b.cps.toList):a=b:=by
 cases a with | mk x=>cases b with | mk y=>exact congrArg Str.mk (Array.toList_inj.mp h)
noncomputable def cs (s:Str):List Nat:=s.cps.toList
noncomputable def sS (t:List Nat):Str:=⟨t.toArray⟩
theorem bN (t:List Nat):cs (sS t)=t:=by simp [cs,sS]
theorem nL (s:Str):sS (cs s)=s:=jm (bN (cs s))
theorem fH (a b:List Nat):sS a++sS b=sS (a++b):=by
 apply jm
 rw [lC];show cs (sS a)++cs (sS b)=cs (sS (a++b))
 rw [bN,bN,bN]
theorem aX (t:List Nat):(sS t).length=t.length:=by
 rw [je];exact congrArg List.length (bN t)
noncomputable def tlN (n:Nd):List Nat:=if 1<n.t then [42,48+n.t.toNat] else []
noncomputable def ntN (n:Nd):List Nat:=cs n.l++tlN n
noncomputable def isNil:F->Bool
 |.nil=>true
 |_=>false
section
variable (ts:List Nd)
noncomputable def tf:F->List Nat
 |.nil=>[]
 |.cons k c r=>ntN (eY ts k)++((match c with
  |.nil=>[]
  |c=>40 :: (tf c++[41]))++(match r with
  |.nil=>[]
  |r=>44 :: tf r))
noncomputable def kid (c:F):List Nat:=match c with
 |.nil=>[]
 |c=>40 :: (tf ts c++[41])
noncomputable def tlr (r:F):List Nat:=match r with
 |.nil=>[]
 |r=>44 :: tf ts r
variable {ts}
theorem d6 (k:Nat) (c r:F):tf ts (.cons k c r)=ntN (eY ts k)++(kid ts c++tlr ts r):=by
 cases c <;> cases r <;> rfl
theorem e7 (k:Nat) (c r:F):kid ts (.cons k c r)=40 :: (tf ts (.cons k c r)++[41]):=rfl
theorem fi (k:Nat) (c r:F):tlr ts (.cons k c r)=44 :: tf ts (.cons k c r):=rfl
theorem tL {n:Nd} (h:gY n):(ntN n).length<=11:=by
 unfold ntN tlN;have h1:(cs n.l).length=n.l.length:=(je _).symm;have:=h.1.2.1;rw [Zd,h1];split
 ·show _+2<=11;lia
 ·show _+0<=11;lia
theorem Ab (ok:∀n∈ts,gY n):∀f:F,(∀k∈F.pre f,k<ts.length)->(tf ts f).length+1<=14 * (F.pre f).length+1:=by
 intro f
 induction f with
 |nil=>intro _;exact Zm _
 |cons k c r ih1 ih2 =>
  intro h;rw [F.pre]at h;have hk:=h k Zf;have n1:=tL (ok _ (Zz (iN hk)));have i1:=ih1 λq m=>h q (Ze _ (Zv _ m))
  have i2:=ih2 λq m=>h q (Ze _ (Zp _ m))
  rw [d6,F.pre,Zq,Zd,Zd,Zd];have k1:(kid ts c).length<=(tf ts c).length+2:=by
   cases c with
   |nil=>exact Nat.zero_le _
   |cons a b d=>rw [e7,Zq,Zd,List.length_singleton];lia
  have k2:(tlr ts r).length<=(tf ts r).length+1:=by
   cases r with
   |nil=>exact Nat.zero_le _
   |cons a b d=>rw [fi,Zq];lia
  lia
end
theorem jV {a b:List Nat} (h:sS a=sS b):a=b:=by rw [<-bN a,h,bN]
theorem p8 (t:List Nat) (i j:Nat) (h1:i<=j) (h2:j<=t.length):Txt.slice (sS t) (some (i:Int)) (some (j:Int))=sS ((t.drop i).take (j-i)):=by
 have hl:(sS t).cps.toList=t:=bN t;have e:=beq_iff_eq.mp (PyProof.Rows.slice_closes (x:=sS t) (i:=(i:Int)) (j:=(j:Int)) (by rw [hl];lia))
 rw [hl,show ((i:Int)).toNat=i by lia,show ((j:Int)-(i:Int)).toNat=j-i by lia]at e
 exact e
theorem B_ (n:Nat):Builtin.Str.strSliceIndices (some (n:Int)) (some ((n:Int)+1)) 1 n=Builtin.Str.strSliceIndices (some (n:Int)) (some (n:Int)) 1 n:=by
 have h0:¬(n:Int)+1<0:=by lia
 have h1:¬((n:Int)<0):=by lia
 have h2:(1:Int) > 0:=by decide
 have h3:min ((n:Int)+1) (n:Int)=min (n:Int) (n:Int):=by lia
 simp only [Builtin.Str.strSliceIndices,h0,h1,h2,if_false,if_true,h3]
theorem BC (t:List Nat):Txt.slice (sS t) (some (t.length:Int)) (some ((t.length:Int)+1))=sS []:=by
 have hn:(sS t).length=t.length:=aX t;have e:Txt.slice (sS t) (some (t.length:Int)) (some ((t.length:Int)+1))=Txt.slice (sS t) (some (t.length:Int)) (some (t.length:Int)):=by
  unfold Txt.slice;rw [hn,B_]
 rw [e,p8 t _ _ (Zm _) (Zm _),Nat.sub_self,List.take_zero]
theorem GQ {t R:List Nat} {p:Nat} (h:t.drop p=R) (hp:p<=t.length):Txt.slice (sS t) (some (p:Int)) (some ((p:Int)+1))=sS (R.take 1):=by
 by_cases hc:p=t.length
 ·subst hc
  rw [BC,<-h,List.drop_length];rfl
 ·have e:=p8 t p (p+1) (by lia) (by lia)
  rw [show ((p+1:Nat):Int)=(p:Int)+1 by lia,show p+1-p=1 by lia,h]at e
  exact e
theorem vI {t R:List Nat} {p:Nat} (h:t.drop p=R) (hp:p<=t.length) {c:Nat} {s:Str} (hs:s=sS [c]):decide (Txt.slice (sS t) (some (p:Int)) (some ((p:Int)+1))=s)=decide (R.head?=some c):=by
 subst hs;rw [GQ h hp];cases R with
 |nil=>exact (decide_eq_false (λz=>by have:=jV z;cases this)).trans (decide_eq_false (λz=>by cases z)).symm
 |cons x R =>
  by_cases hx:x=c
  ·subst hx
   exact (decide_eq_true rfl).trans (decide_eq_true rfl).symm
  ·refine (decide_eq_false (λz=>hx ?_)).trans (decide_eq_false (λz=>hx ?_)).symm
   ·have:=jV z
    exact (List.cons.inj this).1
   ·exact Zx z
theorem s40:Str.ofString "(" = sS [40]:=by decide +kernel
theorem s41:Str.ofString ")" = sS [41]:=by decide +kernel
theorem s44:Str.ofString "," = sS [44]:=by decide +kernel
theorem s42:Str.ofString "*" = sS [42]:=by decide +kernel
theorem s00:Str.ofString "" = sS []:=by decide +kernel
noncomputable def spB (c:Nat):Bool:=decide (c=40\/c=41\/c=44)
theorem xG (k:Fin 128):inS ⟨#[k.val]⟩ (Str.ofString "(),")=spB k.val:=by revert k;decide +kernel
theorem tQ {c:Nat} (h:c<128):inS ⟨#[c]⟩ "()," = spB c:=xG ⟨c,h⟩
theorem xf {t w R:List Nat} {p k:Nat} (h:t.drop p=w++R):t[p+k]?=(w++R)[k]?:=by rw [<-h,List.getElem?_drop]
theorem pP {t w R:List Nat} {p:Nat} (h:t.drop p=w++R) (hp:p<=t.length) (hl:t.length<=600) (asc:∀c∈t,c<128) (hw:∀c∈w,spB c=false) (hR:∀c,R.head?=some c->spB c=true):dJ [.str (sS t),.int (p:Int)]=.ok (.sh (.int ((p+w.length:Nat):Int))):=by
 unfold dJ g9;have el:(sS t).length=t.length:=aX t;have lb:(t.length<=BIG)=True:=aN (by lia)
 have ec:(sS t).cps.toList=t:=bN t;have hlen:p+w.length+R.length=t.length:=by
  have:=congrArg List.length h;rw [ZD,Zd]at this
  lia
 push_cast only [and_self];generalize hL:cM _ _ _=r
 refine oV hL (λm ρ=>∃k:Nat,k<=w.length/\m=w.length-k/\ρ=[some (.sh (.str (sS t))),some (.sh (.int (p:Int))),some (.sh (.int ((p+k:Nat):Int)))]) w.length ⟨0,by lia,by lia,rfl⟩
  (fun ρ=>ρ=[some (.sh (.str (sS t))),some (.sh (.int (p:Int))),some (.sh (.int ((p+w.length:Nat):Int)))]) ?_ ?_
 ·rintro m ρ ⟨k,hk,rfl,rfl⟩
  have a0:=xf (k:=k) h;by_cases hkw:k<w.length
  ·right
   rw [List.getElem?_append_left hkw,Zg hkw]at a0;have a1:=hG a0;have i1:=tQ (asc _ (Zz a0));rw [hw _ (List.getElem_mem hkw)]at i1;have d1:decide (((p+k:Nat):Int)<(t.length:Int))=true:=decide_eq_true (by lia)
   refine ⟨by push_cast only [el,ec,lb,d1,a1,Option.map_some,m6,i1],?_⟩
   have s1:bb (((p+k:Nat):Int)+1)=true:=qu (by lia) (by lia)
   push_cast only [s1];exact ⟨_,by lia,k+1,by lia,rfl,rfl⟩
  ·left
   have hk2:k=w.length:=by lia
   subst hk2;refine ⟨?_,rfl⟩;cases hRc:R with
   |nil =>
    rw [hRc,List.length_nil]at hlen;have d1:decide (((p+w.length:Nat):Int)<(t.length:Int))=false:=decide_eq_false (by lia)
    push_cast only [el,ec,lb,d1]
   |cons c R' =>
    rw [hRc]at a0 hR hlen;rw [Zq]at hlen;rw [List.getElem?_append_right (Zm _),Nat.sub_self]at a0;have a1:=hG (v:=c) a0;have i1:=tQ (asc c (Zz a0));rw [hR c rfl]at i1;have d1:decide (((p+w.length:Nat):Int)<(t.length:Int))=true:=decide_eq_true (by lia)
    push_cast only [el,ec,lb,d1,a1,Option.map_some,m6,i1]
 ·rintro ρ' rfl rfl
  push_cast only [and_self]
theorem dg {t:Int} (h1:2<=t) (h2:t<=9):Str.ofString (toString t)=sS [48+t.toNat]/\PySem.intText? (sS [48+t.toNat])=some t/\inS (sS [48+t.toNat]) "23456789" = true:=by
 have:t=2\/t=3\/t=4\/t=5\/t=6\/t=7\/t=8\/t=9:=by lia
 rcases this with rfl | rfl | rfl | rfl | rfl | rfl | rfl | rfl <;> decide +kernel
theorem qM {l:List Nat} (h:∀c∈l,c≠42):Txt.partition (sS l) (sS [42])=(sS l,Str.empty,Str.empty):=by
 rcases PyProof.Rows.partition_whole (sS l) (sS [42]) with ⟨e,_⟩ | ⟨i,_,ha,_⟩
 ·exact e
 ·have m:=(PyProof.Rows.mem_iff_at (sS l) 42).mpr ⟨i,ha⟩
  exact absurd rfl (h 42 (by rw [<-bN l];exact m))
theorem wG {l:Str} (h:nq l):Asc l:=⟨λc hc=>by have:=h.2.2 c hc;lia,by have:=h.2.1;lia⟩
theorem Ef {l:Str} (h:nq l):jw l=true:=by
 unfold jw;rw [Zu];have:=h.1;have:=h.2.1;refine ⟨decide_eq_true (by lia),List.all_eq_true.mpr λc hc=>decide_eq_true (h.2.2 c hc)⟩
section
variable (ts:List Nd)
noncomputable def cl:List (Nat×F)->List Nat
 |[]=>[]
 | (_,r) :: s=>41 :: (tlr ts r++cl s)
end
noncomputable def vt:List (Nat×F)->List Nat
 |[]=>[]
 | (_,r) :: s=>F.pre r++vt s
noncomputable def Dn:List (Nat×F)->Int
 |[]=>-1
 | (k,_) :: _=>(k:Int)
noncomputable def Ck (e:Nat->Int):List (Nat×F)->Prop
 |[]=>True
 | (_,r) :: s=>F.Eld e (Dn s) r/\Ck e s
noncomputable def Bot:List (Nat×F)->Prop
 |[]=>True
 | (_,r) :: s=>(s=[]->r=F.nil)/\Bot s
theorem yz {t R:List Nat} {p:Nat} (h:t.drop p=R) (hp:p<=t.length) (hl:t.length<=600) (xs:List PyData) (hx:xs.length<=1000):bz (mF (.str (sS t)) (p:Int) xs)=.ok (decide (R.head?=some 41) && decide (1<(xs.length:Int))):=by
 unfold bz mF;have el:(sS t).length=t.length:=aX t;have lb:(t.length<=BIG)=True:=aN (by lia)
 have lx:(xs.length<=BIG)=True:=aN (by lia)
 have i1:=vI h hp s41;cases hd:decide (R.head?=some 41) with
 |false =>
  rw [hd]at i1;push_cast only [el,lb,lx,fm,i1,dw];rfl
 |true =>
  rw [hd]at i1;push_cast only [el,lb,lx,fm,i1,dw];rfl
theorem pA {ta:Ft} {d:PyData} {p:Int} {xs:List PyData} (m:Nat) (h:ta (mF d p xs)=.ok false):shR ta d m p xs=.ok (.int p,xs):=by
 cases m with
 |zero=>rw [shR,h]
 |succ m=>rw [shR,h]
theorem AG {ta:Ft} {d:PyData} {p:Int} {xs:List PyData} {m:Nat} (h:ta (mF d p xs)=.ok true) (hx:xs.length=m+1):shR ta d (m+1) p xs=shR ta d m (p+1) xs.dropLast:=by
 rw [shR,h];exact if_pos hx
theorem oT {n:Nd} (h:gY n):∀c∈ntN n,c<128/\spB c=false:=by
 intro c hc;unfold ntN at hc;rcases Zr.mp hc with hc | hc
 ·have:=h.1.2.2 c hc
  exact ⟨by lia,decide_eq_false (by lia)⟩
 ·unfold tlN at hc
  split at hc
  ·rcases Zn.mp hc with rfl | hc
   ·exact ⟨by lia,rfl⟩
   ·have:=h.2.2
    rw [List.mem_singleton]at hc;exact ⟨by lia,decide_eq_false (by lia)⟩
  ·cases hc
theorem BJ {ts:List Nd} (ok:∀n∈ts,gY n):∀f:F,(∀k∈F.pre f,k<ts.length)->∀c∈tf ts f,c<128:=by
 intro f
 induction f with
 |nil=>intro _ c hc;cases hc
 |cons k c r ih1 ih2 =>
  intro h x hx;rw [F.pre]at h;have hk:=h k Zf;rw [d6]at hx;rcases Zr.mp hx with hx | hx
  ·exact (oT (ok _ (Zz (iN hk))) x hx).1
  ·rcases Zr.mp hx with hx | hx
   ·have i1:=ih1 λq m=>h q (Ze _ (Zv _ m))
    cases c with
    |nil=>cases hx
    |cons a b d =>
     rw [e7]at hx;rcases Zn.mp hx with rfl | hx
     ·lia
     ·rcases Zr.mp hx with hx | hx
      ·exact i1 x hx
      ·rw [List.mem_singleton]at hx
       lia
   ·have i2:=ih2 λq m=>h q (Ze _ (Zp _ m))
    cases r with
    |nil=>cases hx
    |cons a b d =>
     rw [fi]at hx;rcases Zn.mp hx with rfl | hx
     ·lia
     ·exact i2 x hx
theorem gR {a m k:Nat} {L:List Nat} (h:k :: L=List.range' a m):k=a/\1<=m/\L=List.range' (a+1) (m-1):=by
 cases m with
 |zero=>cases h
 |succ m =>
  rw [List.range'_succ]at h;obtain ⟨h1,h2⟩:=List.cons.inj h;exact ⟨h1,by lia,h2⟩
theorem lJ {ts:List Nd} {k j:Nat}:j∈chN ts k ↔ j<ts.length/\eOf ts j=(k:Int):=by
 unfold chN;rw [List.mem_filter,ZF,decide_eq_true_eq]
theorem q0 {ts:List Nd} (he:EL ts) {k j:Nat} (h:j∈chN ts k):k<j/\j<ts.length:=by
 obtain ⟨h1,h2⟩:=lJ.mp h;obtain ⟨n,hn⟩:∃n,ts[j]?=some n:=⟨ts[j],by simp [h1]⟩
 have:=(he j n hn).2.2;rw [cT hn]at h2;exact ⟨by lia,h1⟩
noncomputable def lvN (ts:List Nd) (k:Nat):Nat:=((lvs ts)[k]?).getD 0
theorem nE {ts:List Nd} (he:EL ts) {j c:Nat} (h:c∈chN ts j):lvN ts c=lvN ts j+1:=by
 obtain ⟨c1,c2⟩:=lJ.mp h;have hg:=(q0 he h).1;obtain ⟨n,hn⟩:∃n,ts[c]?=some n:=⟨ts[c],by simp [c1]⟩
 rw [cT hn]at c2;unfold lvN;rw [oF hn];show dY _ n=_
 unfold dY;rw [if_neg (by lia),c2,Int.toNat_natCast,<-lF,List.getElem?_take_of_lt hg]
noncomputable def Dp (ts:List Nd) (d:Nat):Prop:=∀k,k<ts.length->lvN ts k<=d
theorem rC {ts us:List Nd} {k:Nat} (h:k<ts.length):lvN (ts++us) k=lvN ts k:=by
 unfold lvN;have:=lF (ts++us) ts.length;rw [List.take_left]at this;rw [<-this,List.getElem?_take_of_lt h]
theorem vn {ts:List Nd} (he:EL ts) (h0:0<ts.length):lvN ts 0=0:=by
 obtain ⟨n,hn⟩:∃n,ts[0]?=some n:=⟨ts[0],by simp [h0]⟩
 unfold lvN;rw [oF hn];show dY _ n=0
 unfold dY;rw [if_pos ((he 0 n hn).1 rfl)]
theorem t9 {deep:Nat} {ts:List Nd} {way:List Int} (g:Grown deep ts way):(∀(i:Nat) (x:Int),way[i]?=some x->lvN ts x.toNat=i)/\Dp ts deep:=by
 induction g with
 |@root n h e =>
  have z:lvN [n] 0=0:=by
   unfold lvN;rw [oF (ts:=[n]) (i:=0) rfl];show dY _ n=0
   unfold dY;rw [if_pos e]
  refine ⟨λi x hx=>?_,λk hk=>?_⟩
  ·have:i=0:=by
    have:=(Zb.mp hx).1;simp at this
    lia
   subst this;have hx:(0:Int)=x:=by simpa using hx
   subst hx;exact z
  ·have:k=0:=by simp at hk;lia
   subst this;rw [z];exact Nat.zero_le _
 |@step ns way c n g h1 h2 h3 h4 h5 ih =>
  obtain ⟨i1,i2⟩:=ih;have ew:=g.way_lt n.e (Zz h5);have el:=i1 (c-1) n.e h5;have last:lvN (ns++[n]) ns.length=c:=by
   unfold lvN;rw [ik,List.getElem?_append_right (by rw [eZ];exact Zm _),eZ,Nat.sub_self]
   show dY _ n=c
   unfold dY;rw [if_neg (by lia)]
   unfold lvN at el;rw [el]
   lia
  refine ⟨λi x hx=>?_,λk hk=>?_⟩
  ·by_cases hi:i<(way.take c).length
   ·rw [List.getElem?_append_left hi]at hx
    rw [ZC]at hi;rw [List.getElem?_take_of_lt (by lia)]at hx
    have xl:=g.way_lt x (Zz hx);rw [rC (by lia)]
    exact i1 i x hx
   ·rw [List.getElem?_append_right (by lia)]at hx
    have hl:=(Zb.mp hx).1;rw [List.length_singleton]at hl;rw [ZC]at hi hl;have hi2:i=c:=by lia
    have hx:(ns.length:Int)=x:=by
     rw [ZC,show i-min c way.length=0 by lia]at hx
     simpa using hx
    subst hx;rw [Int.toNat_natCast,last,hi2]
  ·rw [Zd,List.length_singleton]at hk
   by_cases hkl:k<ns.length
   ·rw [rC hkl]
    exact i2 k hkl
   ·rw [show k=ns.length by lia,last]
    exact h3
theorem rk {ch:Nat->List Nat}:∀f g:F,F.Con ch f->F.Con ch g->F.roots f=F.roots g->f=g:=by
 intro f
 induction f with
 |nil =>
  intro g _ _ h;cases g with
  |nil=>rfl
  |cons k c r=>cases h
 |cons k c r ih1 ih2 =>
  intro g hf hg h;cases g with
  |nil=>cases h
  |cons k' c' r' =>
   have h':k :: F.roots r=k' :: F.roots r':=h;obtain ⟨e1,e2⟩:=List.cons.inj h';subst e1;obtain ⟨a1,a2,a3⟩:=hf;obtain ⟨b1,b2,b3⟩:=hg;rw [ih1 c' a2 b2 (a1.symm.trans b1),ih2 r' a3 b3 e2]
theorem lQ (ts:List Nd) (n:Nat):fnd ts (n:Int) n=true:=by rw [iX,if_pos rfl]
theorem BU {ts:List Nd} {w:Int} {a p:Nat} (he:eOf ts a=(p:Int)) (hp:p<a) (h:fnd ts w p=true):fnd ts w a=true:=by
 rw [iX];split
 ·rfl
 ·rw [if_pos (by lia),he,Int.toNat_natCast]
  exact h
theorem FC {ts:List Nd}:∀(f:F) (a m p:Nat),F.pre f=List.range' a m->F.Eld (eOf ts) (p:Int) f->p<a->(∀w:Int,fnd ts w p=true->1<=m->fnd ts w (a+m-1)=true)/\∀k∈F.pre f,k≠a->fnd ts (eOf ts k) (k-1)=true:=by
 intro f
 induction f with
 |nil =>
  intro a m p hp _ _;have:=congrArg List.length hp;rw [F.pre,List.length_nil,List.length_range']at this;exact ⟨λw _ z=>by lia,λk hk=>by rw [F.pre]at hk;cases hk⟩
 |cons k c r ih1 ih2 =>
  intro a m p hp he hpa;obtain ⟨e1,e2,e3⟩:=he;rw [F.pre]at hp;obtain ⟨rfl,hm,hrest⟩:=gR hp;have hl:=congrArg List.length hrest;rw [Zd,List.length_range']at hl;have hap:List.range' (k+1) (m-1)=List.range' (k+1) (F.pre c).length++List.range' (k+1+(F.pre c).length) (F.pre r).length:=by
   have:=List.range'_append (s:=k+1) (m:=(F.pre c).length) (n:=(F.pre r).length) (step:=1);rw [Nat.one_mul]at this;rw [this];congr 1
   lia
  rw [hap]at hrest;obtain ⟨hc,hr⟩:=List.append_inj hrest (by rw [List.length_range'])
  have up:∀w:Int,fnd ts w p=true->fnd ts w k=true:=λw hw=>BU e1 hpa hw
  obtain ⟨c1,c2⟩:=ih1 (k+1) _ k hc e2 (by lia)
  obtain ⟨r1,r2⟩:=ih2 (k+1+(F.pre c).length) _ p hr e3 (by lia)
  have lastc:∀w:Int,fnd ts w p=true->fnd ts w (k+(F.pre c).length)=true:=λw hw=>by
   by_cases h0:1<=(F.pre c).length
   ·have:=c1 w (up w hw) h0
    rw [show k+1+(F.pre c).length-1=k+(F.pre c).length by lia]at this
    exact this
   ·rw [show k+(F.pre c).length=k by lia]
    exact up w hw
  refine ⟨λw hw _=>?_,λq hq hne=>?_⟩
  ·by_cases h0:1<=(F.pre r).length
   ·have:=r1 w hw h0
    rw [show k+1+(F.pre c).length+(F.pre r).length-1=k+m-1 by lia]at this
    exact this
   ·have:=lastc w hw
    rw [show k+(F.pre c).length=k+m-1 by lia]at this
    exact this
  ·rw [F.pre]at hq
   rcases Zn.mp hq with h | hq
   ·exact absurd h hne
   ·rcases Zr.mp hq with hq | hq
    ·by_cases hq1:q=k+1
     ·subst hq1
      cases c with
      |nil=>rw [F.pre]at hq;cases hq
      |cons a' b' d' =>
       rw [F.pre]at hc;obtain ⟨h1,_,_⟩:=gR hc;have:=e2.1;rw [h1]at this;rw [this,Nat.add_sub_cancel];exact lQ ts k
     ·exact c2 q hq hq1
    ·by_cases hq1:q=k+1+(F.pre c).length
     ·cases r with
      |nil=>rw [F.pre]at hq;cases hq
      |cons a' b' d' =>
       rw [F.pre]at hr;obtain ⟨h1,_,_⟩:=gR hr;have:=e3.1;rw [h1,<-hq1]at this;rw [this,show q-1=k+(F.pre c).length by lia]
       exact lastc _ (lQ ts p)
     ·exact r2 q hq hq1
theorem u_ {ts:List Nd} {c:F} (pt:PT ts c) (ok:∀n∈ts,gY n) (hl:ts.length<=40) (dp:Dp ts 8):Valid ts:=by
 have he:=ka pt;have hp:=F.Pf.pos pt;have hpre:=F.Pf.preF pt;refine ⟨hp,hl,λk hk=>?_,λk v hv=>?_⟩
 ·have hn:=iN hk
  have okn:=ok _ (Zz hn);rw [qX hn,Zu,Zu];refine ⟨?_,Ef okn.1,decide_eq_true ⟨okn.2.1,okn.2.2⟩⟩;unfold elB;by_cases h0:k=0
  ·subst h0
   rw [if_pos rfl];exact decide_eq_true ((cT hn).trans ((he 0 _ hn).1 rfl))
  ·rw [if_neg h0]
   have hpc:F.pre c=List.range' 1 (ts.length-1):=by
    have h2:0 :: (F.pre c++[])=List.range' 0 ts.length:=by
     rw [<-List.range_eq_range',<-hpre];rfl
    have:=(gR h2).2.2;rw [Zw]at this;exact this
   have ec:=(F.Pf.eldF pt).2.1;have hm:k∈F.pre c:=by rw [hpc,List.mem_range'_1];lia
   by_cases h1:k=1
   ·subst h1
    have:=he 1 _ hn;have a1:=this.2.1 (by lia)
    have a2:=this.2.2;rw [cT hn,show (eY ts 1).e=((0:Nat):Int) by lia]
    exact lQ ts 0
   ·exact (FC c 1 _ 0 hpc ec (by lia)).2 k hm h1
 ·have hk:k<ts.length:=by
   have:=(Zb.mp hv).1;rw [eZ]at this;exact this
  have:=dp k hk;unfold lvN at this;rw [hv]at this;exact this
theorem Aa {ts us:List Nd} {h:Nat->Nat}:∀f:F,(∀k∈F.pre f,ntN (eY us (h k))=ntN (eY ts k))->tf us (F.map h f)=tf ts f:=by
 intro f
 induction f with
 |nil=>intro _;rfl
 |cons k c r ih1 ih2 =>
  intro hk;rw [F.pre]at hk;have i1:=ih1 λq m=>hk q (Ze _ (Zv _ m))
  have i2:=ih2 λq m=>hk q (Ze _ (Zp _ m))
  rw [F.map,d6,d6,hk k Zf];have k1:kid us (F.map h c)=kid ts c:=by
   cases c with
   |nil=>rfl
   |cons a b d =>
    rw [e7,<-i1];rfl
  have k2:tlr us (F.map h r)=tlr ts r:=by
   cases r with
   |nil=>rfl
   |cons a b d =>
    rw [fi,<-i2];rfl
  rw [k1,k2]
theorem sj {ts:List Nd} {c:F} (p:PT ts c) {j:Nat} (hj:j<ts.length):∃cj s,F.Con (chN ts) cj/\chN ts j=F.roots cj/\(∀k∈F.pre cj,k<ts.length)/\(fB ts j).length=s+1/\j+1+s<=ts.length/\(∀k,k<s->eOf (fB ts j) (k+1)=eOf ts (j+1+k)-j/\(j:Int)<=eOf ts (j+1+k))/\PT (fB ts j) (F.map (·-j) cj)/\tf (fB ts j) (F.full (F.map (·-j) cj))=tf ts (F.cons j cj F.nil):=by
 obtain ⟨r,hr⟩:∃n,ts[j]?=some n:=⟨ts[j]'(by lia),by simp⟩
 obtain ⟨cj,s,q1,q2,q3,q4,q5,q6⟩:=F.oS (e:=eOf ts) (F.full c) 0 ts.length (-1) (by rw [p.preF,List.range_eq_range']) p.eldF p.con (by decide) j (by lia) (by lia)
 rw [Nat.zero_add]at q3 q4;have ge:=F.vz cj (j:Int) q2 (λk m=>by rw [q1,List.mem_range'_1]at m;lia)
 have at1:∀k,(ts.drop (j+1))[k]?=ts[j+1+k]?:=λk=>List.getElem?_drop
 have hl:((ts.drop (j+1)).takeWhile (inB j)).length=s:=tP _ _ s (by rw [ZD];lia) (λk hk x hx=>by
  rw [at1]at hx;have:=ge (j+1+k) (by rw [q1,List.mem_range'_1];lia)
  rw [cT hx]at this;exact decide_eq_true this) (λx hx=>by
  rw [at1]at hx;have hlt:=(Zb.mp hx).1;have:=q4 hlt;rw [cT hx]at this;exact decide_eq_false (by lia))
 have hb:fB ts j=⟨-1,r.l,r.t⟩ :: ((ts.drop (j+1)).takeWhile (inB j)).map (md j):=by unfold fB;rw [hr]
 have bl:(fB ts j).length=s+1:=by rw [hb,Zq,Zc,hl]
 have tk:(ts.drop (j+1)).takeWhile (inB j)=(ts.drop (j+1)).take s:=by
  have:=List.takeWhile_prefix (inB j) (l:=ts.drop (j+1));rw [List.prefix_iff_eq_take.mp this,hl]
 have e2:∀k,k<s->eOf (fB ts j) (k+1)=eOf ts (j+1+k)-j:=λk hk=>by
  obtain ⟨x,hx⟩:∃n,ts[j+1+k]?=some n:=⟨ts[j+1+k]'(by lia),by simp⟩
  rw [cT hx,hb,tk];have:(⟨-1,r.l,r.t⟩ :: ((ts.drop (j+1)).take s).map (md j))[k+1]?=some (md j x):=by
   rw [List.getElem?_cons_succ,Za,List.getElem?_take_of_lt hk,at1,hx];rfl
  rw [cT this];rfl
 have n2:∀k,k<s->ntN (eY (fB ts j) (k+1))=ntN (eY ts (j+1+k)):=λk hk=>by
  obtain ⟨x,hx⟩:∃n,ts[j+1+k]?=some n:=⟨ts[j+1+k]'(by lia),by simp⟩
  have h2:(fB ts j)[k+1]?=some (md j x):=by
   rw [hb,tk,List.getElem?_cons_succ,Za,List.getElem?_take_of_lt hk,at1,hx];rfl
  unfold eY;rw [h2,hx];rfl
 have n0:ntN (eY (fB ts j) 0)=ntN (eY ts j):=by
  unfold eY;rw [hb,hr];rfl
 have tfe:tf (fB ts j) (F.full (F.map (·-j) cj))=tf ts (F.cons j cj F.nil):=by
  have:=Aa (ts:=ts) (us:=fB ts j) (h:=(·-j)) (F.cons j cj F.nil) (λk m=>by
   rw [F.pre,F.pre,Zw]at m;rcases Zn.mp m with rfl | m
   ·rw [Nat.sub_self]
    exact n0
   ·rw [q1,List.mem_range'_1]at m
    have:=n2 (k-j-1) (by lia)
    rw [show k-j-1+1=k-j by lia,show j+1+(k-j-1)=k by lia]at this
    exact this)
  rw [F.map,Nat.sub_self]at this;exact this
 refine ⟨cj,s,q5,q6,λk m=>by rw [q1,List.mem_range'_1]at m;lia,bl,q3,λk hk=>⟨e2 k hk,ge (j+1+k) (by rw [q1,List.mem_range'_1];lia)⟩,⟨?_,?_,?_⟩,tfe⟩
 ·rw [F.lh,q1,bl,List.range_eq_range',List.range'_succ]
  congr 1
  apply List.ext_getElem?
  intro i;rw [Za];by_cases hi:i<s
  ·rw [List.getElem?_range' hi,List.getElem?_range' hi]
   simp
   lia
  ·rw [Zt (by rw [List.length_range'];lia),Zt (by rw [List.length_range'];lia)]
   rfl
 ·rw [hb]
  rfl
 ·have:=F.mm (e:=eOf ts) (e':=eOf (fB ts j)) (h:=(·-j)) (hi:=λz=>z-j) (j:Int) cj (λk m=>by
   rw [q1,List.mem_range'_1]at m;refine ⟨?_,by lia⟩
   have:=e2 (k-j-1) (by lia)
   rw [show k-j-1+1=k-j by lia,show j+1+(k-j-1)=k by lia]at this
   exact this) q2
  rw [Int.sub_self]at this;exact this
noncomputable def Kd (ts:List Nd) (kd:Nat->F):Prop:=∀k,k<ts.length->chN ts k=F.roots (kd k)/\F.Con (chN ts) (kd k)/\(∀q∈F.pre (kd k),q<ts.length)/\(F.pre (kd k)).length<=ts.length
theorem yt {ts:List Nd} {c:F} (p:PT ts c):∃kd,Kd ts kd:=by
 have h:∀k,∃d:F,k<ts.length->chN ts k=F.roots d/\F.Con (chN ts) d/\(∀q∈F.pre d,q<ts.length)/\(F.pre d).length<=ts.length:=λk=>by
  by_cases hk:k<ts.length
  ·obtain ⟨cj,s,q1,q2,q3,q4,q5,_,q7,_⟩:=sj p hk
   refine ⟨cj,λ_=>⟨q2,q1,q3,?_⟩⟩
   have:=congrArg List.length (F.Pf.preF q7);rw [F.full,F.pre,F.pre,Zw,Zq,F.lh,Zc,Zh]at this
   lia
  ·exact ⟨F.nil,λz=>absurd z hk⟩
 exact ⟨λk=>Classical.choose (h k),λk hk=>Classical.choose_spec (h k) hk⟩
noncomputable def tx (ts:List Nd) (kd:Nat->F) (k:Nat):List Nat:=ntN (eY ts k)++kid ts (kd k)
theorem yu (ts:List Nd) (kd:Nat->F) (k:Nat):tx ts kd k=tf ts (F.cons k (kd k) F.nil):=by
 rw [d6];show _=_++(_++[])
 rw [Zw];rfl
noncomputable def g6:List (List Nat)->List Nat
 |[]=>[]
 |[a]=>a
 |a :: b :: r=>a++(44 :: g6 (b :: r))
theorem wU {ts:List Nd} {kd:Nat->F} (hk:Kd ts kd):∀d:F,F.Con (chN ts) d->(∀q∈F.pre d,q<ts.length)->tf ts d=g6 ((F.roots d).map (tx ts kd)):=by
 intro d
 induction d with
 |nil=>intro _ _;rfl
 |cons k c r ih1 ih2 =>
  intro hc hq;obtain ⟨c1,c2,c3⟩:=hc;rw [F.pre]at hq;obtain ⟨k1,k2,_,_⟩:=hk k (hq k Zf);have e:c=kd k:=rk c (kd k) c2 k2 (c1.symm.trans k1);have i2:=ih2 c3 λq m=>hq q (Ze _ (Zp _ m))
  rw [d6,e,F.roots,Zj];cases r with
  |nil =>
   show _++(_++[])=_
   rw [Zw];rfl
  |cons k' c' r' =>
   rw [fi,i2,F.roots,Zj,g6];unfold tx;rw [ZB]
theorem pM (L:List (List Nat)):Txt.join (Str.ofString ",") (L.map sS)=sS (g6 L):=by
 show Builtin.Str.glued (Str.ofString ",") _=_
 rw [StrLaws.glued_eq_join,s44]
 induction L with
 |nil=>rfl
 |cons a L ih =>
  cases L with
  |nil=>rfl
  |cons b L =>
   show sS a++sS [44]++Str.join (sS [44]) ((b :: L).map sS)=_
   rw [ih,fH,fH,g6,ZB];rfl
noncomputable def wt:List (List Nat)->Nat
 |[]=>0
 |a :: r=>a.length+1+wt r
theorem rm:∀L:List (List Nat),wt L<=(g6 L).length+1
 |[]=>Nat.zero_le _
 |[a]=>Zm _
 |a :: b :: r=>by
  have:=rm (b :: r);rw [wt,g6,Zd,Zq]
  lia
theorem vZ (L:List (List Nat)):∀acc:Nat,(L.map sS).foldl (λa s=>a+s.length+(Str.ofString ",").length) acc=acc+wt L:=by
 have z:(Str.ofString ",").length=1:=by rw [s44];exact aX _
 rw [z]
 induction L with
 |nil=>intro acc;rfl
 |cons a r ih =>
  intro acc;rw [Zj,List.foldl_cons,ih,aX,wt]
  lia
theorem qP {L:List (List Nat)} (h:(g6 L).length<=1000):JoinOk (Str.ofString ",") (L.map sS)=true:=by
 unfold JoinOk;have e:(L.map sS).toArray.foldl (λa s=>a+s.length+(Str.ofString ",").length) 0=wt L:=by
  have q:=vZ L 0;rw [Nat.zero_add]at q;rw [<-q];simp
 rw [e];unfold Builtin.Str.tooLong;rw [decide_eq_false]
 ·rfl
 ·have:=rm L
  have:(2000:Nat)<=sizeLine:=by decide
  lia
theorem qq {ts:List Nd} {kd:Nat->F} (hk:Kd ts kd) (ok:∀n∈ts,gY n) (hl:ts.length<=40) {k:Nat} (h:k<ts.length):(tf ts (kd k)).length<=560/\(ntN (eY ts k)).length<=11/\(tx ts kd k).length<=580:=by
 obtain ⟨k1,k2,k3,k4⟩:=hk k h;have a:=Ab ok (kd k) k3;have b:=tL (ok _ (Zz (iN h)));refine ⟨by lia,b,?_⟩
 unfold tx;rw [Zd];have:(kid ts (kd k)).length<=(tf ts (kd k)).length+2:=by
  cases kd k with
  |nil=>exact Nat.zero_le _
  |cons a b d=>rw [e7,Zq,Zd,List.length_singleton];lia
 lia
theorem vb {ts:List Nd} {kd:Nat->F} (hk:Kd ts kd) (ok:∀n∈ts,gY n) {k:Nat} (h:k<ts.length):∀c∈tx ts kd k,c<128:=by
 rw [yu];refine BJ ok _ λq m=>?_
 rw [F.pre,F.pre,Zw]at m;rcases Zn.mp m with rfl | m
 ·exact h
 ·exact (hk k h).2.2.1 q m
noncomputable def bdT (g:Fn):Fs:=(aI (aY 2 (eOp gIx (eOp gIx (af 0) (af 1)) (eC (.int 1))))
 (aI (sIf (aB (eOp gGt (eOp gIx (eOp gIx (af 0) (af 1)) (eC (.int 2))) (eC (.int 1)))) (aY 2 (eOp aO (eOp aO (af 2) (eC (.str "*"))) (eB g8 (aj (eOp gIx (eOp gIx (af 0) (af 1)) (eC (.int 2))) aF)))) sNx)
 (aI (aY 3 (eSh (gc (iR2 (eOp aO (af 1) (eC (.int 1))) (eB cg (aj (af 0) aF))) (gNm 0) (aB (eOp gEq (eOp gIx (eOp gIx (af 1) (af 0)) (eC (.int 0))) (af 2))) (eSh (aR g (aj (af 1) (aj (af 0) aF)))) 1 [0,1])))
 (aI (sIf (aB (eOp gEq (af 3) (fM aF))) (ba (af 2)) sNx)
 (ba (eOp aO (eOp aO (eOp aO (af 2) (eC (.str "("))) (eJn (eC (.str ",")) (af 3))) (eC (.str ")"))))))))
theorem um {ts:List Nd} (he:EL ts) {k:Nat} (hk:k<ts.length):chN ts k=((List.range (ts.length-(k+1))).filter (λj=>decide (eOf ts (k+1+j)=(k:Int)))).map (k+1+·):=by
 unfold chN;have e:List.range ts.length=List.range (k+1)++(List.range (ts.length-(k+1))).map (k+1+·):=by
  rw [<-List.range_add];congr 1
  lia
 rw [e,List.filter_append,List.filter_map];have z:(List.range (k+1)).filter (λj=>decide (eOf ts j=(k:Int)))=[]:=by
  rw [List.filter_eq_nil_iff];intro j hj hd;rw [ZF]at hj;have:=(q0 he (lJ.mpr ⟨show j<ts.length by lia,of_decide_eq_true hd⟩)).1
  lia
 rw [z,List.nil_append];rfl
theorem uz {L:List Str} (h:∀s∈L,PyData.strOk s=true):lay 1 (.list (L.map PyData.str)):=kn λx hx=>by
 obtain ⟨s,hs,rfl⟩:=ZA.mp hx;exact oK (h s hs)
theorem sL {ts:List Nd} {c:F} (pt:PT ts c) (ok:∀n∈ts,gY n) (hl:ts.length<=40) {kd:Nat->F} (hk:Kd ts kd) {g:Fn} {k:Nat} (h:k<ts.length) (hg:∀q∈chN ts k,g [.list (aW ts),.int (q:Int)]=.ok (.sh (.str (sS (tx ts kd q))))):bx 2 4 (bdT g) [.list (aW ts),.int (k:Int)]=.ok (.sh (.str (sS (tx ts kd k)))):=by
 have he:=ka pt;have hn:=iN h;generalize hnn:eY ts k=n at hn
 have okn:=ok n (Zz hn);have g1:=iv hn;obtain ⟨k1,k2,k3,k4⟩:=hk k h;obtain ⟨t1,t2,t3⟩:=qq hk ok hl h;rw [hnn]at t2;have l0:=okn.1.2.1;have hI:sIf (aB (eOp gGt (eOp gIx (eOp gIx (af 0) (af 1)) (eC (.int 2))) (eC (.int 1)))) (aY 2 (eOp aO (eOp aO (af 2) (eC (.str "*"))) (eB g8 (aj (eOp gIx (eOp gIx (af 0) (af 1)) (eC (.int 2))) aF)))) sNx
   [some (.sh (.list (aW ts))),some (.sh (.int (k:Int))),some (.sh (.str n.l)),none]=.ok (.nx [some (.sh (.list (aW ts))),some (.sh (.int (k:Int))),some (.sh (.str (sS (ntN n)))),none]):=by
  have u0:=okn.2.1;have u9:=okn.2.2;by_cases h1:(1:Int)<n.t
  ·have en:ntN n=cs n.l++[42,48+n.t.toNat]:=by unfold ntN tlN;rw [if_pos (by lia)]
   obtain ⟨d1,_,_⟩:=dg (t:=n.t) (by lia) u9
   have ea:n.l++Str.ofString "*" ++ Str.ofString (toString n.t)=sS (ntN n):=by
    rw [d1,s42,en]
    conv=>lhs;rw [<-nL n.l]
    rw [fH,fH,ZB];rfl
   have i1:=Bh (i:=n.t) (qu (by lia) (by lia))
   have lst:(Str.ofString "*").length=1:=by rw [s42];exact aX _
   have ldg:(Str.ofString (toString n.t)).length=1:=by rw [d1];exact aX _
   have b1:(n.l.length+1<=BIG)=True:=aN (by lia)
   have b2:((n.l++Str.ofString "*").length+1<=BIG)=True:=aN (by rw [Str.length_append,lst];lia)
   push_cast only [g1,decide_eq_true h1,i1,lst,ldg,b1,b2,ea]
  ·have en:ntN n=cs n.l:=by unfold ntN tlN;rw [if_neg (by lia),Zw]
   rw [en,nL];push_cast only [g1,decide_eq_false h1]
 have em:(k:Int)+1=((k+1:Nat):Int):=by lia
 have s3:bb ((k+1:Nat):Int)=true:=qu (by lia) (by lia)
 have s4:bb (ts.length:Int)=true:=qu (by lia) (by lia)
 have lbt:(ts.length<=BIG)=True:=aN (by lia)
 unfold bdT;push_cast only [g1,↓hI,em,s3,s4,Bool.and_self,cP,lbt];generalize hC:e8 _ _ _ _ _ _=rc
 have hcnt:((ts.length:Int)-((k+1:Nat):Int)).toNat=ts.length-(k+1):=by lia
 have e:=wM hC (λj:Nat=>PyData.int (((k+1:Nat):Int)+(j:Int))) (λj=>decide (eOf ts (k+1+j)=(k:Int))) (λj=>OD.sh (.str (sS (tx ts kd (k+1+j))))) (List.range (ts.length-(k+1))) (by rw [hcnt];rfl) (by rw [Zh];exact of_eq_true (aN (by lia))) (by
  intro j hj;rw [ZF]at hj;have ek:((k+1:Nat):Int)+(j:Int)=((k+1+j:Nat):Int):=by lia
  rw [ek];have hq:k+1+j<ts.length:=by lia
  have g2:=iv (iN hq);have eo:=cT (iN hq);rw [eo];refine ⟨by push_cast only [g2],λhp=>?_⟩
  have gg:=hg (k+1+j) (lJ.mpr ⟨hq,eo.trans (of_decide_eq_true hp)⟩);push_cast only [gg])
 have e3:(((List.range (ts.length-(k+1))).filter (λj=>decide (eOf ts (k+1+j)=(k:Int)))).map λj=>OD.sh (.str (sS (tx ts kd (k+1+j)))))=(chN ts k).map λq=>OD.sh (.str (sS (tx ts kd q))):=by
  rw [um he h,Zi];rfl
 rw [e3]at e;subst e;have e2:((chN ts k).map λq=>OD.sh (.str (sS (tx ts kd q)))).map OD.er=(((chN ts k).map (tx ts kd)).map sS).map PyData.str:=by
  rw [Zi,Zi,Zi];exact Zs λq _=>iU _
 cases hkd:kd k with
 |nil =>
  rw [hkd]at k1;have e4:chN ts k=[]:=k1;have gn:gEq (.list []) (.list [])=.ok (.sh (.bool true)):=vo (n:=1) (kn λx hx=>by cases hx)
  have fin:tx ts kd k=ntN n:=by
   unfold tx;rw [hkd,hnn];exact Zw _
  rw [e4,fin];push_cast only [gn]
 |cons a b d =>
  have tj:=wU hk (kd k) k2 k3;rw [<-k1]at tj;have jk:JoinOk (Str.ofString ",") (((chN ts k).map (tx ts kd)).map sS)=true:=qP (by rw [<-tj];lia)
  have js:=pM ((chN ts k).map (tx ts kd));rw [<-tj]at js;have ne:gEq (.list ((((chN ts k).map (tx ts kd)).map sS).map PyData.str)) (.list [])=.ok (.sh (.bool false)):=by
   have ly:lay 1 (.list ((((chN ts k).map (tx ts kd)).map sS).map PyData.str)):=uz λs hs=>by
    obtain ⟨t,ht,rfl⟩:=ZA.mp hs;obtain ⟨q,hq,rfl⟩:=ZA.mp ht;have hq2:=(q0 he hq).2;refine tU ⟨λc hc=>vb hk ok hq2 c ?_,?_⟩
    ·rw [show (sS (tx ts kd q)).cps.toList=tx ts kd q from bN _]at hc
     exact hc
    ·rw [aX]
     have:=(qq hk ok hl hq2).2.2
     lia
   have hc:chN ts k=a :: F.roots d:=by rw [k1,hkd];rfl
   rw [hc]at ly ⊢;exact rA ly (by decide)
  have b1:((ntN n).length+1<=BIG)=True:=aN (by lia)
  have b2:((ntN n++[40]).length+(tf ts (kd k)).length<=BIG)=True:=aN (by rw [Zd,List.length_singleton];lia)
  have b3:((ntN n++[40]++tf ts (kd k)).length+1<=BIG)=True:=aN (by rw [Zd,Zd,List.length_singleton];lia)
  have fin:ntN n++[40]++tf ts (kd k)++[41]=tx ts kd k:=by
   unfold tx;rw [hnn,hkd,e7,ZB,ZB];rfl
  push_cast only [e2,ne,Ew,Dx,FT,jk,js,s40,s41,aX,fH,b1,b2,b3,fin]
theorem mh {ts:List Nd} {c:F} (pt:PT ts c) (ok:∀n∈ts,gY n) (hl:ts.length<=40) (dp:Dp ts 8) {kd:Nat->F} (hk:Kd ts kd) {k:Nat} (h:k<ts.length):bX [.list (aW ts),.int (k:Int)]=.ok (.sh (.str (sS (tx ts kd k)))):=by
 have he:=ka pt;have step:∀(g:Fn) (j:Nat),(∀k,k<ts.length->9<=lvN ts k+j->g [.list (aW ts),.int (k:Int)]=.ok (.sh (.str (sS (tx ts kd k)))))->∀k,k<ts.length->9<=lvN ts k+(j+1)->bx 2 4 (bdT g) [.list (aW ts),.int (k:Int)]=.ok (.sh (.str (sS (tx ts kd k)))):=λg j hg k hk2 hv=>sL pt ok hl hk hk2 λq hq=>hg q (q0 he hq).2 (by rw [nE he hq];lia)
 have h0:∀k,k<ts.length->9<=lvN ts k+0->dc [.list (aW ts),.int (k:Int)]=.ok (.sh (.str (sS (tx ts kd k)))):=λk hk2 hv=>by
  have:=dp k hk2
  lia
 have h1:=step dc 0 h0;have h2:=step du 1 h1;have h3:=step dr 2 h2;have h4:=step di 3 h3;have h5:=step df 4 h4;have h6:=step c7 5 h5;have h7:=step dm 6 h6;have h8:=step dv 7 h7;have h9:=step dj 8 h8;exact h9 k h (by lia)
noncomputable def n42 (c:Nat):Bool:=!(c == 42)
noncomputable def wn (w:List Nat):List Nat:=w.takeWhile n42
noncomputable def wr (w:List Nat):List Nat:=w.dropWhile n42
theorem qj {c:Nat} (h:c≠42):n42 c=true:=by
 unfold n42;rw [beq_eq_false_iff_ne.mpr h];rfl
theorem uY:∀{l:List Nat},(∀c∈l,c≠42)->wn l=l/\wr l=[]
 |[],_=>⟨rfl,rfl⟩
 |c :: l,h=>by
  obtain ⟨a,b⟩:=uY (l:=l) λx hx=>h x (Ze _ hx)
  have hc:=qj (h c Zf);unfold wn wr at *;rw [List.takeWhile_cons_of_pos hc,List.dropWhile_cons_of_pos hc,a,b];exact ⟨rfl,rfl⟩
theorem tJ:∀{l:List Nat} (d:List Nat),(∀c∈l,c≠42)->wn (l++42 :: d)=l/\wr (l++42 :: d)=42 :: d
 |[],d,_=>⟨rfl,rfl⟩
 |c :: l,d,h=>by
  obtain ⟨a,b⟩:=tJ (l:=l) d λx hx=>h x (Ze _ hx)
  have hc:=qj (h c Zf);unfold wn wr at *;rw [List.cons_append,List.takeWhile_cons_of_pos hc,List.dropWhile_cons_of_pos hc,a,b];exact ⟨rfl,rfl⟩
theorem nX:∀w:List Nat,(∀c∈w,c≠42)\/∃l d,w=l++42 :: d/\∀c∈l,c≠42
 |[]=>.inl λ_ h=>by cases h
 |c :: w=>by
  by_cases hc:c=42
  ·subst hc
   exact .inr ⟨[],w,rfl,λ_ h=>by cases h⟩
  ·rcases nX w with h | ⟨l,d,rfl,h⟩
   ·refine .inl λx hx=>?_
    rcases Zn.mp hx with rfl | hx
    ·exact hc
    ·exact h x hx
   ·refine .inr ⟨c :: l,d,rfl,λx hx=>?_⟩
    rcases Zn.mp hx with rfl | hx
    ·exact hc
    ·exact h x hx
noncomputable def rdT:List Nat->Option Int
 |[]=>some 1
 |[_,x]=>if 50<=x/\x<=57 then some ((x:Int)-48) else none
 |_=>none
noncomputable def rdN (w:List Nat):Option (List Nat×Int):=if jw (sS (wn w))=true then (rdT (wr w)).map λt=>(wn w,t) else none
theorem o6 {l d:List Nat} (h:∀c∈l,c≠42):Txt.partition (sS (l++42 :: d)) (sS [42])=(sS l,sS [42],sS d):=by
 have ec:(sS (l++42 :: d)).cps.toList=l++42 :: d:=bN _;have here:(l++42 :: d)[l.length]?=some 42:=by rw [List.getElem?_append_right (Zm _),Nat.sub_self];rfl
 rcases PyProof.Rows.partition_whole (sS (l++42 :: d)) (sS [42]) with ⟨_,hn⟩ | ⟨i,e,ha,hn⟩
 ·exact absurd ((StrLaws.subAt_one _ 42 l.length).mpr (by rw [ec];exact here)) (hn l.length)
 ·have hi:=(StrLaws.subAt_one _ 42 i).mp ha
  rw [ec]at hi;have i1:¬i<l.length:=λz=>by
   rw [List.getElem?_append_left z]at hi;exact h 42 (Zz hi) rfl
  have i2:¬l.length<i:=λz=>hn l.length z ((StrLaws.subAt_one _ 42 l.length).mpr (by rw [ec];exact here))
  have hii:i=l.length:=by lia
  subst hii;rw [e];have e1:Builtin.Str.strSub (sS (l++42 :: d)) 0 l.length=sS l:=by
   apply jm
   show ((sS (l++42 :: d)).cps.extract 0 l.length).toList=_
   rw [Array.toList_extract,ec,List.extract_eq_drop_take,List.drop_zero,Nat.sub_zero,List.take_left];exact (bN l).symm
  have e2:Builtin.Str.strSub (sS (l++42 :: d)) (l.length+(sS [42]).length) (sS (l++42 :: d)).length=sS d:=by
   apply jm
   show ((sS (l++42 :: d)).cps.extract (l.length+(sS [42]).length) (sS (l++42 :: d)).length).toList=_
   rw [Array.toList_extract,ec,List.extract_eq_drop_take,aX,aX,Zd];show ((l++42 :: d).drop (l.length+1)).take (l.length+(d.length+1)-(l.length+1))=cs (sS d)
   rw [show l.length+(d.length+1)-(l.length+1)=d.length by lia,List.drop_append]
   rw [List.drop_eq_nil_of_le (by lia),show l.length+1-l.length=1 by lia,bN]
   exact List.take_length
  rw [e1,e2]
noncomputable def va (x:Nat):Bool:=decide (50<=x/\x<=57)
theorem xN (k:Fin 128):inS ⟨#[k.val]⟩ (Str.ofString "23456789")=va k.val:=by revert k;decide +kernel
theorem vi {c:Nat} (h:c<128):inS (sS [c]) (Str.ofString "23456789")=va c:=xN ⟨c,h⟩
theorem yj {w:List Nat} (h:w≠[]):decide (sS w=Str.ofString "")=false:=decide_eq_false (by rw [s00];exact λz=>h (jV z))
theorem uZ {w:List Nat} (h:∀c∈w,c<128) (hl:w.length<=1000):Asc (sS w):=⟨λc hc=>h c (by rw [<-bN w];exact hc),by rw [aX];exact hl⟩
theorem yT {w:List Nat} (asc:∀c∈w,c<128) (hl:w.length<=600) (e:Int):da [.int e,.str (sS w)]=match rdN w with
  |some (l,t)=>.ok (.sh (.tuple [.int e,.str (sS l),.int t]))
  |none=>.ex "NoText" := by
 unfold da gj;have lb:(sS w).length<=BIG:=of_eq_true (aN (by rw [aX];lia))
 have ip:=vT (t:=Str.ofString "*") lb (by decide +kernel)
 rcases nX w with h | ⟨l,d,rfl,h⟩
 ·obtain ⟨a,b⟩:=uY h
  have pt:iO (sS w) (Str.ofString "*")=[.str (sS w),.str (sS []),.str (sS [])]:=by
   unfold iO;rw [s42,qM h];rfl
  rw [pt]at ip;have il:=iS (uZ asc (by lia))
  have d0:decide (sS []=Str.ofString "")=true:=decide_eq_true s00.symm;unfold rdN;rw [a,b];cases hb:jw (sS w) with
  |true =>
   rw [hb]at il;push_cast only [fG,ip,il,d0];rfl
  |false =>
   rw [hb]at il;push_cast only [fG,ip,il,d0,cE,cN,cO]
 ·obtain ⟨a,b⟩:=tJ d h
  have pt:iO (sS (l++42 :: d)) (Str.ofString "*")=[.str (sS l),.str (sS [42]),.str (sS d)]:=by
   unfold iO;rw [s42,o6 h]
  rw [pt]at ip;have hll:(l++42 :: d).length=l.length+(d.length+1):=by rw [Zd,Zq]
  have il:=iS (uZ (w:=l) (λc hc=>asc c (Zv _ hc)) (by lia))
  have d0:=yj (w:=[42]) (by simp)
  have ld:(sS d).length=d.length:=aX d;have lbd:(d.length<=BIG)=True:=aN (by lia)
  unfold rdN;rw [a,b];cases hb:jw (sS l) with
  |false =>
   rw [hb]at il;push_cast only [fG,ip,il,d0,cE,cN,cO]
  |true =>
   rw [hb]at il;by_cases h1:(d.length:Int)=1
   ·obtain ⟨x,rfl⟩:∃x,d=[x]:=List.length_eq_one_iff.mp (by lia)
    have hx:x<128:=asc x (by simp)
    have g3:=vi hx;have l1:(sS [x]).length=1:=aX _;have lb1:(1<=BIG)=True:=aN (by lia)
    by_cases hf:50<=x/\x<=57
    ·rw [show va x=true from decide_eq_true hf]at g3
     obtain ⟨g1,g2,_⟩:=dg (t:=(x:Int)-48) (by lia) (by lia)
     rw [show 48+((x:Int)-48).toNat=x by lia]at g2
     have gi:=Bn g2 (by rw [l1];decide)
     have er:rdT [42,x]=some ((x:Int)-48):=if_pos hf;rw [er];push_cast only [fG,ip,il,d0,l1,lb1,m6,g3,gi];rfl
    ·rw [show va x=false from decide_eq_false hf]at g3
     have er:rdT [42,x]=none:=if_neg hf;rw [er];push_cast only [fG,ip,il,d0,l1,lb1,m6,g3,cE,cN,cO];rfl
   ·have er:rdT (42 :: d)=none:=by
     cases d with
     |nil=>rfl
     |cons x d =>
      cases d with
      |nil=>simp at h1
      |cons y d=>rfl
    rw [er];push_cast only [fG,ip,il,d0,ld,lbd,decide_eq_false h1,cE,cN,cO];rfl
theorem xy {d:Int}:cQ [.int d]=if d<=100 then .ok (.sh .none) else .ex "NoText" := by
 unfold cQ e9;by_cases h:100<d
 ·rw [if_neg (by lia)]
  push_cast only [decide_eq_true h,cE,cO]
 ·rw [if_pos (by lia)]
  push_cast only [decide_eq_false h]
theorem BV {t R:List Nat} {p:Nat} {d:Nat} (h:t.drop p=R) (hp:p<=t.length) (hl:t.length<=600):fF [.str (sS t),.int (p:Int),.int (d:Int)]=if 0<d/\R.head?=some 44 then .ok (.sh (.bool true)) else if 0<d\/R≠[] then .ex "NoText" else .ok (.sh (.bool false)):=by
 unfold fF iA;have el:(sS t).length=t.length:=aX t;have lb:(t.length<=BIG)=True:=aN (by lia)
 have i1:=vI h hp s44;have hR:R.length=t.length-p:=by rw [<-h,ZD]
 by_cases hd:0<d
 ·have d1:decide ((0:Int)<(d:Int))=true:=decide_eq_true (by lia)
  by_cases hh:R.head?=some 44
  ·rw [if_pos ⟨hd,hh⟩]
   rw [decide_eq_true hh]at i1;push_cast only [el,lb,fm,i1,d1]
  ·rw [if_neg (λz=>hh z.2),if_pos (.inl hd)]
   rw [decide_eq_false hh]at i1;push_cast only [el,lb,fm,i1,d1,cE,cN,cO]
 ·have d1:decide ((0:Int)<(d:Int))=false:=decide_eq_false (by lia)
  rw [if_neg (λz=>hd z.1)]
  by_cases hR0:R=[]
  ·rw [if_neg (λz=>z.elim hd λy=>y hR0)]
   have d2:decide ((p:Int)<(t.length:Int))=false:=decide_eq_false (by rw [hR0,List.length_nil]at hR;lia)
   push_cast only [el,lb,d1,d2]
  ·rw [if_pos (.inr hR0)]
   have d2:decide ((p:Int)<(t.length:Int))=true:=decide_eq_true (by have:=List.length_pos_iff.mpr hR0;lia)
   push_cast only [el,lb,d1,d2,cE,cN,cO]
noncomputable def dN (e:Int) (p:List Nat×Int):Nd:=⟨e,sS p.1,p.2⟩
noncomputable def eM:List Nat->Int
 |[]=>-1
 |k :: _=>(k:Int)
noncomputable def opN:List Nat->List PyData
 |[]=>[.int (-1)]
 |k :: s=>opN s++[.int (k:Int)]
theorem jg:∀s:List Nat,(opN s).length=s.length+1
 |[]=>rfl
 |k :: s=>by rw [opN,Zd,jg s,Zq];rfl
theorem tV:∀s:List Nat,atI (opN s) (-1)=some (.int (eM s))
 |[]=>l5 [] _
 |k :: s=>l5 _ _
noncomputable def M:List Nat->List Nd->List Nat->Option (List Nat)->Option (List Nd)
 |[],rows,op,none=>(match op with
  |[]=>some rows
  |_=>none)
 |[],rows,op,some w=>(match op with
  |[]=>(rdN w).map λp=>rows++[dN (-1) p]
  |_=>none)
 |c :: T,rows,op,none=>if c=44 then (match op with
   |[]=>none
   |k :: s=>M T rows (k :: s) (some [])) else if c=41 then (match op with
   |[]=>none
   |_ :: s=>M T rows s none) else none
 |c :: T,rows,op,some w=>if c=40 then (rdN w).bind (λp=>if op.length+1<=100 then M T (rows++[dN (eM op) p]) (rows.length :: op) (some []) else none)
  else if c=44 then (rdN w).bind (λp=>match op with
   |[]=>none
   |k :: s=>M T (rows++[dN (eM (k :: s)) p]) (k :: s) (some []))
  else if c=41 then (rdN w).bind (λp=>match op with
   |[]=>none
   |k :: s=>M T (rows++[dN (eM (k :: s)) p]) s none)
  else M T rows op (some (w++[c]))
theorem sP (c:Nat) (T:List Nat) (rows:List Nd) (op:List Nat):M (c :: T) rows op none=if c=44 then (match op with
   |[]=>none
   |k :: s=>M T rows (k :: s) (some [])) else if c=41 then (match op with
   |[]=>none
   |_ :: s=>M T rows s none) else none:=by
 rw [M.eq_def]
theorem rY (c:Nat) (T:List Nat) (rows:List Nd) (op w:List Nat):M (c :: T) rows op (some w)=if c=40 then (rdN w).bind (λp=>if op.length+1<=100 then M T (rows++[dN (eM op) p]) (rows.length :: op) (some []) else none)
  else if c=44 then (rdN w).bind (λp=>match op with
   |[]=>none
   |k :: s=>M T (rows++[dN (eM (k :: s)) p]) (k :: s) (some []))
  else if c=41 then (rdN w).bind (λp=>match op with
   |[]=>none
   |k :: s=>M T (rows++[dN (eM (k :: s)) p]) s none)
  else M T rows op (some (w++[c])):=by
 rw [M.eq_def]
theorem p7 {c:Nat} (h:spB c=false):c≠40/\c≠41/\c≠44:=by
 have:=of_decide_eq_false h
 lia
theorem wY {c:Nat} {T:List Nat} {rows:List Nd} {op w:List Nat} (h:spB c=false):M (c :: T) rows op (some w)=M T rows op (some (w++[c])):=by
 obtain ⟨h1,h2,h3⟩:=p7 h;rw [rY,if_neg h1,if_neg h3,if_neg h2]
theorem vq {R:List Nat} {rows:List Nd} {op:List Nat}:∀(w u:List Nat),(∀c∈w,spB c=false)->M (w++R) rows op (some u)=M R rows op (some (u++w))
 |[],u,_=>by rw [List.nil_append,Zw]
 |c :: w,u,h=>by
  rw [List.cons_append,wY (h c Zf),vq w (u++[c]) (λx hx=>h x (Ze _ hx)),ZB]
  rfl
theorem CZ {R:List Nat} {rows:List Nd} {op w:List Nat} (hw:rdN w=none) (hR:∀c,R.head?=some c->spB c=true):M R rows op (some w)=none:=by
 cases R with
 |nil=>cases op <;> simp [M,hw]
 |cons c T =>
  have:=of_decide_eq_true (hR c rfl);rw [rY];split
  ·rw [hw];rfl
  ·split
   ·rw [hw];rfl
   ·split
    ·rw [hw];rfl
    ·lia
theorem Be {R:List Nat} {rows:List Nd} {op w:List Nat} {pr:List Nat×Int} (hw:rdN w=some pr) (hR:∀c,R.head?=some c->spB c=true) (h40:R.head?≠some 40):M R rows op (some w)=M R (rows++[dN (eM op) pr]) op none:=by
 cases R with
 |nil =>
  cases op with
  |nil=>rw [M,M,hw];rfl
  |cons k s=>rfl
 |cons c T =>
  have hc:c≠40:=λz=>h40 (by rw [z];rfl)
  have:=of_decide_eq_true (hR c rfl);rw [rY,sP,if_neg hc];by_cases h1:c=44
  ·rw [if_pos h1,if_pos h1,hw]
   cases op <;> rfl
  ·have h2:c=41:=by lia
   rw [if_neg h1,if_neg h1,if_pos h2,if_pos h2,hw];cases op <;> rfl
theorem GS {T:List Nat} {rows:List Nd} {op w:List Nat} {pr:List Nat×Int} (hw:rdN w=some pr):M (40 :: T) rows op (some w)=if op.length+1<=100 then M T (rows++[dN (eM op) pr]) (rows.length :: op) (some []) else none:=by
 rw [rY,if_pos rfl,hw];rfl
theorem AJ {t:List Nat} (hl:t.length<=600):∀(op R:List Nat) (p:Nat),t.drop p=R->p<=t.length->op.length<=500 ->
  ∃op' R' p',shR bz (.str (sS t)) (opN op).length (p:Int) (opN op)=.ok (.int ((p':Nat):Int),opN op')/\t.drop p'=R'/\p'<=t.length/\p<=p'/\op'.length<=op.length/\(∀rows,M R rows op none=M R' rows op' none)/\(R'.head?=some 41->op'=[]):=by
 intro op
 induction op with
 |nil =>
  intro R p h hp _;have tm:=yz h hp hl (opN []) (by decide)
  refine ⟨[],R,p,pA _ ?_,h,hp,Zm _,Zm _,λ_=>rfl,λ_=>rfl⟩
  rw [tm];show L3.R.ok (decide _ && decide (1<((1:Nat):Int)))=_
  rw [show decide (1<((1:Nat):Int))=false from rfl,Bool.and_false]
 |cons k s ih =>
  intro R p h hp hs;rw [Zq]at hs;have ol:=jg (k :: s);rw [Zq]at ol;have tm:=yz h hp hl (opN (k :: s)) (by lia)
  rw [decide_eq_true (show 1<((opN (k :: s)).length:Int) by lia),Bool.and_true]at tm
  by_cases hh:R.head?=some 41
  ·cases R with
   |nil=>cases hh
   |cons c R =>
    have hc:c=41:=Zx hh;subst hc;rw [decide_eq_true hh]at tm;have hp1:p<t.length:=by
     have:=congrArg List.length h;rw [ZD,Zq]at this
     lia
    have h2:t.drop (p+1)=R:=by
     have:=congrArg (List.drop 1) h;rw [List.drop_drop]at this;exact this
    obtain ⟨op',R',p',q1,q2,q3,q4,q5,q6,q7⟩:=ih R (p+1) h2 (by lia) (by lia)
    refine ⟨op',R',p',?_,q2,q3,by lia,by rw [Zq];lia,λrows=>?_,q7⟩
    ·rw [ol,AG tm (by rw [ol]),opN,List.dropLast_concat]
     rw [jg]at q1;exact q1
    ·rw [sP,if_neg (by decide),if_pos rfl]
     exact q6 rows
  ·rw [decide_eq_false hh]at tm
   exact ⟨k :: s,R,p,pA _ tm,h,hp,Zm _,Zm _,λ_=>rfl,λz=>absurd z hh⟩
theorem AX {t:List Nat} {a1 a3 a4:Option OD} {s s':List Nat} {p p':Nat} (h:shR bz (.str (sS t)) (opN s).length (p:Int) (opN s)=.ok (.int (p':Int),opN s')) :
  sI 5 0 5 2 bL [some (.sh (.str (sS t))),a1,some (.ol ((opN s).map OD.sh)),a3,a4,some (.sh (.int (p:Int)))]=.ok (.nx [some (.sh (.str (sS t))),a1,some (.ol ((opN s').map OD.sh)),a3,a4,some (.sh (.int (p':Int)))]):=by
 show (match shs ((opN s).map OD.sh) with
  |some ds=>(bL [.str (sS t),.int (p:Int)] ds).bind _
  |none=>.bad)=_
 rw [rF];show (shR bz (.str (sS t)) (opN s).length (p:Int) (opN s)).bind _=_
 rw [h];rfl
theorem AD {R:List Nat} {rows:List Nd} {op:List Nat} (h1:¬(0<op.length/\R.head?=some 44)) (h2:0<op.length\/R≠[]) (h3:R.head?=some 41->op=[]):M R rows op none=none:=by
 cases R with
 |nil =>
  cases op with
  |nil=>simp at h2
  |cons k s=>rfl
 |cons c T =>
  rw [sP];split
  ·rename_i hc
   subst hc;cases op with
   |nil=>rfl
   |cons k s=>exact absurd ⟨by simp,rfl⟩ h1
  ·split
   ·rename_i hc
    subst hc;rw [h3 rfl]
   ·rfl
noncomputable def rN (t:List Nat) (rows:List Nd) (s:List Nat) (p:Nat) (b:Bool) (v:Option OD):L3.Env:=[some (.sh (.str (sS t))),some (.ol ((aW rows).map OD.sh)),some (.ol ((opN s).map OD.sh)),some (.sh (.int (p:Int))),some (.sh (.bool b)),v]
theorem ym:∀T:List Nat,∃w R,T=w++R/\(∀c∈w,spB c=false)/\∀c,R.head?=some c->spB c=true
 |[]=>⟨[],[],rfl,(λ_ h=>by cases h),λ_ h=>by cases h⟩
 |c :: T=>by
  cases hc:spB c with
  |true=>exact ⟨[],c :: T,rfl,(λ_ h=>by cases h),λx hx=>by cases hx;exact hc⟩
  |false =>
   obtain ⟨w,R,rfl,h1,h2⟩:=ym T;refine ⟨c :: w,R,rfl,λx hx=>?_,h2⟩
   rcases Zn.mp hx with rfl | hx
   ·exact hc
   ·exact h1 x hx
theorem AS {t:List Nat} (tl:t.length<=600) (asc:∀c∈t,c<128):c9 [.str (sS t)]=match M t [] [] (some []) with
  |some rows=>.ok (.ol ((aW rows).map OD.sh))
  |none=>.ex "NoText" := by
 unfold c9 gD;have el:(sS t).length=t.length:=aX t;have lb:(t.length<=BIG)=True:=aN (by lia)
 generalize hres:M t [] [] (some [])=res
 push_cast only [and_self];generalize hL:cM _ _ _=r
 refine rO hL (λm ρ=>(∃(rows:List Nd) (op:List Nat) (p:Nat) (v:Option OD),ρ=rN t rows op p true v/\m=t.length+1-p/\p<=t.length/\op.length<=100/\rows.length<=p/\M (t.drop p) rows op (some [])=res)\/(m=0/\∃(rows:List Nd) (op:List Nat) (p:Nat) (v:Option OD),ρ=rN t rows op p false v/\res=some rows)) (t.length+1)
  (.inl ⟨[],[],0,_,rfl,rfl,Nat.zero_le _,by decide,Nat.zero_le _,hres⟩)
  (λr=>(∃(rows:List Nd) (op:List Nat) (p:Nat) (v:Option OD),r=.ok (.nx (rN t rows op p false v))/\res=some rows)\/(r=.ex "NoText" /\ res=none)) (λz=>by
   rcases z with ⟨_,_,_,_,z,_⟩ | ⟨z,_⟩ <;> cases z) ?_ ?_
 ·rintro m ρ (⟨rows,op,p,v,rfl,rfl,hp,hop,hrw,hM⟩ | ⟨rfl,rows,op,p,v,rfl,hr⟩)
  ·right
   refine ⟨by unfold rN;push_cast only [and_self],?_⟩
   obtain ⟨w,R,hT,hw,hR⟩:=ym (t.drop p);rw [hT,vq w [] hw,List.nil_append]at hM;have hlen:p+w.length+R.length=t.length:=by
    have:=congrArg List.length hT;rw [ZD,Zd]at this
    lia
   have ne:=pP hT hp tl asc hw hR;have sl:Txt.slice (sS t) (some (p:Int)) (some ((p+w.length:Nat):Int))=sS w:=by
    rw [p8 t _ _ (by lia) (by lia),hT,show p+w.length-p=w.length by lia,List.take_left]
   have ht2:t.drop (p+w.length)=R:=by
    rw [<-List.drop_drop,hT,List.drop_left]
   have wa:∀c∈w,c<128:=λc hc=>asc c (List.mem_of_mem_drop (i:=p) (by rw [hT];exact Zv _ hc))
   have rn:=yT wa (by lia) (eM op)
   have la:=tV op;have lo:(opN op).length=op.length+1:=jg op;have lbo:(op.length+1<=BIG)=True:=aN (by lia)
   have lto:(op.length+1<BIG)=True:=mw (by lia)
   have ltr:(aW rows).length=rows.length:=cP _;have ltk:(rows.length<BIG)=True:=mw (by lia)
   have i1:=vI ht2 (by lia) s40
   cases hrd:rdN w with
   |none =>
    rw [hrd]at rn;have hb:=CZ (rows:=rows) (op:=op) hrd hR;rw [hM]at hb;generalize hE:p+w.length=E at *
    unfold rN;push_cast only [ne,dw,la,lo,lbo,lto,el,lb,fm,sl,rn,ltr,ltk,cN,qH,t_]
    first | exact .inr hb | exact .inr ⟨rfl,hb⟩
   |some pr =>
    rw [hrd]at rn;have ern:da [.int (eM op),.str (sS w)]=.ok (.sh (.tuple [.int (eM op),.str (sS pr.1),.int pr.2])):=rn;have hrows:(aW rows).map OD.sh++[OD.sh (.tuple [.int (eM op),.str (sS pr.1),.int pr.2])]=(aW (rows++[dN (eM op) pr])).map OD.sh:=by
     rw [jY,Zk];rfl
    have lt2:(aW (rows++[dN (eM op) pr])).length=rows.length+1:=by rw [cP,Zd];rfl
    have lk2:(rows.length+1<=BIG)=True:=aN (by lia)
    have kk:((rows.length+1:Nat):Int)-1=(rows.length:Int):=by lia
    by_cases h40:R.head?=some 40
    ·cases R with
     |nil=>cases h40
     |cons c R =>
      have hc:c=40:=Zx h40;subst hc;rw [decide_eq_true h40]at i1;rw [GS hrd]at hM;have ck:=xy (d:=((op.length+1:Nat):Int));have op2:(opN op).map OD.sh++[OD.sh (.int (rows.length:Int))]=(opN (rows.length :: op)).map OD.sh:=by rw [opN,Zk];rfl
      have lo2:(opN (rows.length :: op)).length=op.length+2:=by rw [jg,Zq]
      have lbo2:(op.length+2<=BIG)=True:=aN (by lia)
      have kk2:((op.length+2:Nat):Int)-1=((op.length+1:Nat):Int):=by lia
      rw [Zq]at hlen;have ht3:t.drop (p+w.length+1)=R:=by
       rw [<-List.drop_drop,ht2];rfl
      generalize hE:p+w.length=E at *
      have kE:(E:Int)+1=((E+1:Nat):Int):=by lia
      rw [kE]at i1;by_cases hd:op.length+1<=100
      ·rw [if_pos (by lia)]at ck
       rw [if_pos hd]at hM;unfold rN;push_cast only [ne,dw,la,lo,lbo,lto,el,lb,fm,sl,ern,ltr,ltk,hrows,i1,lt2,lk2,kk,op2,lo2,lbo2,kk2,ck,kE,rj];refine ⟨_,?_,.inl ⟨rows++[dN (eM op) pr],rows.length :: op,E+1,_,rfl,rfl,by lia,hd,by rw [Zd];show rows.length+1<=_;lia,by rw [ht3];exact hM⟩⟩
       lia
      ·rw [if_neg (by lia)]at ck
       rw [if_neg hd]at hM;unfold rN;push_cast only [ne,dw,la,lo,lbo,lto,el,lb,fm,sl,ern,ltr,ltk,hrows,i1,lt2,lk2,kk,op2,lo2,lbo2,kk2,ck,kE,cN,t_]
       first | exact .inr hM.symm | exact .inr ⟨rfl,hM.symm⟩
    ·rw [decide_eq_false h40]at i1
     rw [Be hrd hR h40]at hM;obtain ⟨op',R',p',q1,q2,q3,q4,q5,q6,q7⟩:=AJ tl op R (p+w.length) ht2 (by lia) (by lia)
     rw [q6]at hM;have mu:=λa1 a3 a4=>AX (a1:=a1) (a3:=a3) (a4:=a4) q1
     have lo2:(opN op').length=op'.length+1:=jg op';have lbo2:(op'.length+1<=BIG)=True:=aN (by lia)
     have kk2:((op'.length+1:Nat):Int)-1=(op'.length:Int):=by lia
     have go:=BV (d:=op'.length) q2 q3 tl;have kE:(p':Int)+1=((p'+1:Nat):Int):=by lia
     generalize hE:p+w.length=E at *
     by_cases g1:0<op'.length/\R'.head?=some 44
     ·rw [if_pos g1]at go
      cases R' with
      |nil=>cases g1.2
      |cons c T =>
       have hc:c=44:=Zx g1.2;subst hc;have hp1:p'<t.length:=by
        have:=congrArg List.length q2;rw [ZD,Zq]at this
        lia
       have ht3:t.drop (p'+1)=T:=by
        rw [<-List.drop_drop,q2];rfl
       have hM2:M T (rows++[dN (eM op) pr]) op' (some [])=res:=by
        rw [sP,if_pos rfl]at hM;cases op' with
        |nil=>simp at g1
        |cons k s=>exact hM
       unfold rN;push_cast only [ne,dw,la,lo,lbo,lto,el,lb,fm,sl,ern,ltr,ltk,hrows,i1,mu,lo2,lbo2,kk2,go,kE,rj];refine ⟨_,?_,.inl ⟨rows++[dN (eM op) pr],op',p'+1,_,rfl,rfl,by lia,by lia,by rw [Zd];show rows.length+1<=_;lia,by rw [ht3];exact hM2⟩⟩
       lia
     ·rw [if_neg g1]at go
      by_cases g2:0<op'.length\/R'≠[]
      ·rw [if_pos g2]at go
       rw [AD g1 g2 q7]at hM;unfold rN;push_cast only [ne,dw,la,lo,lbo,lto,el,lb,fm,sl,ern,ltr,ltk,hrows,i1,mu,lo2,lbo2,kk2,go,kE,cN,t_]
       first | exact .inr hM.symm | exact .inr ⟨rfl,hM.symm⟩
      ·rw [if_neg g2]at go
       have z1:op'=[]:=List.length_eq_zero_iff.mp (by lia)
       have z2:R'=[]:=Classical.byContradiction λz=>g2 (.inr z)
       rw [z1,z2,M]at hM;unfold rN;push_cast only [ne,dw,la,lo,lbo,lto,el,lb,fm,sl,ern,ltr,ltk,hrows,i1,mu,lo2,lbo2,kk2,go,kE,rj];exact ⟨0,by lia,.inr ⟨rfl,rows++[dN (eM op) pr],op',p'+1,_,rfl,hM.symm⟩⟩
  ·left
   exact ⟨by unfold rN;push_cast only [and_self],.inl ⟨rows,op,p,v,rfl,hr⟩⟩
 ·rintro (⟨rows,op,p,v,rfl,hr⟩ | ⟨rfl,hr⟩)
  ·rw [hr]
   unfold rN;push_cast only [and_self]
  ·rw [hr]
   push_cast only [cN,cO]
theorem yX {l:List Nat} (h:jw (sS l)=true):nq (sS l):=by
 unfold jw at h;rw [Zu,List.all_eq_true]at h;have h1:=of_decide_eq_true h.1;exact ⟨by lia,by lia,λc hc=>of_decide_eq_true (h.2 c hc)⟩
theorem uc:∀{R:List Nat} {t:Int},rdT R=some t->(R=[]/\t=1)\/∃a x:Nat,R=[a,x]/\(50<=x/\x<=57)/\t=(x:Int)-48
 |[],t,h=>.inl ⟨rfl,(Zx h).symm⟩
 |[a],t,h=>by cases h
 |[a,x],t,h=>by
  have h':(if 50<=x/\x<=57 then some ((x:Int)-48) else none)=some t:=h
  by_cases hx:50<=x/\x<=57
  ·rw [if_pos hx]at h'
   exact .inr ⟨a,x,rfl,hx,(Zx h').symm⟩
  ·rw [if_neg hx]at h'
   cases h'
 |a :: x :: y :: r,t,h=>by cases h
theorem rR:∀{w R:List Nat} {a:Nat},wr w=a :: R->a=42
 |[],R,a,h=>by cases h
 |c :: w,R,a,h=>by
  unfold wr at h;by_cases hc:c=42
  ·subst hc
   exact (List.cons.inj h).1.symm
  ·rw [List.dropWhile_cons_of_pos (qj hc)]at h
   exact rR (w:=w) h
theorem pV {w:List Nat} {pr:List Nat×Int} (h:rdN w=some pr) (e:Int):ntN (dN e pr)=w/\gY (dN e pr):=by
 unfold rdN at h;split at h
 ·rename_i hb
  have hl:=yX hb;obtain ⟨t,ht,rfl⟩:=Zo.mp h;have hw:wn w++wr w=w:=List.takeWhile_append_dropWhile;show cs (sS (wn w))++(if 1<t then [42,48+t.toNat] else [])=w/\nq (sS (wn w))/\1<=t/\t<=9
  rw [bN];rcases uc ht with ⟨hR,rfl⟩ | ⟨a,x,hR,hx,rfl⟩
  ·rw [hR]at hw
   exact ⟨by rw [if_neg (by lia)];exact hw,hl,by lia,by lia⟩
  ·have ha:=rR hR
   subst ha;rw [hR]at hw;refine ⟨?_,hl,by lia,by lia⟩
   rw [if_pos (by lia),show 48+((x:Int)-48).toNat=x by lia]
   exact hw
 ·cases h
structure Fo (ts rows:List Nd) (op:List Nat) (r0:F) (s:List (Nat×F)):Prop where
 ex:∃news,ts=rows++news/\∀n∈news,gY n
 ops:s.map (·.1)=op
 pre:F.pre r0++vt s=List.range' rows.length (ts.length-rows.length)
 eld:F.Eld (eOf ts) (eM op) r0
 es:Ck (eOf ts) s
 bot:Bot s
theorem qf:∀s:List (Nat×F),Dn s=eM (s.map (·.1))
 |[]=>rfl
 | (k,r) :: s=>rfl
theorem ue {rows news:List Nd} {n:Nd}:(rows++[n]++news)[rows.length]?=some n:=by
 rw [ZB,List.getElem?_append_right (Zm _),Nat.sub_self];rfl
theorem Fo.new {ts rows:List Nd} {n:Nd} {op:List Nat} {r0:F} {s:List (Nat×F)} (h:Fo ts (rows++[n]) op r0 s):ts[rows.length]?=some n/\rows.length<ts.length/\List.range' rows.length (ts.length-rows.length)=rows.length :: (F.pre r0++vt s):=by
 obtain ⟨news,e,_⟩:=h.ex;have a:ts[rows.length]?=some n:=by rw [e];exact ue
 have b:rows.length<ts.length:=(Zb.mp a).1;refine ⟨a,b,?_⟩;rw [h.pre,Zd,show ts.length-rows.length=(ts.length-(rows.length+1))+1 by lia,List.range'_succ]
 rfl
theorem Fo.ex1 {ts rows:List Nd} {n:Nd} {op:List Nat} {r0:F} {s:List (Nat×F)} (h:Fo ts (rows++[n]) op r0 s) (hn:gY n):∃news,ts=rows++news/\∀n∈news,gY n:=by
 obtain ⟨news,e,k⟩:=h.ex;refine ⟨n :: news,by rw [e,ZB];rfl,λx hx=>?_⟩
 rcases Zn.mp hx with rfl | hx
 ·exact hn
 ·exact k x hx
theorem t6 {ts:List Nd}:∀(T:List Nat) (rows:List Nd) (op:List Nat),
  (∀w,M T rows op (some w)=some ts->∃r0 s,Fo ts rows op r0 s/\w++T=tf ts r0++cl ts s/\r0≠F.nil/\(op=[]->∃k c,r0=F.cons k c F.nil)) /\
  (M T rows op none=some ts->∃r0 s,Fo ts rows op r0 s/\T=tlr ts r0++cl ts s/\(op=[]->r0=F.nil)):=by
 intro T
 induction T with
 |nil =>
  intro rows op;constructor
  ·intro w h
   cases op with
   |cons k s=>cases h
   |nil =>
    have h':((rdN w).map λp=>rows++[dN (-1) p])=some ts:=h
    obtain ⟨p,hp,rfl⟩:=Zo.mp h';obtain ⟨e1,e2⟩:=pV hp (-1);have hn:(rows++[dN (-1) p])[rows.length]?=some (dN (-1) p):=by
     have:=ue (rows:=rows) (news:=[]) (n:=dN (-1) p);rw [Zw]at this;exact this
    refine ⟨F.cons rows.length F.nil F.nil,[],⟨⟨_,rfl,λn hn=>by rw [List.mem_singleton.mp hn];exact e2⟩,rfl,?_,⟨?_,trivial,trivial⟩,trivial,trivial⟩,?_,(λz=>nomatch z),λ_=>⟨_,_,rfl⟩⟩
    ·rw [Zd,List.length_singleton,show rows.length+1-rows.length=1 by lia]
     rfl
    ·rw [cT hn]
     rfl
    ·rw [d6,show eY (rows++[dN (-1) p]) rows.length=dN (-1) p by unfold eY;rw [hn];rfl,e1]
     show w++[]=w++([]++[])++[]
     simp only [Zw]
  ·intro h
   cases op with
   |cons k s=>cases h
   |nil =>
    have h':some rows=some ts:=h;cases h';exact ⟨F.nil,[],⟨⟨[],(Zw _).symm,λ_ z=>by cases z⟩,rfl,by rw [Nat.sub_self];rfl,trivial,trivial,trivial⟩,rfl,λ_=>rfl⟩
 |cons c T ih =>
  intro rows op;constructor
  ·intro w h
   rw [rY]at h;by_cases h40:c=40
   ·rw [if_pos h40]at h
    subst h40;obtain ⟨p,hp,h⟩:=Option.bind_eq_some_iff.mp h;split at h
    ·obtain ⟨e1,e2⟩:=pV hp (eM op)
     obtain ⟨r1,s1,f,ht,hne,_⟩:=(ih _ _).1 _ h;obtain ⟨a,b,d⟩:=f.new;have ho:=f.ops;cases s1 with
     |nil=>cases ho
     |cons x s' =>
      obtain ⟨n,rr⟩:=x;rw [Zj]at ho;obtain ⟨ho1,ho2⟩:=List.cons.inj ho;have ho1:n=rows.length:=ho1;subst ho1;obtain ⟨es1,es2⟩:=f.es;rw [qf,ho2]at es1;refine ⟨F.cons rows.length r1 rr,s',⟨f.ex1 e2,ho2,?_,⟨by rw [cT a];rfl,f.eld,es1⟩,es2,f.bot.2⟩,?_,(λz=>nomatch z),λz=>?_⟩
      ·rw [d]
       show rows.length :: (F.pre r1++F.pre rr)++vt s'=rows.length :: (F.pre r1++(F.pre rr++vt s'))
       rw [List.cons_append,ZB]
      ·rw [d6,show eY ts rows.length=dN (eM op) p by unfold eY;rw [a];rfl,e1]
       have ht':T=tf ts r1++(41 :: (tlr ts rr++cl ts s')):=ht;cases r1 with
       |nil=>exact absurd rfl hne
       |cons x y z =>
        rw [e7,ht'];simp only [ZB,List.cons_append,List.nil_append]
      ·refine ⟨_,_,congrArg _ (f.bot.1 ?_)⟩
       rw [z]at ho2;exact List.map_eq_nil_iff.mp ho2
    ·cases h
   ·rw [if_neg h40]at h
    by_cases h44:c=44
    ·rw [if_pos h44]at h
     subst h44;obtain ⟨p,hp,h⟩:=Option.bind_eq_some_iff.mp h;cases op with
     |nil=>cases h
     |cons k s0 =>
      obtain ⟨e1,e2⟩:=pV hp (eM (k :: s0));obtain ⟨r1,s1,f,ht,hne,_⟩:=(ih _ _).1 _ h;obtain ⟨a,b,d⟩:=f.new;refine ⟨F.cons rows.length F.nil r1,s1,⟨f.ex1 e2,f.ops,by rw [d];rfl,⟨by rw [cT a];rfl,trivial,f.eld⟩,f.es,f.bot⟩,?_,(λz=>nomatch z),λz=>nomatch z⟩
      rw [d6,show eY ts rows.length=dN (eM (k :: s0)) p by unfold eY;rw [a];rfl,e1]
      have ht':T=tf ts r1++cl ts s1:=ht;cases r1 with
      |nil=>exact absurd rfl hne
      |cons x y z =>
       rw [ht',fi,ZB];rfl
    ·rw [if_neg h44]at h
     by_cases h41:c=41
     ·rw [if_pos h41]at h
      subst h41;obtain ⟨p,hp,h⟩:=Option.bind_eq_some_iff.mp h;cases op with
      |nil=>cases h
      |cons k s0 =>
       obtain ⟨e1,e2⟩:=pV hp (eM (k :: s0));obtain ⟨r1,s1,f,ht,h0⟩:=(ih _ _).2 h;obtain ⟨a,b,d⟩:=f.new;refine ⟨F.cons rows.length F.nil F.nil,(k,r1) :: s1,⟨f.ex1 e2,by rw [Zj,f.ops],by rw [d];rfl,⟨by rw [cT a];rfl,trivial,trivial⟩,⟨by rw [qf,f.ops];exact f.eld,f.es⟩,⟨λz=>h0 ?_,f.bot⟩⟩,?_,(λz=>nomatch z),λz=>nomatch z⟩
       ·rw [<-f.ops,z]
        rfl
       ·rw [d6,show eY ts rows.length=dN (eM (k :: s0)) p by unfold eY;rw [a];rfl,e1,ht]
        show w++_=w++([]++[])++_
        rw [Zw,Zw];rfl
     ·rw [if_neg h41]at h
      obtain ⟨r1,s1,f,ht,hne,h0⟩:=(ih rows op).1 _ h;exact ⟨r1,s1,f,by rw [<-ht,ZB];rfl,hne,h0⟩
  ·intro h
   rw [sP]at h;by_cases h44:c=44
   ·rw [if_pos h44]at h
    subst h44;cases op with
    |nil=>cases h
    |cons k s0 =>
     obtain ⟨r1,s1,f,ht,hne,_⟩:=(ih _ _).1 _ h;have ht':T=tf ts r1++cl ts s1:=ht;refine ⟨r1,s1,f,?_,λz=>nomatch z⟩
     cases r1 with
     |nil=>exact absurd rfl hne
     |cons x y z =>
      rw [fi,ht'];rfl
   ·rw [if_neg h44]at h
    by_cases h41:c=41
    ·rw [if_pos h41]at h
     subst h41;cases op with
     |nil=>cases h
     |cons k s0 =>
      obtain ⟨r1,s1,f,ht,h0⟩:=(ih _ _).2 h;refine ⟨F.nil,(k,r1) :: s1,⟨f.ex,by rw [Zj,f.ops],f.pre,trivial,⟨by rw [qf,f.ops];exact f.eld,f.es⟩,⟨λz=>h0 (by rw [<-f.ops,z];rfl),f.bot⟩⟩,by rw [ht];rfl,λz=>nomatch z⟩
    ·rw [if_neg h41]at h
     cases h
theorem BG {t:List Nat} {ts:List Nd} (h:M t [] [] (some [])=some ts):∃c,PT ts c/\t=tf ts (F.full c)/\∀n∈ts,gY n:=by
 obtain ⟨r0,s,f,ht,_,h0⟩:=(t6 t [] []).1 _ h;obtain ⟨k,c,rfl⟩:=h0 rfl;have hs:s=[]:=List.map_eq_nil_iff.mp f.ops;subst hs;obtain ⟨news,e,ok⟩:=f.ex;have hp:=f.pre;have hp':k :: (F.pre c++[])++[]=List.range' 0 ts.length:=hp;rw [Zw,Zw]at hp';obtain ⟨hk,_,_⟩:=gR hp';subst hk;obtain ⟨e1,e2,_⟩:=f.eld;refine ⟨c,⟨by rw [List.range_eq_range'];exact hp',e1,e2⟩,?_,?_⟩
 ·have ht':t=tf ts (F.cons 0 c F.nil)++[]:=ht
  rw [Zw]at ht';exact ht'
 ·rw [e]
  exact ok
noncomputable def nm (w:List Nat):Bool:=(rdN w).isSome
noncomputable def dn (w:List Nat):Bool:=if w.getLast?=some 33 then nm w.dropLast else nm w
noncomputable def Acc:List Nat->Nat->List Nat->Bool
 |[],d,w=>dn w && decide (d=0)
 |c :: T,d,w=>if c=40 then nm w && Acc T (d+1) [] else if c=44 then dn w && (decide (0<d) && Acc T d []) else if c=41 then dn w && (decide (0<d) && Acc T (d-1) [97,33]) else Acc T d (w++[c])
noncomputable def stp (c:Nat):Int:=(if c=40 then 1 else 0)-(if c=41 then 1 else 0)
noncomputable def dmx:List Nat->Int->Int->Int
 |[],_,most=>most
 |c :: T,now,most=>dmx T (now+stp c) (max most (now+stp c))
theorem tq:∀(T:List Nat) (now most:Int),most<=dmx T now most
 |[],_,_=>Int.le_refl _
 |c :: T,now,most=>Int.le_trans (Int.le_max_left _ _) (tq T _ _)
theorem yn {n:Nd} (h:gY n):∀c∈ntN n,c≠33:=λc hc=>by
 unfold ntN tlN at hc;rcases Zr.mp hc with hc | hc
 ·have:=h.1.2.2 c hc
  lia
 ·split at hc
  ·have h1:=h.2.1
   have h2:=h.2.2;rcases Zn.mp hc with rfl | hc
   ·decide
   ·rw [List.mem_singleton.mp hc]
    lia
  ·cases hc
theorem Fw {w:List Nat} (h:nm w=true):∃pr,rdN w=some pr:=Option.isSome_iff_exists.mp h
theorem pK {w:List Nat} (h:nm w=true):∀c∈w,c≠33/\spB c=false:=λc hc=>by
 obtain ⟨pr,e⟩:=Fw h;obtain ⟨e1,e2⟩:=pV e 0;rw [<-e1]at hc;exact ⟨yn e2 c hc,(oT e2 c hc).2⟩
theorem o_ {w:List Nat} (h:33∈w):nm w=false:=by
 cases e:nm w with
 |false=>rfl
 |true=>exact absurd rfl (pK e 33 h).1
theorem qr {w:List Nat} (h:33∈w.dropLast):nm w=false/\dn w=false:=by
 have h1:=o_ ((List.dropLast_sublist w).subset h);refine ⟨h1,?_⟩;unfold dn;split
 ·exact o_ h
 ·exact h1
theorem oq:∀(T:List Nat) (d:Nat) (w:List Nat),33∈w.dropLast->Acc T d w=false:=by
 intro T
 induction T with
 |nil=>exact λd w h=>by rw [Acc,(qr h).2];rfl
 |cons c T ih =>
  intro d w h;rw [Acc,(qr h).1,(qr h).2];split
  ·rfl
  ·split
   ·rfl
   ·split
    ·rfl
    ·exact ih d _ (by rw [List.dropLast_concat];exact (List.dropLast_sublist w).subset h)
theorem lz {n:List Nat} (h:nm n=true):dn (n++[33])=true:=by
 unfold dn;rw [List.getLast?_concat,if_pos rfl,List.dropLast_concat];exact h
theorem An:nm [97]=true:=by decide +kernel
theorem tY {T:List Nat} {d:Nat} {n:List Nat} (h:nm n=true):Acc T d [97,33]=Acc T d (n++[33]):=by
 have h1:dn [97,33]=true:=lz An;have h2:=lz h;have h3:nm [97,33]=false:=o_ (by simp)
 have h4:nm (n++[33])=false:=o_ (by simp)
 cases T with
 |nil=>rw [Acc,Acc,h1,h2]
 |cons c T =>
  rw [Acc,Acc,h1,h2,h3,h4];split
  ·rfl
  ·split
   ·rfl
   ·split
    ·rfl
    ·rw [oq T d _ (by rw [List.dropLast_concat];simp),oq T d _ (by rw [List.dropLast_concat];simp)]
theorem yg {w:List Nat} (h:33∉w):dn w=nm w:=by
 unfold dn;rw [if_neg];intro z;exact h (List.mem_of_getLast? z)
theorem Bl {w:List Nat} (h:rdN w=none):nm w=false:=by unfold nm;rw [h];rfl
theorem AK {w:List Nat} {p:List Nat×Int} (h:rdN w=some p):nm w=true:=by unfold nm;rw [h];rfl
theorem yE:stp 40=1:=rfl
theorem uN:stp 41=-1:=rfl
theorem tK {c:Nat} (h1:c≠40) (h2:c≠41):stp c=0:=by unfold stp;rw [if_neg h1,if_neg h2];rfl
theorem yH:∀(T:List Nat) (rows:List Nd) (op:List Nat) (most:Int),33∉T->op.length<=100->most<=100 ->
  (∀w,33∉w->(M T rows op (some w)).isSome=(Acc T op.length w && decide (dmx T op.length most<=100))) /\
  (M T rows op none).isSome=(Acc T op.length [97,33] && decide (dmx T op.length most<=100)):=by
 intro T
 induction T with
 |nil =>
  intro rows op most _ _ hm;have d1:decide (dmx [] (op.length:Int) most<=100)=true:=decide_eq_true hm;rw [d1,Bool.and_true];constructor
  ·intro w hw
   rw [Acc,yg hw,Bool.and_true];cases op with
   |nil =>
    show ((rdN w).map λp=>rows++[dN (-1) p]).isSome=_
    rw [Option.isSome_map];exact (Bool.and_true _).symm
   |cons k s=>exact (Bool.and_false _).symm
  ·have h1:dn [97,33]=true:=lz An
   rw [Acc,h1];cases op with
   |nil=>rfl
   |cons k s=>rfl
 |cons c T ih =>
  intro rows op most h33 hop hm;have hc33:c≠33:=λz=>h33 (by rw [z];exact Zf)
  have hT:33∉T:=λz=>h33 (Ze _ z)
  constructor
  ·intro w hw
   rw [rY,Acc,dmx,yg hw];by_cases h40:c=40
   ·rw [if_pos h40,if_pos h40]
    subst h40;cases hr:rdN w with
    |none =>
     rw [Bl hr];rfl
    |some p =>
     rw [AK hr,Bool.true_and,yE];show (if op.length+1<=100 then M T (rows++[dN (eM op) p]) (rows.length :: op) (some []) else none).isSome=_
     by_cases hd:op.length+1<=100
     ·rw [if_pos hd]
      have:=(ih (rows++[dN (eM op) p]) (rows.length :: op) (max most ((op.length:Int)+1)) hT hd (by lia)).1 [] (by simp)
      rw [Zq]at this;exact this
     ·rw [if_neg hd]
      have:=tq T ((op.length:Int)+1) (max most ((op.length:Int)+1));rw [decide_eq_false (by lia),Bool.and_false]
      rfl
   ·rw [if_neg h40,if_neg h40]
    by_cases h44:c=44
    ·rw [if_pos h44,if_pos h44]
     subst h44;rw [tK (by decide) (by decide),Int.add_zero]
     cases hr:rdN w with
     |none =>
      rw [Bl hr];rfl
     |some p =>
      rw [AK hr,Bool.true_and];cases op with
      |nil=>rfl
      |cons k s =>
       have:=(ih (rows++[dN (eM (k :: s)) p]) (k :: s) (max most ((k :: s).length:Int)) hT hop (by lia)).1 [] (by simp)
       rw [decide_eq_true (show 0<(k :: s).length by simp),Bool.true_and]
       exact this
    ·rw [if_neg h44,if_neg h44]
     by_cases h41:c=41
     ·rw [if_pos h41,if_pos h41]
      subst h41;rw [uN];cases hr:rdN w with
      |none =>
       rw [Bl hr];rfl
      |some p =>
       rw [AK hr,Bool.true_and];cases op with
       |nil=>rfl
       |cons k s =>
        rw [Zq]at hop;have:=(ih (rows++[dN (eM (k :: s)) p]) s (max most (s.length:Int)) hT (by lia) (by lia)).2
        rw [decide_eq_true (show 0<(k :: s).length by simp),Bool.true_and,Zq,show ((s.length+1:Nat):Int)+-1=(s.length:Int) by lia]
        exact this
     ·rw [if_neg h41,if_neg h41,tK h40 h41,Int.add_zero]
      refine (ih rows op (max most (op.length:Int)) hT hop (by lia)).1 (w++[c]) λz=>?_
      rcases Zr.mp z with z | z
      ·exact hw z
      ·exact hc33 (List.mem_singleton.mp z).symm
  ·rw [sP,Acc,dmx]
   have h1:dn [97,33]=true:=lz An;have h3:nm [97,33]=false:=o_ (by simp)
   rw [h1,h3];by_cases h44:c=44
   ·subst h44
    rw [if_pos rfl,if_neg (by decide),if_pos rfl,tK (by decide) (by decide),Int.add_zero,Bool.true_and]
    cases op with
    |nil=>rfl
    |cons k s =>
     have:=(ih rows (k :: s) (max most ((k :: s).length:Int)) hT hop (by lia)).1 [] (by simp)
     rw [decide_eq_true (show 0<(k :: s).length by simp),Bool.true_and]
     exact this
   ·rw [if_neg h44]
    by_cases h41:c=41
    ·subst h41
     rw [if_pos rfl,if_neg (by decide),if_neg (by decide),if_pos rfl,uN,Bool.true_and]
     cases op with
     |nil=>rfl
     |cons k s =>
      rw [Zq]at hop;have:=(ih rows s (max most (s.length:Int)) hT (by lia) (by lia)).2
      rw [decide_eq_true (show 0<(k :: s).length by simp),Bool.true_and,Zq,show ((s.length+1:Nat):Int)+-1=(s.length:Int) by lia]
      exact this
    ·rw [if_neg h41]
     by_cases h40:c=40
     ·rw [if_pos h40]
      rfl
     ·rw [if_neg h40,if_neg h44,if_neg h41,oq T _ _ (by rw [List.dropLast_concat];simp)]
      rfl
section
variable {ts:List Nd}
noncomputable def cm (l:List Nat):Nat:=l.count 44+l.count 40
theorem mn (a b:List Nat):cm (a++b)=cm a+cm b:=by
 unfold cm;rw [List.count_append,List.count_append]
 lia
theorem wR {w:List Nat} (h:∀c∈w,spB c=false):cm w=0:=by
 unfold cm;rw [List.count_eq_zero.mpr λz=>by have:=(p7 (h 44 z)).2.2;lia,List.count_eq_zero.mpr λz=>by have:=(p7 (h 40 z)).1;lia]
theorem E4 (ok:∀n∈ts,gY n):∀f:F,(∀k∈F.pre f,k<ts.length)->f≠F.nil->cm (tf ts f)+1=(F.pre f).length:=by
 intro f
 induction f with
 |nil=>exact λ_ h=>absurd rfl h
 |cons k c r ih1 ih2 =>
  intro hk _;rw [d6,mn,mn];have hk0:=hk k (by rw [F.pre];exact Zf)
  have e0:=wR λx hx=>(oT (ok _ (Zz (iN hk0))) x hx).2
  have e1:cm (kid ts c)=(F.pre c).length:=by
   cases c with
   |nil=>rfl
   |cons x y z =>
    have:=ih1 (λq hq=>hk q (by rw [F.pre];exact Ze _ (Zv _ hq))) (λz=>nomatch z)
    rw [e7,show (40 :: (tf ts (F.cons x y z)++[41]))=[40]++(tf ts (F.cons x y z)++[41]) from rfl,mn,mn,show cm [40]=1 from rfl,show cm [41]=0 from rfl]
    lia
  have e2:cm (tlr ts r)=(F.pre r).length:=by
   cases r with
   |nil=>rfl
   |cons x y z =>
    have:=ih2 (λq hq=>hk q (by rw [F.pre];exact Ze _ (Zp _ hq))) (λz=>nomatch z)
    rw [fi,show (44 :: tf ts (F.cons x y z))=[44]++tf ts (F.cons x y z) from rfl,mn,show cm [44]=1 from rfl]
    lia
  rw [F.pre,Zq,Zd,e0,e1,e2]
  lia
noncomputable def hF:F->Nat
 |.nil=>0
 |.cons _ c r=>max (match c with
  |.nil=>0
  |c=>hF c+1) (hF r)
theorem pD {R:List Nat} {now most:Int} (h0:now<=most):∀w:List Nat,(∀c∈w,spB c=false)->dmx (w++R) now most=dmx R now most
 |[],_=>rfl
 |c :: w,h=>by
  obtain ⟨h1,h2,_⟩:=p7 (h c Zf);rw [List.cons_append,dmx,tK h1 h2,Int.add_zero,Int.max_eq_left h0];exact pD h0 w λx hx=>h x (Ze _ hx)
theorem y_ (ok:∀n∈ts,gY n):∀(f:F) (R:List Nat) (now most:Int),now<=most->(∀k∈F.pre f,k<ts.length)->dmx (tf ts f++R) now most=dmx R now (max most (now+hF f)):=by
 intro f
 induction f with
 |nil =>
  intro R now most h0 _;rw [show now+((hF F.nil:Nat):Int)=now from Int.add_zero _,Int.max_eq_left h0]
  rfl
 |cons k c r ih1 ih2 =>
  intro R now most h0 hk;have hk0:=hk k (by rw [F.pre];exact Zf)
  have hc:∀q∈F.pre c,q<ts.length:=λq hq=>hk q (by rw [F.pre];exact Ze _ (Zv _ hq))
  have hr:∀q∈F.pre r,q<ts.length:=λq hq=>hk q (by rw [F.pre];exact Ze _ (Zp _ hq))
  rw [d6,ZB,pD h0 _ λx hx=>(oT (ok _ (Zz (iN hk0))) x hx).2,ZB]
  have st2:∀m2:Int,now<=m2->dmx (tlr ts r++R) now m2=dmx R now (max m2 (now+hF r)):=λm2 h2=>by
   cases r with
   |nil =>
    rw [show now+((hF F.nil:Nat):Int)=now from Int.add_zero _,Int.max_eq_left h2]
    rfl
   |cons x y z =>
    rw [fi,List.cons_append,dmx,tK (by decide) (by decide),Int.add_zero,Int.max_eq_left h2]
    exact ih2 R now m2 h2 hr
  cases c with
  |nil =>
   have e:hF (F.cons k F.nil r)=hF r:=Nat.max_eq_right (Nat.zero_le _);rw [e];exact st2 most h0
  |cons x y z =>
   have e:hF (F.cons k (F.cons x y z) r)=max (hF (F.cons x y z)+1) (hF r):=rfl;rw [e,e7,List.cons_append,dmx,yE,ZB,ih1 _ (now+1) (max most (now+1)) (by lia) hc]
   rw [show [41]++(tlr ts r++R)=41 :: (tlr ts r++R) from rfl,dmx,uN,show now+1+-1=now by lia,st2 _ (by lia)]
   exact congrArg (dmx R now) (by lia)
theorem Gv (he:EL ts):∀(f:F) (p d:Nat),lvN ts p+1=d->F.Eld (eOf ts) (p:Int) f->(∀k∈F.pre f,k<ts.length)->((∀k∈F.pre f,lvN ts k<=8) ↔ (f=F.nil\/d+hF f<=8)):=by
 intro f
 induction f with
 |nil=>exact λp d _ _ _=>⟨λ_=>.inl rfl,λ_ k hk=>by cases hk⟩
 |cons k c r ih1 ih2 =>
  intro p d hd hE hk;obtain ⟨e1,e2,e3⟩:=hE;have hk0:=hk k (by rw [F.pre];exact Zf)
  have lk:lvN ts k=d:=by rw [nE he (lJ.mpr ⟨hk0,e1⟩),hd]
  have hc:∀q∈F.pre c,q<ts.length:=λq hq=>hk q (by rw [F.pre];exact Ze _ (Zv _ hq))
  have hr:∀q∈F.pre r,q<ts.length:=λq hq=>hk q (by rw [F.pre];exact Ze _ (Zp _ hq))
  have i1:=ih1 k (d+1) (by rw [lk]) e2 hc
  have i2:=ih2 p d hd e3 hr;have split:(∀q∈F.pre (F.cons k c r),lvN ts q<=8) ↔ (d<=8/\(∀q∈F.pre c,lvN ts q<=8)/\∀q∈F.pre r,lvN ts q<=8):=by
   rw [F.pre];constructor
   ·exact λh=>⟨by rw [<-lk];exact h k Zf,λq hq=>h q (Ze _ (Zv _ hq)),λq hq=>h q (Ze _ (Zp _ hq))⟩
   ·rintro ⟨h1,h2,h3⟩ q hq
    rcases Zn.mp hq with rfl | hq
    ·rw [lk];exact h1
    ·rcases Zr.mp hq with hq | hq
     ·exact h2 q hq
     ·exact h3 q hq
  rw [split,i1,i2];have rn:r=F.nil->hF r=0:=λz=>by rw [z];rfl
  cases c with
  |nil =>
   have eh:hF (F.cons k F.nil r)=hF r:=Nat.max_eq_right (Nat.zero_le _);rw [eh];constructor
   ·rintro ⟨h1,_,h3⟩
    right
    rcases h3 with h3 | h3
    ·rw [rn h3];lia
    ·lia
   ·rintro (h | h)
    ·cases h
    ·exact ⟨by lia,.inl rfl,.inr (by lia)⟩
  |cons x y z =>
   have eh:hF (F.cons k (F.cons x y z) r)=max (hF (F.cons x y z)+1) (hF r):=rfl;rw [eh];constructor
   ·rintro ⟨h1,h2,h3⟩
    right
    have h2':d+1+hF (F.cons x y z)<=8:=h2.elim (λz=>nomatch z) id
    rcases h3 with h3 | h3
    ·rw [rn h3];lia
    ·lia
   ·rintro (h | h)
    ·cases h
    ·exact ⟨by lia,.inr (by lia),.inr (by lia)⟩
theorem qv {c:F} (pt:PT ts c) (ok:∀n∈ts,gY n):cm (tf ts (F.full c))+1=ts.length/\(Dp ts 8 ↔ dmx (tf ts (F.full c)) 0 0<=8):=by
 have pin:∀k∈F.pre (F.full c),k<ts.length:=λk hk=>by
  rw [F.Pf.preF pt,ZF]at hk;exact hk
 have he:=ka pt;have p0:=F.Pf.pos pt;constructor
 ·rw [E4 ok _ pin (λz=>nomatch z),F.Pf.preF pt,Zh]
 ·have e:=y_ ok (F.full c) [] 0 0 (Int.le_refl _) pin
  rw [Zw]at e;rw [e];show _ ↔ max 0 (0+((hF (F.full c):Nat):Int))<=8
  have l0:=vn he p0;have hc:∀q∈F.pre c,q<ts.length:=λq hq=>pin q (by unfold F.full;rw [F.pre];exact Ze _ (Zv _ hq))
  have i1:=Gv he c 0 1 (by rw [l0]) pt.eld hc
  have dp:Dp ts 8 ↔ ∀k∈F.pre c,lvN ts k<=8:=by
   constructor
   ·exact λh k hk=>h k (hc k hk)
   ·intro h k hk
    have:k∈0 :: F.pre c:=by rw [pt.pre,ZF];exact hk
    rcases Zn.mp this with rfl | hq
    ·rw [l0];decide
    ·exact h k hq
  rw [dp,i1];cases c with
  |nil=>exact ⟨λ_=>by decide,λ_=>.inl rfl⟩
  |cons x y z =>
   have eh:hF (F.full (F.cons x y z))=max (hF (F.cons x y z)+1) 0:=rfl;rw [eh];constructor
   ·rintro (h | h)
    ·cases h
    ·lia
   ·exact λh=>.inr (by lia)
end
theorem i_ {R:List Nat} {d:Nat}:∀(w u:List Nat),(∀c∈w,spB c=false)->Acc (w++R) d u=Acc R d (u++w)
 |[],u,_=>by rw [List.nil_append,Zw]
 |c :: w,u,h=>by
  obtain ⟨h1,h2,h3⟩:=p7 (h c Zf);rw [List.cons_append,Acc,if_neg h1,if_neg h3,if_neg h2,i_ w (u++[c]) (λx hx=>h x (Ze _ hx)),ZB]
  rfl
theorem uI:∀(T:List Nat) (d:Nat) (w:List Nat),41∉T->0<d->Acc T d w=false:=by
 intro T
 induction T with
 |nil=>exact λd w _ h=>by rw [Acc,decide_eq_false (by lia),Bool.and_false]
 |cons c T ih =>
  intro d w h hd;have hT:41∉T:=λz=>h (Ze _ z)
  have hc:c≠41:=λz=>h (by rw [z];exact Zf)
  rw [Acc,ih (d+1) [] hT (by lia),ih d [] hT hd,if_neg hc,ih d _ hT hd]
  simp
theorem su:∀(T w:List Nat),41∉T->Acc T 0 w=(T.all (λc=>!spB c) && dn (w++T)):=by
 intro T
 induction T with
 |nil=>exact λw _=>by rw [Acc,Zw];simp
 |cons c T ih =>
  intro w h;have hT:41∉T:=λz=>h (Ze _ z)
  have hc:c≠41:=λz=>h (by rw [z];exact Zf)
  rw [Acc,if_neg hc,uI T (0+1) [] hT (by lia),ih (w++[c]) hT,List.all_cons,ZB]
  by_cases h40:c=40
  ·subst h40
   rw [if_pos rfl,Bool.and_false];rfl
  ·rw [if_neg h40]
   by_cases h44:c=44
   ·subst h44
    rw [if_pos rfl];exact Bool.and_false _
   ·rw [if_neg h44,show spB c=false from decide_eq_false (by lia)]
    rfl
theorem C7 {w:List Nat} {c:Nat} (hc:c∈w) (hs:spB c=true):dn w=false:=by
 have no:∀u:List Nat,c∈u->nm u=false:=λu hu=>by
  cases e:nm u with
  |false=>rfl
  |true=>rw [(pK e c hu).2]at hs;cases hs
 unfold dn;split
 ·rename_i hl
  refine no _ ?_;have hne:w≠[]:=λz=>by rw [z]at hc;cases hc
  have e:=List.dropLast_concat_getLast hne;rw [List.getLast?_eq_some_getLast hne]at hl;rw [<-e]at hc;rcases Zr.mp hc with hc | hc
  ·exact hc
  ·rw [List.mem_singleton.mp hc,Zx hl]at hs
   cases hs
 ·exact no _ hc
theorem xi {T:List Nat} (h:41∉T):Acc T 0 []=dn T:=by
 rw [su T [] h,List.nil_append];cases e:T.all (λc=>!spB c) with
 |true=>rfl
 |false =>
  rw [List.all_eq_false]at e;obtain ⟨c,hc,hs⟩:=e;rw [C7 hc (by simpa using hs)]
  rfl
theorem wW {V:List Nat}:∀(X w:List Nat),40∉X->41∉X->Acc (X++41 :: V) 0 w=false:=by
 intro X
 induction X with
 |nil =>
  intro w _ _;rw [List.nil_append,Acc,if_neg (by decide),if_neg (by decide),if_pos rfl]
  exact Bool.and_false _
 |cons c X ih =>
  intro w h1 h2;rw [List.cons_append,Acc,if_neg λz=>h1 (by rw [z];exact Zf)]
  split
  ·exact Bool.and_false _
  ·rw [if_neg λz=>h2 (by rw [z];exact Zf)]
   exact ih _ (λz=>h1 (Ze _ z)) λz=>h2 (Ze _ z)
noncomputable def jn:List (List Nat)->List Nat
 |[]=>[]
 |[w]=>w
 |w :: v :: r=>w++44 :: jn (v :: r)
theorem sD {V:List Nat} {d:Nat}:∀L:List (List Nat),L≠[]->(∀w∈L,∀c∈w,spB c=false)->Acc (jn L++41 :: V) (d+1) []=(L.all dn && Acc V d [97,33]):=by
 intro L
 induction L with
 |nil=>exact λh=>absurd rfl h
 |cons w L ih =>
  intro _ h;have hw:=h w Zf;cases L with
  |nil =>
   show Acc (w++41 :: V) (d+1) []=_
   rw [i_ w [] hw,List.nil_append,Acc,if_neg (by decide),if_neg (by decide),if_pos rfl,decide_eq_true (show 0<d+1 by lia),Nat.add_sub_cancel]
   simp
  |cons v r =>
   have e:=ih (List.cons_ne_nil _ _) λu hu=>h u (Ze _ hu)
   show Acc ((w++44 :: jn (v :: r))++41 :: V) (d+1) []=_
   rw [ZB,i_ w [] hw,List.nil_append];show Acc (44 :: (jn (v :: r)++41 :: V)) (d+1) w=_
   rw [Acc,if_neg (by decide),if_pos rfl,decide_eq_true (show 0<d+1 by lia),e,List.all_cons (l:=v :: r),Bool.true_and,Bool.and_assoc]
theorem xF:∀(U:List Nat) (d:Nat) (w:List Nat),41∉U->(U=[]->w=[])->(∀x,U.getLast?=some x->x=40\/x=44)->∃(ok:Bool) (d':Nat),∀R,Acc (U++R) d w=(ok && Acc R d' []):=by
 intro U
 induction U with
 |nil =>
  intro d w _ h _;rw [h rfl];exact ⟨true,d,λR=>rfl⟩
 |cons c U ih =>
  intro d w h41 _ hl;have hU:41∉U:=λz=>h41 (Ze _ z)
  have hl2:∀x,U.getLast?=some x->x=40\/x=44:=λx hx=>hl x (by
   cases U with
   |nil=>cases hx
   |cons y U=>rw [List.getLast?_cons_cons];exact hx)
  have hc:c≠41:=λz=>h41 (by rw [z];exact Zf)
  by_cases h40:c=40
  ·obtain ⟨ok,d',e⟩:=ih (d+1) [] hU (λ_=>rfl) hl2
   exact ⟨nm w && ok,d',λR=>by rw [List.cons_append,Acc,if_pos h40,e,Bool.and_assoc]⟩
  ·by_cases h44:c=44
   ·obtain ⟨ok,d',e⟩:=ih d [] hU (λ_=>rfl) hl2
    exact ⟨dn w && (decide (0<d) && ok),d',λR=>by rw [List.cons_append,Acc,if_neg h40,if_pos h44,e,Bool.and_assoc,Bool.and_assoc]⟩
   ·obtain ⟨ok,d',e⟩:=ih d (w++[c]) hU (λz=>by
     subst z;rcases hl c rfl with z | z
     ·exact absurd z h40
     ·exact absurd z h44) hl2
    exact ⟨ok,d',λR=>by rw [List.cons_append,Acc,if_neg h40,if_neg h44,if_neg hc,e]⟩
theorem acc_step {U n V:List Nat} {L:List (List Nat)} (hU:41∉U) (hl:∀x,U.getLast?=some x->x=40\/x=44) (hn:∀c∈n,spB c=false) (hL:L≠[]) (hw:∀w∈L,∀c∈w,spB c=false) :
  Acc (U++(n++40 :: (jn L++41 :: V))) 0 []=(nm n && (L.all dn && Acc (U++(n++33 :: V)) 0 [])):=by
 obtain ⟨ok,d,e⟩:=xF U 0 [] hU (λ_=>rfl) hl
 rw [e,e,i_ n [] hn,i_ n [] hn,List.nil_append,Acc,if_pos rfl,sD L hL hw,Acc,if_neg (by decide),if_neg (by decide),if_neg (by decide)]
 cases h:nm n with
 |false=>simp
 |true =>
  rw [tY h];cases ok <;> cases L.all dn <;> simp
theorem qQ (t:List Nat) (k:Nat) (h:k<=t.length):Txt.slice (sS t) none (some (k:Int))=sS (t.take k):=by
 apply jm
 rw [beq_iff_eq.mp (PyProof.Rows.slice_closes_to (x:=sS t) (j:=(k:Int)) (by rw [show (sS t).cps.toList=t from bN t];lia))]
 show (List.toArray _).toList=cs (sS _)
 rw [bN,show (sS t).cps.toList=t from bN t]
 simp
theorem pk (t:List Nat) (k:Nat) (h:k<=t.length):Txt.slice (sS t) (some (k:Int)) none=sS (t.drop k):=by
 apply jm
 have hn:(sS t).length=t.length:=aX t;rw [PyProof.Rows.slice_from_eq (x:=sS t) (i:=(k:Int)) (b:=((sS t).length:Int)) (by lia) (by lia) rfl]
 show (List.toArray _).toList=cs (sS _)
 rw [show ((k:Int)).toNat=k by lia,bN,show (sS t).cps.toList=t from bN t]
 simp
 rw [List.take_of_length_le (by rw [ZD];lia)]
theorem EX (n:Nat):Builtin.Str.strSliceIndices (some (-1)) none 1 n=Builtin.Str.strSliceIndices (some ((n-1:Nat):Int)) none 1 n:=by
 have h0:(-1:Int)<0:=by decide
 have h1:¬(((n-1:Nat):Int)<0):=by lia
 have h2:(1:Int) > 0:=by decide
 have h3:max 0 (min (-1+(n:Int)) (n:Int))=max 0 (min ((n-1:Nat):Int) (n:Int)):=by lia
 simp only [Builtin.Str.strSliceIndices,h0,h1,h2,if_false,if_true,h3]
theorem zi (n:Nat):Builtin.Str.strSliceIndices none (some (-1)) 1 n=Builtin.Str.strSliceIndices none (some ((n-1:Nat):Int)) 1 n:=by
 have h0:(-1:Int)<0:=by decide
 have h1:¬(((n-1:Nat):Int)<0):=by lia
 have h2:(1:Int) > 0:=by decide
 have h3:max 0 (min (-1+(n:Int)) (n:Int))=max 0 (min ((n-1:Nat):Int) (n:Int)):=by lia
 simp only [Builtin.Str.strSliceIndices,h0,h1,h2,if_false,if_true,h3]
theorem C8 (t:List Nat):Txt.slice (sS t) (some (-1)) none=sS (t.drop (t.length-1)):=by
 rw [<-pk t (t.length-1) (by lia)]
 unfold Txt.slice;rw [aX,EX]
theorem Br (t:List Nat):Txt.slice (sS t) none (some (-1))=sS t.dropLast:=by
 rw [List.dropLast_eq_take,<-qQ t (t.length-1) (by lia)]
 unfold Txt.slice;rw [aX,zi]
theorem uW {l:List Nat} (asc:∀c∈l,c<128) {i:Nat} {ρ:L3.Env} (h:ρ[i]?=some (some (.sh (.str (sS l))))):iTx (af i) ρ=.ok (signs (sS l)):=by
 have e:af i ρ=.ok (.sh (.str (sS l))):=by rw [v_var,h,yd]
 rw [GI,e];show (if (sS l).cps.all (·<128)=true then R.ok (signs (sS l)) else .bad)=_
 rw [if_pos];rw [Array.all_eq_true'];intro c hc;exact decide_eq_true (asc c (by rw [<-bN l];exact Array.mem_toList_iff.mpr hc))
theorem nC {l:List Nat} (asc:∀c∈l,c<128) {a0 a1 a2 a3 a4:Option OD} {r:R Out} (hL:bG (gNm 4) (sIf (aB (eOp pE (af 4) (eC (.str "abcdefghijklmnopqrstuvwxyz")))) (ba (eC (.bool false))) sNx) (signs (sS l)) [a0,a1,a2,a3,a4]=r) :
  (l.all chB=true/\∃v,r=.ok (.nx [a0,a1,a2,a3,v]))\/(l.all chB=false/\r=.ok (.rt (.sh (.bool false)))):=by
 refine lZ hL (λi ρ=>∃v:Option OD,(∀k,k<i->∀c,l[k]?=some c->chB c=true)/\ρ=[a0,a1,a2,a3,v]) (λx=>x=.sh (.bool false)/\l.all chB=false) ⟨_,λk hk=>by lia,rfl⟩ ?_ ?_ ?_
 ·rintro i d ρ hd ⟨v1,ha,rfl⟩
  unfold signs at hd;rw [show (sS l).cps.toList=l from bN l,Za]at hd
  obtain ⟨c,hc,rfl⟩:=Zo.mp hd;have hin:=yJ (asc c (Zz hc));cases hb:chB c with
  |true =>
   rw [hb]at hin;push_cast only [m6,hin];refine ⟨_,λk hk c' hc'=>?_,rfl⟩
   by_cases hk':k<i
   ·exact ha k hk' c' hc'
   ·have:k=i:=by lia
    subst this;rw [hc]at hc';cases hc';exact hb
  |false =>
   rw [hb]at hin;push_cast only [m6,hin];rw [List.all_eq_false];exact ⟨c,Zz hc,by rw [hb];simp⟩
 ·rintro ρ' rfl ⟨v1,ha,rfl⟩
  left
  refine ⟨?_,_,rfl⟩;rw [List.all_eq_true];intro c hc;obtain ⟨k,hk,hk2⟩:=List.mem_iff_getElem.mp hc;refine ha k ?_ c (by rw [Zg hk,hk2])
  unfold signs;rw [Zc,show (sS l).cps.toList=l from bN l]
  exact hk
 ·rintro x rfl ⟨rfl,hf⟩
  exact .inr ⟨hf,rfl⟩
theorem qY (l:List Nat):jw (sS l)=(decide (1<=(l.length:Int)/\(l.length:Int)<=9) && l.all chB):=by
 unfold jw;rw [aX,show (sS l).cps.toList=l from bN l]
theorem nV {w:List Nat} (asc:∀c∈w,c<128) (hl:w.length<=900):bK [.str (sS w)]=.ok (.sh (.bool (nm w))):=by
 unfold bK eF;have lb:(sS w).length<=BIG:=of_eq_true (aN (by rw [aX];lia))
 have ip:=vT (t:=Str.ofString "*") lb (by decide +kernel)
 unfold nm rdN;rcases nX w with h | ⟨l,d,rfl,h⟩
 ·obtain ⟨a,b⟩:=uY h
  have pt:iO (sS w) (Str.ofString "*")=[.str (sS w),.str (sS []),.str (sS [])]:=by
   unfold iO;rw [s42,qM h];rfl
  rw [pt]at ip;rw [a,b,qY];have d0:decide (sS []=Str.ofString "")=true:=decide_eq_true s00.symm;have d1:decide (sS []=Str.ofString "*")=false:=decide_eq_false (by rw [s42];exact λz=>by have:=jV z;cases this)
  have el:(sS w).length=w.length:=aX w;have lbw:(w.length<=BIG)=True:=aN (by lia)
  by_cases h1:(w.length:Int)<1
  ·rw [decide_eq_false (show ¬(1<=(w.length:Int)/\(w.length:Int)<=9) by lia)]
   push_cast only [fG,ip,el,lbw,decide_eq_true h1];rfl
  ·by_cases h2:(9:Int)<(w.length:Int)
   ·rw [decide_eq_false (show ¬(1<=(w.length:Int)/\(w.length:Int)<=9) by lia)]
    push_cast only [fG,ip,el,lbw,decide_eq_false h1,decide_eq_true h2];rfl
   ·rw [decide_eq_true (show 1<=(w.length:Int)/\(w.length:Int)<=9 by lia),Bool.true_and]
    have tx:iTx (af 1) [some (.sh (.str (sS w))),some (.sh (.str (sS w))),some (.sh (.str (sS []))),some (.sh (.str (sS []))),none]=.ok (signs (sS w)):=uW asc rfl;push_cast only [fG,ip,el,lbw,decide_eq_false h1,decide_eq_false h2,d1,tx];generalize hL:bG _ _ _ _=r
    rcases nC asc hL with ⟨hb,v,rfl⟩ | ⟨hb,rfl⟩
    ·rw [hb]
     push_cast only [d0];rfl
    ·rw [hb]
     push_cast only [and_self];rfl
 ·obtain ⟨a,b⟩:=tJ d h
  have pt:iO (sS (l++42 :: d)) (Str.ofString "*")=[.str (sS l),.str (sS [42]),.str (sS d)]:=by
   unfold iO;rw [s42,o6 h]
  rw [pt]at ip;rw [a,b,qY];have hll:(l++42 :: d).length=l.length+(d.length+1):=by rw [Zd,Zq]
  have d0:=yj (w:=[42]) (by simp)
  have d1:decide (sS [42]=Str.ofString "*")=true:=decide_eq_true s42.symm;have el:(sS l).length=l.length:=aX l;have lbw:(l.length<=BIG)=True:=aN (by lia)
  have ed:(sS d).length=d.length:=aX d;have lbd:(d.length<=BIG)=True:=aN (by lia)
  by_cases h1:(l.length:Int)<1
  ·rw [decide_eq_false (show ¬(1<=(l.length:Int)/\(l.length:Int)<=9) by lia)]
   push_cast only [fG,ip,el,lbw,decide_eq_true h1];rfl
  ·by_cases h2:(9:Int)<(l.length:Int)
   ·rw [decide_eq_false (show ¬(1<=(l.length:Int)/\(l.length:Int)<=9) by lia)]
    push_cast only [fG,ip,el,lbw,decide_eq_false h1,decide_eq_true h2];rfl
   ·rw [decide_eq_true (show 1<=(l.length:Int)/\(l.length:Int)<=9 by lia),Bool.true_and]
    by_cases h3:(d.length:Int)=1
    ·obtain ⟨x,rfl⟩:∃x,d=[x]:=List.length_eq_one_iff.mp (by lia)
     have g3:=vi (asc x (by simp))
     have e1:((1:Nat):Int)=1:=rfl;have tx:iTx (af 1) [some (.sh (.str (sS (l++[42,x])))),some (.sh (.str (sS l))),some (.sh (.str (sS [42]))),some (.sh (.str (sS [x]))),none]=.ok (signs (sS l)):=uW (λc hc=>asc c (Zv _ hc)) rfl
     have l1:(sS [x]).length=1:=aX _;have lb1:(1<=BIG)=True:=aN (by lia)
     push_cast only [fG,ip,el,lbw,decide_eq_false h1,decide_eq_false h2,d1,l1,lb1,tx];generalize hL:bG _ _ _ _=r
     have er:(rdT [42,x]).isSome=va x:=by
      show (if 50<=x/\x<=57 then some ((x:Int)-48) else none).isSome=decide (50<=x/\x<=57)
      split
      ·rw [decide_eq_true (by assumption)];rfl
      ·rw [decide_eq_false (by assumption)];rfl
     rcases nC (λc hc=>asc c (Zv _ hc)) hL with ⟨hb,v,rfl⟩ | ⟨hb,rfl⟩
     ·rw [hb,if_pos rfl,Option.isSome_map,er]
      push_cast only [d0,pO,g3]
     ·rw [hb]
      push_cast only [and_self];rfl
    ·have er:rdT (42 :: d)=none:=by
      cases d with
      |nil=>rfl
      |cons x d =>
       cases d with
       |nil=>simp at h3
       |cons y d=>rfl
     rw [er];push_cast only [fG,ip,el,lbw,decide_eq_false h1,decide_eq_false h2,d1,ed,lbd,decide_eq_false h3];simp
theorem qB {w:List Nat} (asc:∀c∈w,c<128) (hl:w.length<=900):bY [.str (sS w)]=.ok (.sh (.bool (dn w))):=by
 unfold bY eD;have el:(sS w).length=w.length:=aX w;have lb:(w.length<=BIG)=True:=aN (by lia)
 have s1:=C8 w;have s2:=Br w;have s33:Str.ofString "!" = sS [33]:=by decide +kernel
 have n1:=nV asc hl;have n2:=nV (w:=w.dropLast) (λc hc=>asc c ((List.dropLast_sublist w).subset hc)) (by rw [List.length_dropLast];lia)
 have hd:decide (sS (w.drop (w.length-1))=Str.ofString "!")=decide (w.getLast?=some 33):=by
  rw [s33];rcases List.eq_nil_or_concat w with rfl | ⟨u,x,rfl⟩
  ·exact (decide_eq_false (λz=>by have:=jV z;cases this)).trans (decide_eq_false (λz=>by cases z)).symm
  ·rw [List.concat_eq_append,List.getLast?_concat,Zd,List.length_singleton,Nat.add_sub_cancel,List.drop_left]
   by_cases hx:x=33
   ·subst hx
    exact (decide_eq_true rfl).trans (decide_eq_true rfl).symm
   ·exact (decide_eq_false (λz=>hx (List.cons.inj (jV z)).1)).trans (decide_eq_false (λz=>hx (Zx z))).symm
 unfold dn;by_cases h:w.getLast?=some 33
 ·rw [decide_eq_true h]at hd
  rw [if_pos h];push_cast only [el,lb,fm,s1,hd,s2,n2]
 ·rw [decide_eq_false h]at hd
  rw [if_neg h];push_cast only [el,lb,fm,s1,hd,n1]
theorem yb {c k:Nat} {s:Str} (hs:s=sS [k]):decide ((⟨#[c]⟩:Str)=s)=decide (c=k):=by
 subst hs;by_cases h:c=k
 ·subst h
  exact (decide_eq_true rfl).trans (decide_eq_true rfl).symm
 ·exact (decide_eq_false (λz=>h (List.cons.inj (jV (a:=[c]) z)).1)).trans (decide_eq_false h).symm
theorem pG {t:List Nat} (asc:∀c∈t,c<128):cK [.str (sS t)]=.ok (.sh (.int (dmx t 0 0))):=by
 unfold cK fO;have tx:iTx (af 0) [some (.sh (.str (sS t))),some (.sh (.int 0)),some (.sh (.int 0)),none]=.ok (signs (sS t)):=uW asc rfl;push_cast only [tx];generalize hL:bG _ _ _ _=r
 refine oJ hL (λi ρ=>∃(now most:Int) (v:Option OD),dmx (t.drop i) now most=dmx t 0 0/\ρ=[some (.sh (.str (sS t))),some (.sh (.int most)),some (.sh (.int now)),v]) ⟨0,0,_,rfl,rfl⟩ ?_ ?_
 ·rintro i d ρ hd ⟨now,most,v,hm,rfl⟩
  unfold signs at hd;rw [show (sS t).cps.toList=t from bN t,Za]at hd
  obtain ⟨c,hc,rfl⟩:=Zo.mp hd;have e1:=yb (c:=c) s40;have e2:=yb (c:=c) s41;have hdr:t.drop i=c :: t.drop (i+1):=by
   obtain ⟨h1,h2⟩:=Zb.mp hc;rw [List.drop_eq_getElem_cons h1,h2]
  rw [hdr,dmx]at hm;have es:now+(if decide (c=40)=true then (1:Int) else 0)-(if decide (c=41)=true then (1:Int) else 0)=now+stp c:=by
   unfold stp;simp only [decide_eq_true_eq]
   lia
  have em:(if most<now+stp c then now+stp c else most)=max most (now+stp c):=by
   split <;> lia
  push_cast only [e1,e2];rw [es,em];exact ⟨now+stp c,max most (now+stp c),_,hm,rfl⟩
 ·rintro ρ' rfl ⟨now,most,v,hm,rfl⟩
  unfold signs at hm;rw [Zc,show (sS t).cps.toList=t from bN t,List.drop_length]at hm
  push_cast only [and_self];rw [<-hm];rfl
theorem uE (c:Nat) (t:List Nat):inS (sS [c]) (sS t)=decide (c∈t):=by
 have:=StrLaws.found_one (sS t) c;rw [show (sS t).cps.toList=t from bN t]at this
 exact this
theorem kF {t:List Nat} {c i:Nat}:StrLaws.At (sS t) (sS [c]) (sS t).length i ↔ t[i]?=some c:=by
 have:=StrLaws.subAt_one (sS t) c i;rw [show (sS t).cps.toList=t from bN t]at this
 exact this
theorem uD {t:List Nat} {c i:Nat} (h:t[i]?=some c):t=t.take i++c :: t.drop (i+1)/\(t.take i).length=i:=by
 obtain ⟨h1,h2⟩:=Zb.mp h;refine ⟨?_,by rw [ZC];lia⟩
 have:=List.drop_eq_getElem_cons h1;rw [h2]at this;rw [<-this,List.take_append_drop]
theorem uL {t:List Nat} {c:Nat} (h:c∈t):∃X V,t=X++c :: V/\c∉X/\Txt.find (sS t) (sS [c])=(X.length:Int):=by
 rcases PyProof.Rows.find_whole (sS t) (sS [c]) with ⟨_,hn⟩ | ⟨i,e,ha,hk⟩
 ·obtain ⟨i,hi⟩:=List.mem_iff_getElem?.mp h
  exact absurd (kF.mpr hi) (hn i)
 ·have hi:=kF.mp ha
  obtain ⟨e1,e2⟩:=uD hi;refine ⟨t.take i,t.drop (i+1),e1,λz=>?_,by rw [e,e2]⟩
  obtain ⟨k,hk2⟩:=List.mem_iff_getElem?.mp z;have hlt:=(Zb.mp hk2).1;rw [e2]at hlt;rw [List.getElem?_take_of_lt hlt]at hk2;exact hk k hlt (kF.mpr hk2)
theorem j3 (t:List Nat) (c:Nat):(Txt.rfind (sS t) (sS [c])=-1/\c∉t)\/∃i:Nat,Txt.rfind (sS t) (sS [c])=(i:Int)/\t[i]?=some c/\∀k,i<k->t[k]?≠some c:=by
 rcases PyProof.Rows.rfind_whole (sS t) (sS [c]) with ⟨e,hn⟩ | ⟨i,e,ha,hk⟩
 ·refine .inl ⟨e,λz=>?_⟩
  obtain ⟨i,hi⟩:=List.mem_iff_getElem?.mp z;exact hn i (kF.mpr hi)
 ·exact .inr ⟨i,e,kF.mp ha,λk h1 h2=>hk k h1 (kF.mpr h2)⟩
theorem jJ {t:List Nat} {c m:Nat} (h:∀k,m<k->t[k]?≠some c):c∉t.drop (m+1):=λz=>by
 obtain ⟨k,hk⟩:=List.mem_iff_getElem?.mp z;rw [List.getElem?_drop]at hk;exact h (m+1+k) (by lia) hk
theorem sA (t:List Nat) (c:Nat):(Txt.rfind (sS t) (sS [c])=-1/\c∉t)\/∃Y B,t=Y++c :: B/\c∉B/\Txt.rfind (sS t) (sS [c])=(Y.length:Int):=by
 rcases j3 t c with h | ⟨i,e,hi,hk⟩
 ·exact .inl h
 ·obtain ⟨e1,e2⟩:=uD hi
  exact .inr ⟨t.take i,t.drop (i+1),e1,jJ hk,by rw [e,e2]⟩
theorem Fd {t:List Nat} {c m:Nat} (h:t[m]?=some c):(t.take (m+1)).getLast?=some c:=by
 obtain ⟨h1,h2⟩:=Zb.mp h;rw [List.take_succ_eq_append_getElem h1,List.getLast?_concat,h2]
theorem By (Y:List Nat):∃U n,Y=U++n/\40∉n/\44∉n/\(∀x,U.getLast?=some x->x=40\/x=44)/\(if Txt.rfind (sS Y) (sS [40])<Txt.rfind (sS Y) (sS [44]) then Txt.rfind (sS Y) (sS [44]) else Txt.rfind (sS Y) (sS [40]))+1=(U.length:Int):=by
 have one:∀(m c:Nat),Y[m]?=some c->(c=40\/c=44)->(∀k,m<k->Y[k]?≠some 40)->(∀k,m<k->Y[k]?≠some 44)->∃U n,Y=U++n/\40∉n/\44∉n/\(∀x,U.getLast?=some x->x=40\/x=44)/\(m:Int)+1=(U.length:Int):=λm c hm hc h1 h2=>by
  have hlt:=(Zb.mp hm).1;refine ⟨Y.take (m+1),Y.drop (m+1),(List.take_append_drop _ _).symm,jJ h1,jJ h2,λx hx=>?_,by rw [ZC];lia⟩
  rw [Fd hm]at hx;cases hx;exact hc
 have no:∀{c:Nat},c∉Y->∀k,Y[k]?≠some c:=λh k hk=>h (Zz hk)
 rcases j3 Y 40 with ⟨e1,n1⟩ | ⟨i,e1,hi,ki⟩
 ·rcases j3 Y 44 with ⟨e2,n2⟩ | ⟨j,e2,hj,kj⟩
  ·rw [e1,e2,if_neg (by decide)]
   exact ⟨[],Y,rfl,n1,n2,λx hx=>(by cases hx),rfl⟩
  ·rw [e1,e2,if_pos (by lia)]
   exact one j 44 hj (.inr rfl) (λk _=>no n1 k) kj
 ·rcases j3 Y 44 with ⟨e2,n2⟩ | ⟨j,e2,hj,kj⟩
  ·rw [e1,e2,if_neg (by lia)]
   exact one i 40 hi (.inl rfl) ki (λk _=>no n2 k)
  ·rw [e1,e2]
   by_cases hij:(i:Int)<(j:Int)
   ·rw [if_pos hij]
    exact one j 44 hj (.inr rfl) (λk hk=>ki k (by lia)) kj
   ·rw [if_neg hij]
    have hne:i≠j:=λz=>by
     subst z;rw [hi]at hj;cases hj
    exact one i 40 hi (.inl rfl) ki (λk hk=>kj k (by lia))
theorem wd:∀ps:List Str,ps≠[]->cs (Str.join ⟨#[44]⟩ ps)=jn (ps.map cs):=by
 intro ps
 induction ps with
 |nil=>exact λh=>absurd rfl h
 |cons a ps ih =>
  intro _;cases ps with
  |nil=>rfl
  |cons b r =>
   have e:Str.join ⟨#[44]⟩ (a :: b :: r)=a++⟨#[44]⟩++Str.join ⟨#[44]⟩ (b :: r):=rfl;have i:=ih (List.cons_ne_nil _ _);rw [e,<-nL a,<-nL (Str.join ⟨#[44]⟩ (b :: r)),show (⟨#[44]⟩:Str)=sS [44] from rfl,fH,fH,bN]
   show (cs a++[44])++cs (Str.join (sS [44]) (b :: r))=jn (cs (sS (cs a)) :: cs b :: r.map cs)
   rw [bN,ZB];show cs a++44 :: cs (Str.join ⟨#[44]⟩ (b :: r))=cs a++44 :: jn (cs b :: r.map cs)
   rw [i];rfl
theorem uR (b:List Nat):∃L:List (List Nat),Txt.split (sS b) (sS [44])=L.map sS/\L≠[]/\jn L=b/\∀w∈L,44∉w:=by
 have ne:Txt.split (sS b) ⟨#[44]⟩≠[]:=λz=>by
  have:=PyProof.Rows.split_pos (sS b) ⟨#[44]⟩;rw [z]at this;exact absurd this (by decide)
 refine ⟨(Txt.split (sS b) ⟨#[44]⟩).map cs,?_,λz=>ne (List.map_eq_nil_iff.mp z),?_,λw hw=>?_⟩
 ·rw [Zi]
  show Txt.split (sS b) ⟨#[44]⟩=_
  conv=>lhs;rw [<-List.map_id (Txt.split (sS b) ⟨#[44]⟩)]
  exact Zs λp _=>(nL p).symm
 ·rw [<-wd _ ne,StrLaws.join_split,bN]
 ·obtain ⟨p,hp,rfl⟩:=ZA.mp hw
  exact StrLaws.split_free (sS b) 44 p hp
theorem tN:∀(L:List (List Nat)) (w:List Nat) (c:Nat),w∈L->c∈w->c∈jn L:=by
 intro L
 induction L with
 |nil=>exact λw c h _=>by cases h
 |cons a L ih =>
  intro w c hw hc;cases L with
  |nil =>
   rw [List.mem_singleton.mp hw]at hc;exact hc
  |cons b r =>
   show c∈a++44 :: jn (b :: r)
   rcases Zn.mp hw with rfl | hw
   ·exact Zv _ hc
   ·exact Zp _ (Ze _ (ih w c hw hc))
theorem qy {L:List (List Nat)} (ha:∀w∈L,(∀c∈w,c<128)/\w.length<=900) {a0 a1 a2 a3 a4:Option OD} {r:R Out} (hL:bG (gNm 3) (sIf (ej (aB (aR bY (aj (af 3) aF)))) (ba (eC (.bool false))) sNx) (L.map λw=>PyData.str (sS w)) [a0,a1,a2,a3,a4]=r) :
  (L.all dn=true/\∃v,r=.ok (.nx [a0,a1,a2,v,a4]))\/(L.all dn=false/\r=.ok (.rt (.sh (.bool false)))):=by
 refine lZ hL (λi ρ=>∃v:Option OD,(∀k,k<i->∀w,L[k]?=some w->dn w=true)/\ρ=[a0,a1,a2,v,a4]) (λx=>x=.sh (.bool false)/\L.all dn=false) ⟨_,λk hk=>by lia,rfl⟩ ?_ ?_ ?_
 ·rintro i d ρ hd ⟨v1,hb,rfl⟩
  rw [Za]at hd;obtain ⟨w,hw,rfl⟩:=Zo.mp hd;obtain ⟨h1,h2⟩:=ha w (Zz hw);have dk:=qB h1 h2;cases hx:dn w with
  |true =>
   rw [hx]at dk;push_cast only [dk];refine ⟨_,λk hk w' hw'=>?_,rfl⟩
   by_cases hk':k<i
   ·exact hb k hk' w' hw'
   ·have:k=i:=by lia
    subst this;rw [hw]at hw';cases hw';exact hx
  |false =>
   rw [hx]at dk;push_cast only [dk];rw [List.all_eq_false];exact ⟨w,Zz hw,by rw [hx];simp⟩
 ·rintro ρ' rfl ⟨v1,hb,rfl⟩
  left
  refine ⟨?_,_,rfl⟩;rw [List.all_eq_true];intro w hw;obtain ⟨k,hk,hk2⟩:=List.mem_iff_getElem.mp hw;exact hb k (by rw [Zc];exact hk) w (by rw [Zg hk,hk2])
 ·rintro x rfl ⟨rfl,hf⟩
  exact .inr ⟨hf,rfl⟩
noncomputable def frB (t:List Nat):Bool:=!(decide (33∈t)) && (decide (t.length<=600) && (decide (dmx t 0 0<=100) && Acc t 0 []))
theorem s33:Str.ofString "!" = sS [33]:=by decide +kernel
theorem sU {t:List Nat} (asc:∀c∈t,c<128) (hl:t.length<=900):dR [.str (sS t)]=.ok (.sh (.bool (frB t))):=by
 unfold dR fv frB;have el:(sS t).length=t.length:=aX t;have lb:(t.length<=BIG)=True:=aN (by lia)
 have i33:inS (Str.ofString "!") (sS t)=decide (33∈t):=by rw [s33];exact uE 33 t
 have dk:=pG asc;by_cases h1:33∈t
 ·rw [decide_eq_true h1]at i33 ⊢
  push_cast only [pO,i33];rfl
 ·rw [decide_eq_false h1]at i33 ⊢
  by_cases h2:(600:Int)<(t.length:Int)
  ·rw [decide_eq_false (show ¬t.length<=600 by lia)]
   push_cast only [pO,i33,el,lb,decide_eq_true h2];rfl
  ·rw [decide_eq_true (show t.length<=600 by lia)]
   by_cases h3:(100:Int)<dmx t 0 0
   ·rw [decide_eq_false (show ¬dmx t 0 0<=100 by lia)]
    push_cast only [pO,i33,el,lb,decide_eq_false h2,dk,decide_eq_true h3];rfl
   ·rw [decide_eq_true (show dmx t 0 0<=100 by lia)]
    generalize hres:Acc t 0 []=res
    push_cast only [pO,i33,el,lb,decide_eq_false h2,dk,decide_eq_false h3,Bool.true_and];generalize hL:cM _ _ _=r
    refine rO hL (λm ρ=>∃(u:List Nat) (v1 v2 v3 v4:Option OD),ρ=[some (.sh (.str (sS u))),v1,v2,v3,v4]/\m=u.length/\(∀c∈u,c<128)/\u.length<=600/\Acc u 0 []=res) t.length ⟨t,_,_,_,_,rfl,rfl,asc,by lia,hres⟩
     (λr=>(r=.ok (.rt (.sh (.bool false)))/\res=false)\/∃(u:List Nat) (v1 v2 v3 v4:Option OD),r=.ok (.nx [some (.sh (.str (sS u))),v1,v2,v3,v4])/\(∀c∈u,c<128)/\u.length<=600/\dn u=res) (λz=>by
      rcases z with ⟨z,_⟩ | ⟨_,_,_,_,_,z,_⟩ <;> cases z) ?_ ?_
    ·rintro m ρ ⟨u,v1,v2,v3,v4,rfl,rfl,ua,ul,hA⟩
     have i41:inS (Str.ofString ")") (sS u)=decide (41∈u):=by rw [s41];exact uE 41 u
     by_cases h41:41∈u
     ·right
      rw [decide_eq_true h41]at i41;refine ⟨by push_cast only [pO,i41],?_⟩
      obtain ⟨X,V,hu,hX,hf⟩:=uL h41;rw [<-s41]at hf;have eu:(sS u).length=u.length:=aX u;have lu:(u.length<=BIG)=True:=aN (by lia)
      have ulen:u.length=X.length+(V.length+1):=by rw [hu,Zd,Zq]
      have t1:Txt.slice (sS u) none (some (X.length:Int))=sS X:=by rw [qQ u _ (by lia),hu,List.take_left]
      have eX:(sS X).length=X.length:=aX X;have lX:(X.length<=BIG)=True:=aN (by lia)
      rcases sA X 40 with ⟨e1,n1⟩ | ⟨Y,Bd,hXY,hB,e1⟩
      ·rw [<-s40]at e1
       have hz:res=false:=by rw [<-hA,hu];exact wW X [] n1 hX
       push_cast only [lK,lN,lW,uG,om,eu,lu,hf,fm,t1,eX,lX,e1,u6];exact .inl hz
      ·rw [<-s40]at e1
       have Xlen:X.length=Y.length+(Bd.length+1):=by rw [hXY,Zd,Zq]
       have huY:u=Y++40 :: (Bd++41 :: V):=by rw [hu,hXY,ZB];rfl
       have d0:decide ((Y.length:Int)<0)=false:=decide_eq_false (by lia)
       have eY1:(Y.length:Int)+1=((Y.length+1:Nat):Int):=by lia
       have eX1:(X.length:Int)+1=((X.length+1:Nat):Int):=by lia
       have t2:Txt.slice (sS u) (some ((Y.length+1:Nat):Int)) (some (X.length:Int))=sS Bd:=by
        rw [p8 u _ _ (by lia) (by lia),huY,show X.length-(Y.length+1)=Bd.length by lia]
        rw [show Y++40 :: (Bd++41 :: V)=(Y++[40])++(Bd++41 :: V) by rw [ZB];rfl,List.drop_left' (by rw [Zd];rfl),List.take_left]
       have t3:Txt.slice (sS u) none (some (Y.length:Int))=sS Y:=by rw [qQ u _ (by lia),huY,List.take_left]
       have t5:Txt.slice (sS u) (some ((X.length+1:Nat):Int)) none=sS V:=by
        rw [pk u _ (by lia),hu,show X++41 :: V=(X++[41])++V by rw [ZB];rfl,List.drop_left' (by rw [Zd];rfl)]
       obtain ⟨L,hsp,Lne,hjn,L44⟩:=uR Bd;obtain ⟨U,n,hYU,n40,n44,Ul,hcut⟩:=By Y;rw [<-s40,<-s44]at hcut;rw [<-s44]at hsp;have eB:(sS Bd).length=Bd.length:=aX Bd;have lB:(Bd.length<=BIG)=True:=aN (by lia)
       have lBn:(sS Bd).length<=BIG:=by rw [eB];exact of_eq_true lB
       have eYl:(sS Y).length=Y.length:=aX Y;have lY:(Y.length<=BIG)=True:=aN (by lia)
       have Ylen:Y.length=U.length+n.length:=by rw [hYU,Zd]
       have huU:u=U++(n++40 :: (Bd++41 :: V)):=by rw [huY,hYU,ZB]
       have t4:Txt.slice (sS u) (some (U.length:Int)) (some (Y.length:Int))=sS n:=by
        rw [p8 u _ _ (by lia) (by lia),huU,List.drop_left,show Y.length-U.length=n.length by lia,List.take_left]
       have uin:∀c,c∈X\/c∈V->c<128:=λc hc=>ua c (by
        rw [hu];rcases hc with hc | hc
        ·exact Zv _ hc
        ·exact Zp _ (Ze _ hc))
       have XB:∀c,c∈Bd->c∈X:=λc hc=>by rw [hXY];exact Zp _ (Ze _ hc)
       have XY:∀c,c∈Y->c∈X:=λc hc=>by rw [hXY];exact Zv _ hc
       have Lsp:∀w∈L,∀c∈w,spB c=false:=λw hw c hc=>decide_eq_false (by
        have hcB:c∈Bd:=by rw [<-hjn];exact tN L w c hw hc
        have z1:c≠40:=λz=>hB (by rw [<-z];exact hcB)
        have z2:c≠41:=λz=>hX (by rw [<-z];exact XB c hcB)
        have z3:c≠44:=λz=>L44 w hw (by rw [<-z];exact hc)
        lia)
       have nsp:∀c∈n,spB c=false:=λc hc=>decide_eq_false (by
        have hcY:c∈Y:=by rw [hYU];exact Zp _ hc
        have z1:c≠40:=λz=>n40 (by rw [<-z];exact hc)
        have z2:c≠41:=λz=>hX (by rw [<-z];exact XY c hcY)
        have z3:c≠44:=λz=>n44 (by rw [<-z];exact hc)
        lia)
       have U41:41∉U:=λz=>hX (XY 41 (by rw [hYU];exact Zv _ z))
       have stp:=acc_step (V:=V) U41 Ul nsp Lne Lsp;rw [hjn,<-huU,hA]at stp;have lens:∀w∈L,w.length<=Bd.length:=λw hw=>by
        have:=PyProof.Rows.part_short (x:=sS Bd) (y:=sS [44]) (a:=sS w) (by rw [show (sS [44]:Str)=Str.ofString "," from s44.symm,hsp];exact ZA.mpr ⟨w,hw,rfl⟩)
        rw [aX,aX]at this;exact this
       have La:∀w∈L,(∀c∈w,c<128)/\w.length<=900:=λw hw=>⟨λc hc=>uin c (.inl (XB c (by rw [<-hjn];exact tN L w c hw hc))),by have:=lens w hw;lia⟩
       have nk:=nV (w:=n) (λc hc=>uin c (.inl (XY c (by rw [hYU];exact Zp _ hc)))) (by lia)
       have ks:=Dl (s:=sS Bd) (t:=Str.ofString ",") lBn (by decide +kernel)
       rw [hsp]at ks;have ers:(((L.map sS).map PyData.str).map OD.sh).map OD.er=L.map λw=>PyData.str (sS w):=by
        rw [Zi,Zi,Zi];exact Zs λw _=>iU _
       push_cast only [lK,lN,lW,uG,om,eu,lu,hf,fm,t1,eX,lX,e1,d0,eY1,t2,DP,ks,ers];generalize hL2:bG _ _ _ _=r2
       rcases qy La hL2 with ⟨hb,v,rfl⟩ | ⟨hb,rfl⟩
       ·rw [hb,Bool.true_and]at stp
        have eapp:sS Y++Str.ofString "!" ++ sS V=sS (Y++33 :: V):=by
         rw [s33,fH,fH,ZB];rfl
        have lY1:(Y.length+1<=BIG)=True:=aN (by lia)
        have e33:(Str.ofString "!").length=1:=by decide +kernel
        have eYa:(sS Y++Str.ofString "!").length=Y.length+1:=by rw [s33,fH,aX,Zd];rfl
        have eV:(sS V).length=V.length:=aX V;have lYV:(Y.length+1+V.length<=BIG)=True:=aN (by lia)
        cases hn:nm n with
        |true =>
         rw [hn]at nk stp;push_cast only [lK,lN,lW,om,eu,lu,fm,t3,eYl,lY,hcut,t4,nk,eX1,t5,e33,lY1,eYa,eV,lYV,eapp,rj];refine ⟨_,?_,Y++33 :: V,_,_,_,_,rfl,rfl,λc hc=>?_,?_,?_⟩
         ·rw [Zd,Zq];lia
         ·rcases Zr.mp hc with hc | hc
          ·exact uin c (.inl (XY c hc))
          ·rcases Zn.mp hc with rfl | hc
           ·decide
           ·exact uin c (.inr hc)
         ·rw [Zd,Zq];lia
         ·rw [Bool.true_and]at stp
          rw [stp,hYU,ZB]
        |false =>
         rw [hn]at nk stp;push_cast only [lK,lN,lW,om,eu,lu,fm,t3,eYl,lY,hcut,t4,nk,u6];exact .inl stp
       ·rw [hb]at stp
        have hz:res=false:=by rw [stp];simp
        push_cast only [u6];exact .inl hz
     ·left
      rw [decide_eq_false h41]at i41;refine ⟨by push_cast only [pO,i41],.inr ⟨u,_,_,_,_,rfl,ua,ul,?_⟩⟩
      rw [<-hA,xi h41]
    ·rintro (⟨rfl,hr⟩ | ⟨u,v1,v2,v3,v4,rfl,ua,ul,hd⟩)
     ·push_cast only [and_self]
      rw [hr]
     ·have dk:=qB ua (by lia)
      push_cast only [dk];rw [hd]
theorem mU (c:Nat):∀l:List Nat,(l.map λn=>if decide (n=c)=true then (1:Int) else 0).sum=(l.count c:Int)
 |[]=>rfl
 |n :: r=>by
  rw [Zj,List.sum_cons,mU c r,List.count_cons];by_cases h:n=c
  ·subst h
   rw [if_pos (decide_eq_true rfl),if_pos (beq_self_eq_true n)]
   lia
  ·rw [if_neg (by simp [h]),if_neg (by simp [h])]
   lia
theorem uT:∀t:List Nat,cm t<=t.length
 |[]=>Zm _
 |x :: t=>by
  have ih:=uT t;unfold cm at *;rw [List.count_cons,List.count_cons,Zq];by_cases h1:x=44
  ·subst h1
   rw [if_pos (by decide),if_neg (by decide)]
   lia
  ·rw [if_neg (by simp [h1])]
   split <;> lia
theorem qR (t:List Nat) (c:Nat):Txt.count (sS t) (sS [c])=(t.count c:Int):=by
 have e:=PyProof.Rows.count_is (sS t) c;rw [show (sS t).cps.toList=t from bN t,PyProof.Rows.countIn_signs_sum,mU]at e
 exact e
theorem Cp {ts:List Nd} (ok:∀n∈ts,gY n):∀f:F,(∀k∈F.pre f,k<ts.length)->33∉tf ts f:=by
 intro f
 induction f with
 |nil=>exact λ_ h=>by cases h
 |cons k c r ih1 ih2 =>
  intro hk hx;have hk0:=hk k (by rw [F.pre];exact Zf)
  rw [d6]at hx;rcases Zr.mp hx with hx | hx
  ·exact yn (ok _ (Zz (iN hk0))) 33 hx rfl
  ·rcases Zr.mp hx with hx | hx
   ·cases c with
    |nil=>cases hx
    |cons a b d =>
     rw [e7]at hx;rcases Zn.mp hx with hx | hx
     ·cases hx
     ·rcases Zr.mp hx with hx | hx
      ·exact ih1 (λq hq=>hk q (by rw [F.pre];exact Ze _ (Zv _ hq))) hx
      ·cases List.mem_singleton.mp hx
   ·cases r with
    |nil=>cases hx
    |cons a b d =>
     rw [fi]at hx;rcases Zn.mp hx with hx | hx
     ·cases hx
     ·exact ih2 (λq hq=>hk q (by rw [F.pre];exact Ze _ (Zp _ hq))) hx
theorem ud (i:Int):cL [.int i]=.ok (.sh (.bool true)):=sM i
theorem ux {ts:List Nd} (v:Valid ts) (as:As ts):ez [.list (aW ts)]=.ok (.sh (.bool true)):=by
 unfold ez fN;have l0:=v.l0;have l1:=v.l1;have ne:gEq (.list (aW ts)) (.list [])=.ok (.sh (.bool false)):=by
  cases ts with
  |nil=>exact absurd l0 (by decide)
  |cons n r=>exact rA (layAs as) (by decide)
 have lb:(ts.length<=BIG)=True:=aN (by lia)
 have s2:bb (ts.length:Int)=true:=qu (by lia) (by lia)
 push_cast only [ne,cP,lb,s2];generalize hL:bG _ _ _ _=r
 refine lZ hL (λi ρ=>∃v1 v2 v3:Option OD,ρ=[some (.sh (.list (aW ts))),v1,v2,v3]) (λ_=>False) ⟨_,_,_,rfl⟩ ?_ ?_ (λ_ _ f=>f.elim)
 ·rintro i d ρ hd ⟨v1,v2,v3,rfl⟩
  obtain ⟨hi,rfl⟩:=mq hd;have hi2:i<ts.length:=by lia
  rw [show (0:Int)+(i:Int)=(i:Int) by lia]
  have hn:=iN hi2;have g1:=iv hn;have hE:=qo (v.row i hi2);obtain ⟨r0,r1⟩:=lG hE;rw [cT hn]at r0 r1;generalize hnd:eY ts i=n at *
  have c1:decide ((i:Int)<=n.e)=false:=decide_eq_false (by
   by_cases h0:i=0
   ·have:=r0 h0;lia
   ·have:=r1 (by lia);lia)
  have em:(if (1:Int)<(i:Int) then (1:Int) else (i:Int))=min (i:Int) 1:=by split <;> lia
  have c2:decide (n.e<min (i:Int) 1-1)=false:=decide_eq_false (by
   by_cases h0:i=0
   ·have:=r0 h0;lia
   ·have:=r1 (by lia);lia)
  have w1:=ud n.e;have w2:=ud n.t;have cc:decide (n.e<(if (1:Int)<(i:Int) then (1:Int) else (i:Int))-1)=false:=by rw [em];exact c2
  push_cast only [g1,ndD,w1,w2,c1,cc];generalize hW:cM _ _ _=rw
  refine oV hW (λm ρ=>∃a:Int,ρ=[some (.sh (.list (aW ts))),some (.sh (.int (i:Int))),some (.sh (.tuple [.int n.e,.str n.l,.int n.t])),some (.sh (.int a))]/\m=a.toNat+1/\((a=-1/\n.e=-1)\/∃q:Nat,a=(q:Int)/\q<ts.length/\fnd ts n.e q=true)) (((i:Int)-1).toNat+1) ⟨_,rfl,rfl,?_⟩
   (fun ρ=>ρ=[some (.sh (.list (aW ts))),some (.sh (.int (i:Int))),some (.sh (.tuple [.int n.e,.str n.l,.int n.t])),some (.sh (.int n.e))]) ?_ ?_
  ·unfold elB at hE
   by_cases h0:i=0
   ·left
    rw [h0];exact ⟨rfl,r0 h0⟩
   ·right
    rw [if_neg h0,cT hn]at hE;exact ⟨i-1,by lia,by lia,hE⟩
  ·rintro m ρ ⟨a,rfl,rfl,ha⟩
   rcases ha with ⟨rfl,hn1⟩ | ⟨q,rfl,hq,hf⟩
   ·left
    have d1:decide (n.e < -1)=false:=decide_eq_false (by lia)
    refine ⟨by push_cast only [d1],by rw [hn1]⟩
   ·obtain ⟨f1,f2⟩:=nz ts n.e q q (Zm _) hf
    by_cases hlt:n.e<(q:Int)
    ·right
     refine ⟨by push_cast only [decide_eq_true hlt],?_⟩
     rw [iX,if_neg (by lia)]at hf
     by_cases hc:0<=eOf ts q/\eOf ts q<q
     ·rw [if_pos hc]at hf
      have gq:=iv (iN hq);rw [<-zx hq]at hc hf;push_cast only [gq,ndD];refine ⟨(eY ts q).e.toNat+1,by lia,_,rfl,rfl,.inr ⟨(eY ts q).e.toNat,by lia,by lia,hf⟩⟩
     ·rw [if_neg hc]at hf
      cases hf
    ·left
     have:(q:Int)=n.e:=by lia
     refine ⟨by push_cast only [decide_eq_false hlt],by rw [this]⟩
  ·rintro ρ' rfl rfl
   have d1:decide (n.e=n.e)=true:=decide_eq_true rfl;push_cast only [d1];exact ⟨_,_,_,rfl⟩
 ·rintro ρ' rfl ⟨v1,v2,v3,rfl⟩
  push_cast only [and_self]
noncomputable def rfD (k:Int):PyData:=.tuple [.str "refused",.int k]
theorem sf {n:Nat} {a:List PyData} (h:lay n (.tuple a)) (hn:n<=64:=by decide):gEq (.tuple a) (.tuple a)=.ok (.sh (.bool true)):=by
 unfold gEq;rw [nu,kx h hn];rfl
theorem uH (k:Int):lay 1 (rfD k):=mZ λx hx=>by
 simp only [Zn,List.not_mem_nil,or_false]at hx;rcases hx with rfl | rfl
 ·exact oK (by decide +kernel)
 ·exact oo _
theorem rP (k:Int):gEq (rfD k) (rfD k)=.ok (.sh (.bool true)):=sf (uH k)
noncomputable abbrev Ci:List (Str×PyData):=[("NoText",PyData.tuple [.str "refused",.int 1]),("NoTree",PyData.tuple [.str "refused",.int 2])]
theorem lk1:List.lookup (Str.ofString "NoText") Ci=some (rfD 1):=by
 show List.lookup (Str.ofString "NoText") ((Str.ofString "NoText",rfD 1) :: _)=_
 rw [List.lookup_cons,beq_self_eq_true]
theorem lk2:List.lookup (Str.ofString "NoTree") Ci=some (rfD 2):=by
 show List.lookup (Str.ofString "NoTree") ((Str.ofString "NoText",rfD 1) :: (Str.ofString "NoTree",rfD 2) :: [])=_
 rw [List.lookup_cons,show (Str.ofString "NoTree" == Str.ofString "NoText")=false by decide +kernel,List.lookup_cons,beq_self_eq_true]
theorem nO {d:PyData} {c:Str} {k:Int} (h:bp [d]=.ex c) (hl:List.lookup c Ci=some (rfD k)):bE [d]=.ok (.sh (rfD k)):=by
 unfold bE fg;have e:=λj ρ=>FQ (j:=j) (ρ:=ρ) hl
 push_cast only [vw,h,e]
theorem sG {d:PyData} {z:OD} {ts:List Nd} (h:bp [d]=.ok z) (hz:z.er=.list (aW ts)):bE [d]=.ok (.sh (.tuple [.str "told",.list (aW ts)])):=by
 unfold bE fg;push_cast only [vw,h,Eo,hz]
theorem zr {t:List Nat} (hl:600<t.length) (h9:t.length<=900):bp [.str (sS t)]=.ex "NoText" := by
 unfold bp ef;have el:(sS t).length=t.length:=aX t;have lb:(t.length<=BIG)=True:=aN (by lia)
 have d1:decide ((600:Int)<(t.length:Int))=true:=decide_eq_true (by lia)
 push_cast only [el,lb,d1,cE,cN,cO]
theorem ri {t:List Nat} (hl:t.length<=600) (asc:∀c∈t,c<128):bp [.str (sS t)]=match M t [] [] (some []) with
  |some rows=>bI [.list (aW rows)]
  |none=>.ex "NoText" := by
 unfold bp ef;have el:(sS t).length=t.length:=aX t;have lb:(t.length<=BIG)=True:=aN (by lia)
 have d1:decide ((600:Int)<(t.length:Int))=false:=decide_eq_false (by lia)
 have xr:=AS hl asc;cases hM:M t [] [] (some []) with
 |none =>
  rw [hM]at xr;push_cast only [el,lb,d1,xr,cN,qH,cO]
 |some rows =>
  rw [hM]at xr;have xr':c9 [.str (sS t)]=.ok (.ol ((aW rows).map OD.sh)):=xr;push_cast only [el,lb,d1,xr',dw];show _=bI [.list (aW rows)]
  cases bI [.list (aW rows)] <;> rfl
theorem qO {t:List Nat} (asc:∀c∈t,c<128) (h9:t.length<=900):dZ [.str (sS t)]=.ok (.sh (.bool true)):=by
 unfold dZ d4;have fk:=sU asc h9;have dk:=pG asc;have bad:bp [.str (sS t)]=.ex "NoText" -> frB t=false->bx 1 2 d4 [.str (sS t)]=.ok (.sh (.bool true)):=λh1 h2=>by
  have rd:=nO h1 lk1;have sm:gEq (rfD 1) (.tuple [.str "refused",.int 1])=.ok (.sh (.bool true)):=rP 1;rw [h2]at fk;unfold d4;push_cast only [rd,fk,sm]
 by_cases hl:t.length<=600
 ·cases hM:M t [] [] (some []) with
  |none =>
   have xs:=ri hl asc;rw [hM]at xs;refine bad xs ?_;unfold frB;by_cases h33:33∈t
   ·rw [decide_eq_true h33]
    rfl
   ·have e:=(yH t [] [] 0 h33 (by decide) (by decide)).1 [] (by simp)
    rw [hM]at e;have e':false=(Acc t 0 [] && decide (dmx t 0 0<=100)):=e;rw [Bool.and_comm (decide (dmx t 0 0<=100)),<-e'];simp
  |some ts =>
   have xs:=ri hl asc;rw [hM]at xs;have xs':bp [.str (sS t)]=bI [.list (aW ts)]:=xs;obtain ⟨c,pt,ht,ok⟩:=BG hM;have pin:∀k∈F.pre (F.full c),k<ts.length:=λk hk=>by
    rw [F.Pf.preF pt,ZF]at hk;exact hk
   have h33:33∉t:=by rw [ht];exact Cp ok _ pin
   have e:=(yH t [] [] 0 h33 (by decide) (by decide)).1 [] (by simp)
   rw [hM]at e;have e':true=(Acc t 0 [] && decide (dmx t 0 0<=100)):=e;have fr:frB t=true:=by
    unfold frB;rw [decide_eq_false h33,decide_eq_true hl,Bool.and_comm (decide (dmx t 0 0<=100)),<-e'];rfl
   rw [fr]at fk;obtain ⟨q1,q2⟩:=qv pt ok;rw [<-ht]at q1 q2;have c1:=qR t 44;have c2:=qR t 40;rw [<-s44]at c1;rw [<-s40]at c2;have el:(sS t).length=t.length:=aX t;have lb:(t.length<=BIG)=True:=aN (by lia)
   have cmE:((t.count 44:Nat):Int)+((t.count 40:Nat):Int)=(cm t:Int):=by unfold cm;lia
   have as:As ts:=λn hn=>wG (ok n hn).1
   have tl:ts.length<=1000:=by
    have:=uT t
    lia
   have bad2:¬Valid ts->bE [.str (sS t)]=.ok (.sh (rfD 2)):=λh=>by
    rcases t8 ts as tl with ⟨v,_⟩ | ⟨_,e2⟩
    ·exact absurd v h
    ·exact nO (xs'.trans e2) lk2
   have sm:gEq (rfD 2) (.tuple [.str "refused",.int 2])=.ok (.sh (.bool true)):=rP 2;by_cases hc:(39:Int)<(cm t:Int)
   ·have rd:=bad2 λv=>by have:=v.l1;lia
    push_cast only [rd,fk,lK,lN,lW,qw,el,lb,c1,c2,cmE,decide_eq_true hc,sm]
   ·by_cases hd:(8:Int)<dmx t 0 0
    ·have rd:=bad2 λv=>by
      have dp:Dp ts 8:=λk hk=>by
       unfold lvN;cases z:(lvs ts)[k]? with
       |none=>exact Nat.zero_le _
       |some y=>exact v.lv k y z
      have:=q2.mp dp
      lia
     push_cast only [rd,fk,lK,lN,lW,qw,el,lb,c1,c2,cmE,decide_eq_false hc,dk,decide_eq_true hd,sm]
    ·have dp:Dp ts 8:=q2.mpr (by lia)
     have hl40:ts.length<=40:=by lia
     have vd:=u_ pt ok hl40 dp;have rd:bE [.str (sS t)]=.ok (.sh (.tuple [.str "told",.list (aW ts)])):=by
      rcases t8 ts as tl with ⟨_,e2⟩ | ⟨nv,_⟩
      ·exact sG (xs'.trans e2) (by rw [yx,dw])
      ·exact absurd vd nv
     have kk:=ux vd as;obtain ⟨kd,hk⟩:=yt pt;have h0:=F.Pf.pos pt;have to:bX [.list (aW ts),.int 0]=.ok (.sh (.str (sS (tx ts kd 0)))):=mh pt ok hl40 dp hk h0;have et:tx ts kd 0=t:=by
      obtain ⟨r1,r2,_⟩:=F.Pf.con pt;obtain ⟨k1,k2,_⟩:=hk 0 h0;have:c=kd 0:=rk c (kd 0) r2 k2 (r1.symm.trans k1);rw [yu,<-this,ht];rfl
     rw [et]at to;have dX:decide (sS t=sS t)=true:=decide_eq_true rfl;have dt:decide (Str.ofString "told" = Str.ofString "told")=true:=decide_eq_true rfl;push_cast only [rd,fk,lK,lN,lW,qw,el,lb,c1,c2,cmE,decide_eq_false hc,dk,decide_eq_false hd,kk,to,dX,dt]
 ·refine bad (zr (by lia) h9) ?_
  unfold frB;rw [decide_eq_false hl];simp
noncomputable def Tx (r:R OD):Prop:=∃u:List Nat,r=.ok (.sh (.str (sS u)))/\(∀c∈u,c<128)/\u.length<=900
theorem pR (x:Array Nat):∀(k:Nat) (acc:Array Nat),((List.replicate k x).foldl (·++·) acc).toList=acc.toList++(List.replicate k x.toList).flatten
 |0,acc=>by simp
 |k+1,acc=>by
  rw [List.replicate_succ,List.foldl_cons,pR x k (acc++x),List.replicate_succ,List.flatten_cons,Array.toList_append,ZB]
theorem ow (x:Str) (n:Nat):(∀c∈cs (Txt.mul x (n:Int)),c∈cs x)/\(cs (Txt.mul x (n:Int))).length<=(cs x).length * n:=by
 unfold Txt.mul;split
 ·exact ⟨(λc hc=>by cases hc),Nat.zero_le _⟩
 ·rename_i h1
  split
  ·refine ⟨λc hc=>hc,?_⟩
   exact Nat.le_mul_of_pos_right _ (by lia)
  ·have e:cs ⟨(List.replicate ((n:Int)).toNat x.cps).foldl (·++·) #[]⟩=(List.replicate n (cs x)).flatten:=by
    show ((List.replicate ((n:Int)).toNat x.cps).foldl (·++·) #[]).toList=_
    rw [pR,show ((n:Int)).toNat=n by lia]
    rfl
   rw [e];refine ⟨λc hc=>?_,?_⟩
   ·obtain ⟨l,hl,hc⟩:=List.mem_flatten.mp hc
    rw [(List.mem_replicate.mp hl).2]at hc;exact hc
   ·rw [List.length_flatten,List.map_replicate,List.sum_replicate_nat,Nat.mul_comm]
    exact Zm _
theorem dq (a b:Str):cs (a++b)=cs a++cs b:=lC a b
theorem fJ (a:Str):(cs a).length=a.length:=(je a).symm
theorem Tx.of {x:Str} (h:∀c∈cs x,c<128) (hl:(cs x).length<=900):Tx (.ok (.sh (.str x))):=⟨cs x,by rw [nL],h,hl⟩
theorem vY (z:Int):∃c,c<128/\fC [.int z]=.ok (.sh (.str ⟨#[c]⟩)):=by
 unfold fC gB;have l1:(Str.ofString "()(),,**az0129").cps.toList.length=14:=by decide +kernel
 have a1:∀c∈(Str.ofString "()(),,**az0129").cps.toList,c<128:=by decide +kernel
 have l2:(Str.ofString " !\"#$&'()*+,-./0123456789:;<=>?@ABCDEFGHIJKLMNOPQRSTUVWXYZ[\\]^_`" ++ Str.ofString "abcdefghijklmnopqrstuvwxyz{|}~").cps.toList.length=94:=by decide +kernel
 have a2:∀c∈(Str.ofString " !\"#$&'()*+,-./0123456789:;<=>?@ABCDEFGHIJKLMNOPQRSTUVWXYZ[\\]^_`" ++ Str.ofString "abcdefghijklmnopqrstuvwxyz{|}~").cps.toList,c<128:=by decide +kernel
 have b0:((Str.ofString " !\"#$&'()*+,-./0123456789:;<=>?@ABCDEFGHIJKLMNOPQRSTUVWXYZ[\\]^_`").length+(Str.ofString "abcdefghijklmnopqrstuvwxyz{|}~").length<=BIG)=True:=by decide +kernel
 have b1:((Str.ofString "()(),,**az0129").length<=BIG)=True:=by decide +kernel
 have b2:((Str.ofString " !\"#$&'()*+,-./0123456789:;<=>?@ABCDEFGHIJKLMNOPQRSTUVWXYZ[\\]^_`" ++ Str.ofString "abcdefghijklmnopqrstuvwxyz{|}~").length<=BIG)=True:=by decide +kernel
 have m1:=dF (z / 3) (show (0:Int)<14 by decide)
 have m2:=dF (z / 3) (show (0:Int)<94 by decide)
 obtain ⟨x,x1,x2⟩:=kB (Str.ofString "()(),,**az0129").cps.toList (z / 3 % 14) m1.1 (by rw [l1];exact m1.2)
 obtain ⟨y,y1,y2⟩:=kB (Str.ofString " !\"#$&'()*+,-./0123456789:;<=>?@ABCDEFGHIJKLMNOPQRSTUVWXYZ[\\]^_`" ++ Str.ofString "abcdefghijklmnopqrstuvwxyz{|}~").cps.toList (z / 3 % 94) m2.1 (by rw [l2];exact m2.2)
 have xa:=a1 x (Zz x1);have ya:=a2 y (Zz y1);by_cases h:(0:Int)<z % 3
 ·refine ⟨x,xa,?_⟩
  push_cast only [b0,decide_eq_true h,b1,x2,Option.map_some]
 ·refine ⟨y,ya,?_⟩
  push_cast only [b0,decide_eq_false h,b2,y2,Option.map_some]
theorem xO (n:Nat):Builtin.Str.strSliceIndices (some ((n:Int)+1)) none 1 n=Builtin.Str.strSliceIndices (some (n:Int)) none 1 n:=by
 have h0:¬(n:Int)+1<0:=by lia
 have h1:¬((n:Int)<0):=by lia
 have h2:(1:Int) > 0:=by decide
 have h3:min ((n:Int)+1) (n:Int)=min (n:Int) (n:Int):=by lia
 simp only [Builtin.Str.strSliceIndices,h0,h1,h2,if_false,if_true,h3]
theorem zE (t:List Nat) (k:Nat) (h:k<=t.length):Txt.slice (sS t) (some ((k:Int)+1)) none=sS (t.drop (k+1)):=by
 by_cases hk:k=t.length
 ·subst hk
  have e:Txt.slice (sS t) (some ((t.length:Int)+1)) none=Txt.slice (sS t) (some (t.length:Int)) none:=by
   unfold Txt.slice;rw [aX,xO]
  rw [e,pk t _ (Zm _),List.drop_length,List.drop_eq_nil_of_le (by lia)]
 ·have:=pk t (k+1) (by lia)
  exact this
theorem ml {t:List Nat} (asc:∀c∈t,c<128) (hl:t.length<=600) (z:Int):Tx (cz [.str (sS t),.int z]):=by
 unfold cz eI;have el:(sS t).length=t.length:=aX t;have lb:(t.length<=BIG)=True:=aN (by lia)
 obtain ⟨c,hc,sg⟩:=vY (z * 69621 % 2147483629 / 4096);have p0:(0:Int)<(t.length:Int)+1:=by lia
 have pp:(0<(t.length:Int)+1/\(t.length:Int)+1<1073741824)=True:=eq_true ⟨by lia,by lia⟩
 have m1:=dF (z * 69621 % 2147483629 / 3) p0;obtain ⟨a,ha⟩:∃a:Nat,z * 69621 % 2147483629 / 3 % ((t.length:Int)+1)=(a:Int):=⟨_,(Int.toNat_of_nonneg m1.1).symm⟩;have hal:a<=t.length:=by lia
 have t1:=qQ t a hal;have t2:=pk t a hal;have t3:=zE t a hal;have ec:(⟨#[c]⟩:Str)=sS [c]:=rfl;have lt:(sS (t.take a)).length=a:=by rw [aX,ZC];lia
 have lc:(sS [c]).length=1:=rfl;have la1:(a+1<=BIG)=True:=aN (by lia)
 have lta:(sS (t.take a++[c])).length=a+1:=by rw [aX,Zd,ZC,List.length_singleton];lia
 have ld:(sS (t.drop a)).length=t.length-a:=by rw [aX,ZD]
 have ld1:(sS (t.drop (a+1))).length=t.length-(a+1):=by rw [aX,ZD]
 have x1:(a+1+(t.length-a)<=BIG)=True:=aN (by lia)
 have x2:(a+(t.length-(a+1))<=BIG)=True:=aN (by lia)
 have x3:(a+1+(t.length-(a+1))<=BIG)=True:=aN (by lia)
 have tk:∀x∈t.take a,x<128:=λx hx=>asc x (List.mem_of_mem_take hx)
 have td:∀(k:Nat),∀x∈t.drop k,x<128:=λk x hx=>asc x (List.mem_of_mem_drop hx)
 have three:∀k,a<=k->Tx (.ok (.sh (.str (sS (t.take a++[c]++t.drop k))))):=λk hk=>⟨_,rfl,λx hx=>by
  rcases Zr.mp hx with hx | hx
  ·rcases Zr.mp hx with hx | hx
   ·exact tk x hx
   ·rw [List.mem_singleton.mp hx];exact hc
  ·exact td k x hx,by rw [Zd,Zd,ZC,ZD,List.length_singleton];lia⟩
 rw [ec]at sg;by_cases h0:z * 69621 % 2147483629 % 3=0
 ·push_cast only [el,lb,p0,pp,sg,ha,decide_eq_true h0,fm,t1,t2,lt,lc,la1,fH,lta,ld,x1]
  exact three a (Zm _)
 ·by_cases h1:z * 69621 % 2147483629 % 3=1
  ·push_cast only [el,lb,p0,pp,sg,ha,decide_eq_false h0,decide_eq_true h1,fm,t1,t3,lt,fH,ld1,x2]
   exact ⟨_,rfl,λx hx=>(Zr.mp hx).elim (tk x) (td _ x),by rw [Zd,ZC,ZD];lia⟩
  ·push_cast only [el,lb,p0,pp,sg,ha,decide_eq_false h0,decide_eq_false h1,fm,t1,t3,lt,lc,la1,fH,lta,ld1,x3]
   exact three (a+1) (by lia)
theorem xw (z:Int):Tx (d9 [.int z]):=by
 unfold d9 gm;have a1:∀c∈cs (Str.ofString "ab("),c<128:=by decide +kernel
 have a2:∀c∈cs (Str.ofString "c"),c<128:=by decide +kernel
 have a3:∀c∈cs (Str.ofString ")"),c<128:=by decide +kernel
 have e1:(cs (Str.ofString "ab(")).length=3:=by decide +kernel
 have e2:(cs (Str.ofString "c")).length=1:=by decide +kernel
 have e3:(cs (Str.ofString ")")).length=1:=by decide +kernel
 have k1:(Str.ofString "ab(").length<=100:=by decide +kernel
 have k3:(Str.ofString ")").length<=100:=by decide +kernel
 have main:∀n:Nat,n<=110->ba (eOp aO (eOp aO (eOp jE (eC (.str "ab(")) (af 1)) (eC (.str "c"))) (eOp jE (eC (.str ")")) (af 1))) [some (.sh (.int z)),some (.sh (.int (n:Int)))]=.ok (.rt (.sh (.str (Txt.mul (Str.ofString "ab(") (n:Int)++Str.ofString "c" ++ Txt.mul (Str.ofString ")") (n:Int)))))/\Tx (.ok (.sh (.str (Txt.mul (Str.ofString "ab(") (n:Int)++Str.ofString "c" ++ Txt.mul (Str.ofString ")") (n:Int))))):=λn hn=>by
  obtain ⟨p1,p2⟩:=ow (Str.ofString "ab(") n
  obtain ⟨q1,q2⟩:=ow (Str.ofString ")") n
  have m1:=oY k1 (show (0:Int)<=(n:Int) by lia) (by lia)
  have m3:=oY k3 (show (0:Int)<=(n:Int) by lia) (by lia)
  rw [e1]at p2;rw [e3]at q2;have b1:((Txt.mul (Str.ofString "ab(") (n:Int)).length+(Str.ofString "c").length<=BIG)=True:=aN (by rw [<-fJ,<-fJ,e2];lia)
  have b2:((Txt.mul (Str.ofString "ab(") (n:Int)++Str.ofString "c").length+(Txt.mul (Str.ofString ")") (n:Int)).length<=BIG)=True:=aN (by rw [<-fJ,<-fJ,dq,Zd,e2];lia)
  refine ⟨by push_cast only [m1,m3,b1,b2],.of (λc hc=>?_) ?_⟩
  ·rw [dq,dq]at hc
   rcases Zr.mp hc with hc | hc
   ·rcases Zr.mp hc with hc | hc
    ·exact a1 c (p1 c hc)
    ·exact a2 c hc
   ·exact a3 c (q1 c hc)
  ·rw [dq,dq,Zd,Zd,e2]
   lia
 have r1:=dF z (show (0:Int)<4 by decide)
 have r2:=dF (z / 8) (show (0:Int)<4 by decide)
 by_cases h:z / 4 % 2=1
 ·obtain ⟨n,hn⟩:∃n:Nat,99+z / 8 % 4=(n:Int):=⟨_,(Int.toNat_of_nonneg (by lia)).symm⟩
  obtain ⟨e,tx⟩:=main n (by lia)
  push_cast only [decide_eq_true h,hn,↓e];exact tx
 ·obtain ⟨n,hn⟩:∃n:Nat,8+z % 4=(n:Int):=⟨_,(Int.toNat_of_nonneg (by lia)).symm⟩
  obtain ⟨e,tx⟩:=main n (by lia)
  push_cast only [decide_eq_false h,hn,↓e];exact tx
theorem vJ (n:Nat):(g6 (List.replicate n [99])).length<=2 * n/\∀c∈g6 (List.replicate n [99]),c<128:=by
 induction n with
 |zero=>exact ⟨Nat.zero_le _,λc hc=>by cases hc⟩
 |succ n ih =>
  cases n with
  |zero=>exact ⟨by decide,λc hc=>by rw [List.mem_singleton.mp hc];decide⟩
  |succ n =>
   have e:g6 (List.replicate (n+1+1) [99])=[99]++44 :: g6 (List.replicate (n+1) [99]):=rfl;rw [e];refine ⟨?_,λc hc=>?_⟩
   ·have:=ih.1
    have e2:∀J:List Nat,([99]++44 :: J).length=J.length+2:=λJ=>by simp
    rw [e2]
    lia
   ·rcases Zr.mp hc with hc | hc
    ·rw [List.mem_singleton.mp hc];decide
    ·rcases Zn.mp hc with rfl | hc
     ·decide
     ·exact ih.2 c hc
theorem we (z:Int):Tx (d5 [.int z]):=by
 unfold d5 gv;have a1:∀c∈cs (Str.ofString "ab("),c<128:=by decide +kernel
 have a3:∀c∈cs (Str.ofString ")"),c<128:=by decide +kernel
 have e1:(cs (Str.ofString "ab(")).length=3:=by decide +kernel
 have e3:(cs (Str.ofString ")")).length=1:=by decide +kernel
 by_cases h:z % 2=0
 ·have r1:=dF (z / 2) (show (0:Int)<5 by decide)
  obtain ⟨n,hn⟩:∃n:Nat,38+z / 2 % 5=(n:Int):=⟨_,(Int.toNat_of_nonneg (by lia)).symm⟩
  have ro:=wF (.str (Str.ofString "c")) n (by lia)
  have sc:Str.ofString "c" = sS [99]:=by decide +kernel
  have em:List.replicate n (PyData.str (Str.ofString "c"))=((List.replicate n [99]).map sS).map PyData.str:=by rw [List.map_replicate,List.map_replicate,<-sc]
  rw [em]at ro;obtain ⟨j1,j2⟩:=vJ n;have jk:=qP (L:=List.replicate n [99]) (by lia)
  have ij:=FT (s:=Str.ofString ",") ((List.replicate n [99]).map sS);rw [if_pos jk,pM]at ij;have b1:((Str.ofString "ab(").length+(sS (g6 (List.replicate n [99]))).length<=BIG)=True:=aN (by rw [<-fJ,e1,aX];lia)
  have b2:((Str.ofString "ab(" ++ sS (g6 (List.replicate n [99]))).length+(Str.ofString ")").length<=BIG)=True:=aN (by rw [<-fJ,<-fJ,dq,Zd,e1,e3,bN];lia)
  push_cast only [decide_eq_true h,hn,ro,Ew,Dx,dw,ij,b1,b2];refine .of (λc hc=>?_) ?_
  ·rw [dq,dq,bN]at hc
   rcases Zr.mp hc with hc | hc
   ·rcases Zr.mp hc with hc | hc
    ·exact a1 c hc
    ·exact j2 c hc
   ·exact a3 c hc
  ·rw [dq,dq,Zd,Zd,e1,e3,bN]
   lia
 ·have r1:=dF (z / 2) (show (0:Int)<4 by decide)
  obtain ⟨n,hn⟩:∃n:Nat,5+z / 2 % 4=(n:Int):=⟨_,(Int.toNat_of_nonneg (by lia)).symm⟩
  have a4:∀c∈cs (Str.ofString "abcdefghi,"),c<128:=by decide +kernel
  have a5:∀c∈cs (Str.ofString "z"),c<128:=by decide +kernel
  have e4:(cs (Str.ofString "abcdefghi,")).length=10:=by decide +kernel
  have e5:(cs (Str.ofString "z")).length=1:=by decide +kernel
  have m4:jE (.str (Str.ofString "abcdefghi,")) (.int 59)=.ok (.sh (.str (Txt.mul (Str.ofString "abcdefghi,") ((59:Nat):Int)))):=oY (n:=((59:Nat):Int)) (by decide +kernel) (by decide) (by decide)
  have m5:=oY (x:=Str.ofString "z") (n:=(n:Int)) (by decide +kernel) (by lia) (by lia)
  obtain ⟨p1,p2⟩:=ow (Str.ofString "abcdefghi,") 59;obtain ⟨q1,q2⟩:=ow (Str.ofString "z") n;rw [e4]at p2;rw [e5]at q2;generalize Txt.mul (Str.ofString "abcdefghi,") ((59:Nat):Int)=A at *
  generalize Txt.mul (Str.ofString "z") (n:Int)=Z at *
  have b1:((Str.ofString "ab(").length+A.length<=BIG)=True:=aN (by rw [<-fJ,<-fJ,e1];lia)
  have b2:((Str.ofString "ab(" ++ A).length+Z.length<=BIG)=True:=aN (by rw [<-fJ,<-fJ,dq,Zd,e1];lia)
  have b3:((Str.ofString "ab(" ++ A++Z).length+(Str.ofString ")").length<=BIG)=True:=aN (by rw [<-fJ,<-fJ,dq,dq,Zd,Zd,e1,e3];lia)
  push_cast only [decide_eq_false h,hn,m4,m5,b1,b2,b3];refine .of (λc hc=>?_) ?_
  ·rw [dq,dq,dq]at hc
   rcases Zr.mp hc with hc | hc
   ·rcases Zr.mp hc with hc | hc
    ·rcases Zr.mp hc with hc | hc
     ·exact a1 c hc
     ·exact a4 c (p1 c hc)
    ·exact a5 c (q1 c hc)
   ·exact a3 c hc
  ·rw [dq,dq,dq,Zd,Zd,Zd,e1,e3]
   lia
noncomputable def Eg:List Str:=["", "a()", "a(b", "a)b(", "a*1", "a*10", "a*02", "(a)", "a(b)(c)", "a(b,)", "a,b", "abcdefghij"]
theorem BZ (z:Int):Tx (eU [.int z]):=by
 unfold eU g7;have all:∀s∈Eg,(∀c∈cs s,c<128)/\(cs s).length<=900:=by decide +kernel
 have r1:=dF z (show (0:Int)<12 by decide)
 obtain ⟨x,x1,x2⟩:=kB (Eg.map PyData.str) (z % 12) r1.1 r1.2;rw [Za]at x1;obtain ⟨s,hs,rfl⟩:=Zo.mp x1;obtain ⟨q1,q2⟩:=all s (Zz hs);have x2':atI [PyData.str (Str.ofString ""),.str (Str.ofString "a()"),.str (Str.ofString "a(b"),.str (Str.ofString "a)b("),.str (Str.ofString "a*1"),.str (Str.ofString "a*10"),.str (Str.ofString "a*02"),.str (Str.ofString "(a)"),.str (Str.ofString "a(b)(c)"),.str (Str.ofString "a(b,)"),.str (Str.ofString "a,b"),.str (Str.ofString "abcdefghij")] (z % 12)=some (.str s):=x2
 have b12:(12<=BIG)=True:=aN (by lia)
 push_cast only [b12,x2'];exact .of q1 q2
noncomputable def sd (us:List (List Nat)):Prop:=∀u∈us,(∀c∈u,c<128)/\u.length<=900
theorem sd.snoc {us:List (List Nat)} {u:List Nat} (h:sd us) (h1:∀c∈u,c<128) (h2:u.length<=900):sd (us++[u]):=λv hv=>by
 rcases Zr.mp hv with hv | hv
 ·exact h v hv
 ·rw [List.mem_singleton.mp hv]
  exact ⟨h1,h2⟩
theorem sZ {a0 a1 a2 a5 a6:Option OD} {z:Int} {tst:Ft} {fn:Fn} {us:List (List Nat)} (hu:sd us) (hl:us.length<=10) (b:Bool) (hb:∀v4,tst [a0,a1,a2,some (.sh (.int z)),v4,a5,a6]=.ok b) (hf:Tx (fn [.int (z / 32)])) :
  ∃us':List (List Nat),sd us'/\us'.length<=us.length+1/\sIf tst (ju 4 (eSh (aR fn (aj (eOp gG (af 3) (eC (.int 32))) aF)))) sNx [a0,a1,a2,some (.sh (.int z)),some (.ol (us.map λu=>OD.sh (.str (sS u)))),a5,a6]=.ok (.nx [a0,a1,a2,some (.sh (.int z)),some (.ol (us'.map λu=>OD.sh (.str (sS u)))),a5,a6]):=by
 have h:=hb (some (.ol (us.map λu=>OD.sh (.str (sS u)))))
 obtain ⟨u,e,h1,h2⟩:=hf;cases b with
 |true =>
  refine ⟨us++[u],hu.snoc h1 h2,by rw [Zd];exact Zm _,?_⟩
  have lb:(us.length<BIG)=True:=mw (by lia)
  push_cast only [h,e,lb,Zk]
 |false =>
  refine ⟨us,hu,by lia,?_⟩
  push_cast only [h]
theorem xV:∀d∈[PyData.none,.int 7,.bool true,.list [.str (Str.ofString "a")],.tuple [.str (Str.ofString "a")]],bp [d]=.ex "NoText" := by
 intro d hd;unfold bp ef;simp only [Zn,List.not_mem_nil,or_false]at hd;rcases hd with rfl | rfl | rfl | rfl | rfl
 all_goals
  have i1:gy "str" PyData.none=.ok (.sh (.bool false)):=rfl;have i2:gy "str" (PyData.int 7)=.ok (.sh (.bool false)):=rfl;have i3:gy "str" (PyData.bool true)=.ok (.sh (.bool false)):=rfl;have i4:gy "str" (PyData.list [.str (Str.ofString "a")])=.ok (.sh (.bool false)):=rfl;have i5:gy "str" (PyData.tuple [.str (Str.ofString "a")])=.ok (.sh (.bool false)):=rfl;push_cast only [i1,i2,i3,i4,i5,cE,cN,cO]
theorem tu (ns:List Int) (hn:ns.length<=63):l9 [.list (ns.map PyData.int)]=.ok (.sh (.bool true)):=by
 unfold l9 oG;obtain ⟨z,hz⟩:=j4 ns 0 (by decide) (by decide)
 obtain ⟨z1,hz1⟩:=j4 ns 1 (by decide) (by decide)
 obtain ⟨za,hza⟩:=j4 ns 15 (by decide) (by decide)
 obtain ⟨zb,hzb⟩:=j4 ns 16 (by decide) (by decide)
 have m12:=dF z (show (0:Int)<12 by decide)
 obtain ⟨many,hm⟩:∃many:Nat,1+z % 12=(many:Int):=⟨(1+z % 12).toNat,by lia⟩
 obtain ⟨ts,way,gr,tl,ht⟩:=vV ns 2 many 9 8 (by decide) (by decide) (by lia) (by lia) (by decide) (by decide) (by decide) (by decide)
 have gr:Grown 8 ts way:=gr;obtain ⟨c,pt,_⟩:=t7 gr;have ok:=gr.ok;have dp:Dp ts 8:=(t9 gr).2;have hl:ts.length<=40:=by lia
 obtain ⟨kd,hk⟩:=yt pt;have h0:=F.Pf.pos pt;have to:bX [.list (aW ts),.int 0]=.ok (.sh (.str (sS (tx ts kd 0)))):=mh pt ok hl dp hk h0;have xa:=vb hk ok h0;have xl:=(qq hk ok hl h0).2.2;generalize tx ts kd 0=X at to xa xl
 obtain ⟨u1,p1,p1a,p1l⟩:=ml xa (by lia) za
 obtain ⟨u2,p2,p2a,p2l⟩:=ml xa (by lia) zb
 generalize hN:z1 * 48271 % 2147483647=N
 have g0:sd [u1,u2,X]:=λu hu=>by
  simp only [Zn,List.not_mem_nil,or_false]at hu;rcases hu with rfl | rfl | rfl
  ·exact ⟨p1a,p1l⟩
  ·exact ⟨p2a,p2l⟩
  ·exact ⟨xa,by lia⟩
 obtain ⟨v1,g1,n1,h1⟩:=sZ (a0:=some (.sh (.list (ns.map PyData.int)))) (a1:=some (.sh (.list (aW ts)))) (a2:=some (.sh (.str (sS X)))) (a5:=none) (a6:=none) (z:=N) (tst:=aB (eOp gEq (eOp dM (af 3) (eC (.int 4))) (eC (.int 1)))) (fn:=d9) g0 (show 3<=10 by decide) (decide (N % 4=1)) (λv4=>by push_cast only [and_self]) (xw _)
 have n1':v1.length<=4:=n1;obtain ⟨v2,g2,n2,h2⟩:=sZ (a0:=some (.sh (.list (ns.map PyData.int)))) (a1:=some (.sh (.list (aW ts)))) (a2:=some (.sh (.str (sS X)))) (a5:=none) (a6:=none) (z:=N) (tst:=aB (eOp gEq (eOp dM (af 3) (eC (.int 4))) (eC (.int 2)))) (fn:=d5) g1 (by lia) (decide (N % 4=2)) (λv4=>by push_cast only [and_self]) (we _)
 obtain ⟨v3,g3,n3,h3⟩:=sZ (a0:=some (.sh (.list (ns.map PyData.int)))) (a1:=some (.sh (.list (aW ts)))) (a2:=some (.sh (.str (sS X)))) (a5:=none) (a6:=none) (z:=N) (tst:=aB (eOp gEq (eOp dM (eOp gG (af 3) (eC (.int 4))) (eC (.int 8))) (eC (.int 1)))) (fn:=eU) g2 (by lia) (decide (N / 4 % 8=1)) (λv4=>by push_cast only [and_self]) (BZ _)
 rw [Zj,Zj,Zj,List.map_nil]at h1;have ers:(v3.map λu=>OD.sh (.str (sS u))).map OD.er=v3.map λu=>PyData.str (sS u):=by
  rw [Zi];exact Zs λw _=>iU _
 push_cast only [hz,hm,ht,dw,to,hz1,hN,hza,hzb,p1,p2,↓h1,↓h2,↓h3,ers];generalize hL:bG _ _ _ _=r
 refine lZ hL (λi ρ=>∃v5:Option OD,ρ=[some (.sh (.list (ns.map PyData.int))),some (.sh (.list (aW ts))),some (.sh (.str (sS X))),some (.sh (.int N)),some (.sh (.list (v3.map λu=>PyData.str (sS u)))),v5,none]) (λ_=>False) ⟨_,rfl⟩ ?_ ?_ (λ_ _ f=>f.elim)
 ·rintro i d ρ hd ⟨v5,rfl⟩
  rw [Za]at hd;obtain ⟨u,hu,rfl⟩:=Zo.mp hd;obtain ⟨q1,q2⟩:=g3 u (Zz hu);have gd:=qO q1 q2;push_cast only [gd];exact ⟨_,rfl⟩
 ·rintro ρ' rfl ⟨v5,rfl⟩
  have b5:(5<=BIG)=True:=aN (by lia)
  have b1:(1<=BIG)=True:=aN (by lia)
  push_cast only [b5,b1];generalize hL2:bG _ _ _ _=r2
  refine lZ hL2 (λi ρ=>∃v6:Option OD,ρ=[some (.sh (.list (ns.map PyData.int))),some (.sh (.list (aW ts))),some (.sh (.str (sS X))),some (.sh (.int N)),some (.sh (.list (v3.map λu=>PyData.str (sS u)))),v5,v6]) (λ_=>False) ⟨_,rfl⟩ ?_ ?_ (λ_ _ f=>f.elim)
  ·rintro i d ρ hd ⟨v6,rfl⟩
   have rd:=nO (xV d (Zz hd)) lk1;have sm:gNe (rfD 1) (.tuple [.str (Str.ofString "refused"),.int 1])=.ok (.sh (.bool false)):=rV (uH 1);push_cast only [rd,sm];exact ⟨_,rfl⟩
  ·rintro ρ' rfl ⟨v6,rfl⟩
   have gd:=qO xa (by lia)
   push_cast only [gd]
theorem all_mk {l:PySem.W.OpenLaw} {w:World} {K:PySem.W.Frag} {h:Heap} {mg:Str->Option Value} {fa:Addr} (X:K.In h) (G:h.Ns mainGlobals mg) (hfa:mg "law" = some (.ref fa))
  {A1 A2 A3 A4 A5 A6 A7 A8 A9 A10 A11 A12 A13 A14 A15 A16 A17 A18 A19 A20 A21 A22 A23 A24 A25 A26 A27 A28 A29 A30 A31 A32 A33:Addr}
  {D1 J1 D2 J2 D3 J3 D4 J4 D5 J5 D6 J6 D7 J7 D8 J8 D9 J9 D10 J10 D11 J11 D12 J12 D13 J13 D14 J14 D15 J15 D16 J16 D17 J17 D18 J18 D19 J19 D20 J20 D21 J21 D22 J22 D23 J23 D24 J24 D25 J25 D26 J26 D27 J27 D28 J28 D29 J29 D30 J30 D31 J31 D32 J32 D33 J33:Option Addr}
  {K1 K2 K3 K4 K5 K6 K7 K8 K9 K10 K11 K12 K13 K14 K15 K16 K17 K18 K19 K20 K21 K22 K23 K24 K25 K26 K27 K28 K29 K30 K31 K32 K33:Array (Option Value)}
  {N1 O1 P1 T1 U1 V1 N2 O2 P2 T2 U2 V2 N3 O3 P3 T3 U3 V3 N4 O4 P4 T4 U4 V4 N5 O5 P5 T5 U5 V5 N6 O6 P6 T6 U6 V6 N7 O7 P7 T7 U7 V7 N8 O8 P8 T8 U8 V8 N9 O9 P9 T9 U9 V9 N10 O10 P10 T10 U10 V10 N11 O11 P11 T11 U11 V11 N12 O12 P12 T12 U12 V12 N13 O13 P13 T13 U13 V13 N14 O14 P14 T14 U14 V14 N15 O15 P15 T15 U15 V15 N16 O16 P16 T16 U16 V16 N17 O17 P17 T17 U17 V17 N18 O18 P18 T18 U18 V18 N19 O19 P19 T19 U19 V19 N20 O20 P20 T20 U20 V20 N21 O21 P21 T21 U21 V21 N22 O22 P22 T22 U22 V22 N23 O23 P23 T23 U23 V23 N24 O24 P24 T24 U24 V24 N25 O25 P25 T25 U25 V25 N26 O26 P26 T26 U26 V26 N27 O27 P27 T27 U27 V27 N28 O28 P28 T28 U28 V28 N29 O29 P29 T29 U29 V29 N30 O30 P30 T30 U30 V30 N31 O31 P31 T31 U31 V31 N32 O32 P32 T32 U32 V32 N33 O33 P33 T33 U33 V33:Value}
  {tk_DEEPEST:Tok}
  {tk_GREATEST_LEVEL:Tok}
  {tk_GREATEST_TALL:Tok}
  {tk_LETTERS:Tok}
  {tk_LONGEST_LABEL:Tok}
  {tk_MOST_NODES:Tok}
  {tk_MOST_SIGNS:Tok}
  {tk_TALL_FIGURES:Tok}
  {c_DrawError c_NoDeed c_NoNode c_NoPicture c_NoPlace c_NoText c_NoTree c_TooMany:Addr}
  (W1:PySem.W.nsIn K mainGlobals "is_on_way_up" = some (some (.ref A1)))(X1:K.lookup A1=some ⟨N1,D1,.func (PySem.W.fnOf "is_on_way_up" "is_on_way_up" (aT bH) (aP bH) (aq bH) .none O1 P1 T1 J1 U1 V1),K1⟩)(Y1:PySem.W.codeIn K U1 "is_on_way_up" = true)(Z1:PySem.W.keepIn K (.ref A1)=true)
  (W2:PySem.W.nsIn K mainGlobals "is_label" = some (some (.ref A2)))(X2:K.lookup A2=some ⟨N2,D2,.func (PySem.W.fnOf "is_label" "is_label" (aT bW) (aP bW) (aq bW) .none O2 P2 T2 J2 U2 V2),K2⟩)(Y2:PySem.W.codeIn K U2 "is_label" = true)(Z2:PySem.W.keepIn K (.ref A2)=true)
  (W3:PySem.W.nsIn K mainGlobals "check_tall" = some (some (.ref A3)))(X3:K.lookup A3=some ⟨N3,D3,.func (PySem.W.fnOf "check_tall" "check_tall" (aT bP) (aP bP) (aq bP) .none O3 P3 T3 J3 U3 V3),K3⟩)(Y3:PySem.W.codeIn K U3 "check_tall" = true)(Z3:PySem.W.keepIn K (.ref A3)=true)
  (W4:PySem.W.nsIn K mainGlobals "node_levels" = some (some (.ref A4)))(X4:K.lookup A4=some ⟨N4,D4,.func (PySem.W.fnOf "node_levels" "node_levels" (aT bO) (aP bO) (aq bO) .none O4 P4 T4 J4 U4 V4),K4⟩)(Y4:PySem.W.codeIn K U4 "node_levels" = true)(Z4:PySem.W.keepIn K (.ref A4)=true)
  (W5:PySem.W.nsIn K mainGlobals "node_end" = some (some (.ref A5)))(X5:K.lookup A5=some ⟨N5,D5,.func (PySem.W.fnOf "node_end" "node_end" (aT dh) (aP dh) (aq dh) .none O5 P5 T5 J5 U5 V5),K5⟩)(Y5:PySem.W.codeIn K U5 "node_end" = true)(Z5:PySem.W.keepIn K (.ref A5)=true)
  (W6:PySem.W.nsIn K mainGlobals "check_depth" = some (some (.ref A6)))(X6:K.lookup A6=some ⟨N6,D6,.func (PySem.W.fnOf "check_depth" "check_depth" (aT bA) (aP bA) (aq bA) .none O6 P6 T6 J6 U6 V6),K6⟩)(Y6:PySem.W.codeIn K U6 "check_depth" = true)(Z6:PySem.W.keepIn K (.ref A6)=true)
  (W7:PySem.W.nsIn K mainGlobals "shut_brackets" = some (some (.ref A7)))(X7:K.lookup A7=some ⟨N7,D7,.func (PySem.W.fnOf "shut_brackets" "shut_brackets" (aT bt) (aP bt) (aq bt) .none O7 P7 T7 J7 U7 V7),K7⟩)(Y7:PySem.W.codeIn K U7 "shut_brackets" = true)(Z7:PySem.W.keepIn K (.ref A7)=true)
  (W8:PySem.W.nsIn K mainGlobals "goes_on" = some (some (.ref A8)))(X8:K.lookup A8=some ⟨N8,D8,.func (PySem.W.fnOf "goes_on" "goes_on" (aT dC) (aP dC) (aq dC) .none O8 P8 T8 J8 U8 V8),K8⟩)(Y8:PySem.W.codeIn K U8 "goes_on" = true)(Z8:PySem.W.keepIn K (.ref A8)=true)
  (W9:PySem.W.nsIn K mainGlobals "_law_cell" = some (some (.ref A9)))(X9:K.lookup A9=some ⟨N9,D9,.func (PySem.W.fnOf "_law_cell" "_law_cell" (aT cB) (aP cB) (aq cB) .none O9 P9 T9 J9 U9 V9),K9⟩)(Y9:PySem.W.codeIn K U9 "_law_cell" = true)(Z9:PySem.W.keepIn K (.ref A9)=true)
  (W10:PySem.W.nsIn K mainGlobals "_law_whole" = some (some (.ref A10)))(X10:K.lookup A10=some ⟨N10,D10,.func (PySem.W.fnOf "_law_whole" "_law_whole" (aT cG) (aP cG) (aq cG) .none O10 P10 T10 J10 U10 V10),K10⟩)(Y10:PySem.W.codeIn K U10 "_law_whole" = true)(Z10:PySem.W.keepIn K (.ref A10)=true)
  (W11:PySem.W.nsIn K mainGlobals "_law_label" = some (some (.ref A11)))(X11:K.lookup A11=some ⟨N11,D11,.func (PySem.W.fnOf "_law_label" "_law_label" (aT cC) (aP cC) (aq cC) .none O11 P11 T11 J11 U11 V11),K11⟩)(Y11:PySem.W.codeIn K U11 "_law_label" = true)(Z11:PySem.W.keepIn K (.ref A11)=true)
  (W12:PySem.W.nsIn K mainGlobals "_law_sign" = some (some (.ref A12)))(X12:K.lookup A12=some ⟨N12,D12,.func (PySem.W.fnOf "_law_sign" "_law_sign" (aT cW) (aP cW) (aq cW) .none O12 P12 T12 J12 U12 V12),K12⟩)(Y12:PySem.W.codeIn K U12 "_law_sign" = true)(Z12:PySem.W.keepIn K (.ref A12)=true)
  (W13:PySem.W.nsIn K mainGlobals "_law_line" = some (some (.ref A13)))(X13:K.lookup A13=some ⟨N13,D13,.func (PySem.W.fnOf "_law_line" "_law_line" (aT cX) (aP cX) (aq cX) .none O13 P13 T13 J13 U13 V13),K13⟩)(Y13:PySem.W.codeIn K U13 "_law_line" = true)(Z13:PySem.W.keepIn K (.ref A13)=true)
  (W14:PySem.W.nsIn K mainGlobals "_law_star" = some (some (.ref A14)))(X14:K.lookup A14=some ⟨N14,D14,.func (PySem.W.fnOf "_law_star" "_law_star" (aT cV) (aP cV) (aq cV) .none O14 P14 T14 J14 U14 V14),K14⟩)(Y14:PySem.W.codeIn K U14 "_law_star" = true)(Z14:PySem.W.keepIn K (.ref A14)=true)
  (W15:PySem.W.nsIn K mainGlobals "_law_odd" = some (some (.ref A15)))(X15:K.lookup A15=some ⟨N15,D15,.func (PySem.W.fnOf "_law_odd" "_law_odd" (aT dQ) (aP dQ) (aq dQ) .none O15 P15 T15 J15 U15 V15),K15⟩)(Y15:PySem.W.codeIn K U15 "_law_odd" = true)(Z15:PySem.W.keepIn K (.ref A15)=true)
  (W16:PySem.W.nsIn K mainGlobals "_law_is_name" = some (some (.ref A16)))(X16:K.lookup A16=some ⟨N16,D16,.func (PySem.W.fnOf "_law_is_name" "_law_is_name" (aT bD) (aP bD) (aq bD) .none O16 P16 T16 J16 U16 V16),K16⟩)(Y16:PySem.W.codeIn K U16 "_law_is_name" = true)(Z16:PySem.W.keepIn K (.ref A16)=true)
  (W17:PySem.W.nsIn K mainGlobals "_law_depth" = some (some (.ref A17)))(X17:K.lookup A17=some ⟨N17,D17,.func (PySem.W.fnOf "_law_depth" "_law_depth" (aT b7) (aP b7) (aq b7) .none O17 P17 T17 J17 U17 V17),K17⟩)(Y17:PySem.W.codeIn K U17 "_law_depth" = true)(Z17:PySem.W.keepIn K (.ref A17)=true)
  (W18:PySem.W.nsIn K mainGlobals "_law_word" = some (some (.ref A18)))(X18:K.lookup A18=some ⟨N18,D18,.func (PySem.W.fnOf "_law_word" "_law_word" (aT cJ) (aP cJ) (aq cJ) .none O18 P18 T18 J18 U18 V18),K18⟩)(Y18:PySem.W.codeIn K U18 "_law_word" = true)(Z18:PySem.W.keepIn K (.ref A18)=true)
  (W19:PySem.W.nsIn K mainGlobals "check_elder" = some (some (.ref A19)))(X19:K.lookup A19=some ⟨N19,D19,.func (PySem.W.fnOf "check_elder" "check_elder" (aT bB) (aP bB) (aq bB) .none O19 P19 T19 J19 U19 V19),K19⟩)(Y19:PySem.W.codeIn K U19 "check_elder" = true)(Z19:PySem.W.keepIn K (.ref A19)=true)
  (W20:PySem.W.nsIn K mainGlobals "check_label" = some (some (.ref A20)))(X20:K.lookup A20=some ⟨N20,D20,.func (PySem.W.fnOf "check_label" "check_label" (aT bC) (aP bC) (aq bC) .none O20 P20 T20 J20 U20 V20),K20⟩)(Y20:PySem.W.codeIn K U20 "check_label" = true)(Z20:PySem.W.keepIn K (.ref A20)=true)
  (W21:PySem.W.nsIn K mainGlobals "read_node" = some (some (.ref A21)))(X21:K.lookup A21=some ⟨N21,D21,.func (PySem.W.fnOf "read_node" "read_node" (aT cf) (aP cf) (aq cf) .none O21 P21 T21 J21 U21 V21),K21⟩)(Y21:PySem.W.codeIn K U21 "read_node" = true)(Z21:PySem.W.keepIn K (.ref A21)=true)
  (W22:PySem.W.nsIn K mainGlobals "_law_tree" = some (some (.ref A22)))(X22:K.lookup A22=some ⟨N22,D22,.func (PySem.W.fnOf "_law_tree" "_law_tree" (aT cY) (aP cY) (aq cY) .none O22 P22 T22 J22 U22 V22),K22⟩)(Y22:PySem.W.codeIn K U22 "_law_tree" = true)(Z22:PySem.W.keepIn K (.ref A22)=true)
  (W23:PySem.W.nsIn K mainGlobals "_law_spoiled" = some (some (.ref A23)))(X23:K.lookup A23=some ⟨N23,D23,.func (PySem.W.fnOf "_law_spoiled" "_law_spoiled" (aT bS) (aP bS) (aq bS) .none O23 P23 T23 J23 U23 V23),K23⟩)(Y23:PySem.W.codeIn K U23 "_law_spoiled" = true)(Z23:PySem.W.keepIn K (.ref A23)=true)
  (W24:PySem.W.nsIn K mainGlobals "_law_is_done" = some (some (.ref A24)))(X24:K.lookup A24=some ⟨N24,D24,.func (PySem.W.fnOf "_law_is_done" "_law_is_done" (aT bT) (aP bT) (aq bT) .none O24 P24 T24 J24 U24 V24),K24⟩)(Y24:PySem.W.codeIn K U24 "_law_is_done" = true)(Z24:PySem.W.keepIn K (.ref A24)=true)
  (W25:PySem.W.nsIn K mainGlobals "_law_kinds" = some (some (.ref A25)))(X25:K.lookup A25=some ⟨N25,D25,.func (PySem.W.fnOf "_law_kinds" "_law_kinds" (aT cI) (aP cI) (aq cI) .none O25 P25 T25 J25 U25 V25),K25⟩)(Y25:PySem.W.codeIn K U25 "_law_kinds" = true)(Z25:PySem.W.keepIn K (.ref A25)=true)
  (W26:PySem.W.nsIn K mainGlobals "made_tree" = some (some (.ref A26)))(X26:K.lookup A26=some ⟨N26,D26,.func (PySem.W.fnOf "made_tree" "made_tree" (aT cb) (aP cb) (aq cb) .none O26 P26 T26 J26 U26 V26),K26⟩)(Y26:PySem.W.codeIn K U26 "made_tree" = true)(Z26:PySem.W.keepIn K (.ref A26)=true)
  (W27:PySem.W.nsIn K mainGlobals "read_rows" = some (some (.ref A27)))(X27:K.lookup A27=some ⟨N27,D27,.func (PySem.W.fnOf "read_rows" "read_rows" (aT b_) (aP b_) (aq b_) .none O27 P27 T27 J27 U27 V27),K27⟩)(Y27:PySem.W.codeIn K U27 "read_rows" = true)(Z27:PySem.W.keepIn K (.ref A27)=true)
  (W28:PySem.W.nsIn K mainGlobals "_law_formed" = some (some (.ref A28)))(X28:K.lookup A28=some ⟨N28,D28,.func (PySem.W.fnOf "_law_formed" "_law_formed" (aT b9) (aP b9) (aq b9) .none O28 P28 T28 J28 U28 V28),K28⟩)(Y28:PySem.W.codeIn K U28 "_law_formed" = true)(Z28:PySem.W.keepIn K (.ref A28)=true)
  (W29:PySem.W.nsIn K mainGlobals "read_tree" = some (some (.ref A29)))(X29:K.lookup A29=some ⟨N29,D29,.func (PySem.W.fnOf "read_tree" "read_tree" (aT cA) (aP cA) (aq cA) .none O29 P29 T29 J29 U29 V29),K29⟩)(Y29:PySem.W.codeIn K U29 "read_tree" = true)(Z29:PySem.W.keepIn K (.ref A29)=true)
  (W30:PySem.W.nsIn K mainGlobals "_law_read" = some (some (.ref A30)))(X30:K.lookup A30=some ⟨N30,D30,.func (PySem.W.fnOf "_law_read" "_law_read" (aT cF) (aP cF) (aq cF) .none O30 P30 T30 J30 U30 V30),K30⟩)(Y30:PySem.W.codeIn K U30 "_law_read" = true)(Z30:PySem.W.keepIn K (.ref A30)=true)
  (W31:PySem.W.nsIn K mainGlobals "_law_text_of" = some (some (.ref A31)))(X31:K.lookup A31=some ⟨N31,D31,.func (PySem.W.fnOf "_law_text_of" "_law_text_of" (aT ax) (aP ax) (aq ax) .none O31 P31 T31 J31 U31 V31),K31⟩)(Y31:PySem.W.codeIn K U31 "_law_text_of" = true)(Z31:PySem.W.keepIn K (.ref A31)=true)
  (W32:PySem.W.nsIn K mainGlobals "_law_good" = some (some (.ref A32)))(X32:K.lookup A32=some ⟨N32,D32,.func (PySem.W.fnOf "_law_good" "_law_good" (aT cZ) (aP cZ) (aq cZ) .none O32 P32 T32 J32 U32 V32),K32⟩)(Y32:PySem.W.codeIn K U32 "_law_good" = true)(Z32:PySem.W.keepIn K (.ref A32)=true)
  (W33:PySem.W.nsIn K mainGlobals "law" = some (some (.ref A33)))(X33:K.lookup A33=some ⟨N33,D33,.func (PySem.W.fnOf "law" "law" (aT j7) (aP j7) (aq j7) .none O33 P33 T33 J33 U33 V33),K33⟩)(Y33:PySem.W.codeIn K U33 "law" = true)(Z33:PySem.W.keepIn K (.ref A33)=true)
  (z_ValueError:PySem.W.nsIn K mainGlobals "ValueError" = some none)
  (z_all:PySem.W.nsIn K mainGlobals "all" = some none)
  (z_bool:PySem.W.nsIn K mainGlobals "bool" = some none)
  (z_enumerate:PySem.W.nsIn K mainGlobals "enumerate" = some none)
  (z_int:PySem.W.nsIn K mainGlobals "int" = some none)
  (z_isinstance:PySem.W.nsIn K mainGlobals "isinstance" = some none)
  (z_len:PySem.W.nsIn K mainGlobals "len" = some none)
  (z_list:PySem.W.nsIn K mainGlobals "list" = some none)
  (z_max:PySem.W.nsIn K mainGlobals "max" = some none)
  (z_min:PySem.W.nsIn K mainGlobals "min" = some none)
  (z_range:PySem.W.nsIn K mainGlobals "range" = some none)
  (z_str:PySem.W.nsIn K mainGlobals "str" = some none)
  (z_tuple:PySem.W.nsIn K mainGlobals "tuple" = some none)
  (g_DEEPEST:PySem.W.nsIn K mainGlobals "DEEPEST" = some (some (.int 100 tk_DEEPEST)))
  (g_GREATEST_LEVEL:PySem.W.nsIn K mainGlobals "GREATEST_LEVEL" = some (some (.int 8 tk_GREATEST_LEVEL)))
  (g_GREATEST_TALL:PySem.W.nsIn K mainGlobals "GREATEST_TALL" = some (some (.int 9 tk_GREATEST_TALL)))
  (g_LETTERS:PySem.W.nsIn K mainGlobals "LETTERS" = some (some (.str "abcdefghijklmnopqrstuvwxyz" tk_LETTERS)))
  (g_LONGEST_LABEL:PySem.W.nsIn K mainGlobals "LONGEST_LABEL" = some (some (.int 9 tk_LONGEST_LABEL)))
  (g_MOST_NODES:PySem.W.nsIn K mainGlobals "MOST_NODES" = some (some (.int 40 tk_MOST_NODES)))
  (g_MOST_SIGNS:PySem.W.nsIn K mainGlobals "MOST_SIGNS" = some (some (.int 600 tk_MOST_SIGNS)))
  (g_TALL_FIGURES:PySem.W.nsIn K mainGlobals "TALL_FIGURES" = some (some (.str "23456789" tk_TALL_FIGURES)))
  (ca_DrawError:PySem.W.nsIn K mainGlobals "DrawError" = some (some (.ref c_DrawError)))
  (ca_NoDeed:PySem.W.nsIn K mainGlobals "NoDeed" = some (some (.ref c_NoDeed)))
  (ca_NoNode:PySem.W.nsIn K mainGlobals "NoNode" = some (some (.ref c_NoNode)))
  (ca_NoPicture:PySem.W.nsIn K mainGlobals "NoPicture" = some (some (.ref c_NoPicture)))
  (ca_NoPlace:PySem.W.nsIn K mainGlobals "NoPlace" = some (some (.ref c_NoPlace)))
  (ca_NoText:PySem.W.nsIn K mainGlobals "NoText" = some (some (.ref c_NoText)))
  (ca_NoTree:PySem.W.nsIn K mainGlobals "NoTree" = some (some (.ref c_NoTree)))
  (ca_TooMany:PySem.W.nsIn K mainGlobals "TooMany" = some (some (.ref c_TooMany)))
  (x_NoText1:PySem.W.excIn K c_NoText [.type "ValueError",.type "Exception",.type "BaseException",.type "object"] "ValueError.__new__" = true)
  (x_NoText2:PySem.W.findIn K (.ref c_NoText) "__getattribute__" = some (some (.builtin "BaseException.__getattribute__")))
  (x_NoText3:PySem.W.findIn K (.ref c_NoText) "__class__" = some (some (.builtin "object.__class__")))
  (x_NoText4:PySem.W.findIn K (.ref c_NoText) "__getattr__" = some none)
  (x_NoText5:PySem.W.mroIn K c_NoText (.type "object")=some true)
  (x_NoTree1:PySem.W.excIn K c_NoTree [.type "ValueError",.type "Exception",.type "BaseException",.type "object"] "ValueError.__new__" = true)
  (x_NoTree2:PySem.W.findIn K (.ref c_NoTree) "__getattribute__" = some (some (.builtin "BaseException.__getattribute__")))
  (x_NoTree3:PySem.W.findIn K (.ref c_NoTree) "__class__" = some (some (.builtin "object.__class__")))
  (x_NoTree4:PySem.W.findIn K (.ref c_NoTree) "__getattr__" = some none)
  (x_NoTree5:PySem.W.mroIn K c_NoTree (.type "object")=some true)
  (h_DrawError:PySem.W.excIn K c_DrawError [.type "ValueError",.type "Exception",.type "BaseException",.type "object"] "ValueError.__new__" = true)
  (u_NoText_DrawError:PySem.W.subIn K (.ref c_NoText) (.ref c_DrawError)=some true)
  (u_NoTree_DrawError:PySem.W.subIn K (.ref c_NoTree) (.ref c_DrawError)=some true)
  (k_NoText_NoText:PySem.W.kitOne K (.ref c_NoText) (.ref c_NoText)=some true)
  (k_NoText_NoTree:PySem.W.kitOne K (.ref c_NoText) (.ref c_NoTree)=some false)
  (k_NoTree_NoText:PySem.W.kitOne K (.ref c_NoTree) (.ref c_NoText)=some false)
  (k_NoTree_NoTree:PySem.W.kitOne K (.ref c_NoTree) (.ref c_NoTree)=some true)
  (v_NoText_ValueError:PySem.W.kitOne K (.ref c_NoText) (.type "ValueError")=some true)
  (v_NoTree_ValueError:PySem.W.kitOne K (.ref c_NoTree) (.type "ValueError")=some true)
  (t_NoText_NoNode_NoPicture_TooMany_NoDeed_NoPlace:PySem.W.kitAny K (.ref c_NoText) [.ref c_NoNode,.ref c_NoPicture,.ref c_TooMany,.ref c_NoDeed,.ref c_NoPlace]=some false)
  (t_NoTree_NoNode_NoPicture_TooMany_NoDeed_NoPlace:PySem.W.kitAny K (.ref c_NoTree) [.ref c_NoNode,.ref c_NoPicture,.ref c_TooMany,.ref c_NoDeed,.ref c_NoPlace]=some false) :
  ∃fd:FuncData,(∀(s:Shared) (v:Value),BindsTo s fd ⟨[v],[]⟩ [("_law_script",v)])/\∀base:Heap,K.In base->base.Ns mainGlobals mg->FnOk l.prog w K mg base CX0 12 fa fd ["_law_script"] (sp3 K mg l9):=by
 have e:=hfa.symm.trans (PySem.W.mg_of X G W33);cases e;have T:Txt K mg:=⟨PySem.W.mg_none_of X G z_ValueError,PySem.W.mg_none_of X G z_all,PySem.W.mg_none_of X G z_bool,PySem.W.mg_none_of X G z_enumerate,PySem.W.mg_none_of X G z_int,PySem.W.mg_none_of X G z_isinstance,PySem.W.mg_none_of X G z_len,PySem.W.mg_none_of X G z_list,PySem.W.mg_none_of X G z_max,PySem.W.mg_none_of X G z_min,PySem.W.mg_none_of X G z_range,PySem.W.mg_none_of X G z_str,PySem.W.mg_none_of X G z_tuple,⟨_,PySem.W.mg_of X G g_DEEPEST⟩,⟨_,PySem.W.mg_of X G g_GREATEST_LEVEL⟩,⟨_,PySem.W.mg_of X G g_GREATEST_TALL⟩,⟨_,PySem.W.mg_of X G g_LETTERS⟩,⟨_,PySem.W.mg_of X G g_LONGEST_LABEL⟩,⟨_,PySem.W.mg_of X G g_MOST_NODES⟩,⟨_,PySem.W.mg_of X G g_MOST_SIGNS⟩,⟨_,PySem.W.mg_of X G g_TALL_FIGURES⟩,⟨c_DrawError,c_NoDeed,c_NoNode,c_NoPicture,c_NoPlace,c_NoText,c_NoTree,c_TooMany,PySem.W.mg_of X G ca_DrawError,PySem.W.mg_of X G ca_NoDeed,PySem.W.mg_of X G ca_NoNode,PySem.W.mg_of X G ca_NoPicture,PySem.W.mg_of X G ca_NoPlace,PySem.W.mg_of X G ca_NoText,PySem.W.mg_of X G ca_NoTree,PySem.W.mg_of X G ca_TooMany,⟨x_NoText1,x_NoText2,x_NoText3,x_NoText4,x_NoText5⟩,⟨x_NoTree1,x_NoTree2,x_NoTree3,x_NoTree4,x_NoTree5⟩,h_DrawError,u_NoText_DrawError,u_NoTree_DrawError,k_NoText_NoText,k_NoText_NoTree,k_NoTree_NoText,k_NoTree_NoTree,v_NoText_ValueError,v_NoTree_ValueError,t_NoText_NoNode_NoPicture_TooMany_NoDeed_NoPlace,t_NoTree_NoNode_NoPicture_TooMany_NoDeed_NoPlace⟩⟩;have c_1:=bq (st:=bH) X1 Y1 Z1;have a_1:Def K mg "is_on_way_up" bH ["rows", "start", "wanted"] _ _:=⟨c_1,PySem.W.mg_of X G W1,c_1.binds (ps:=["rows", "start", "wanted"]) λ_ _ _ _ _ _ us hl=>by obtain ⟨_,_,_,rfl⟩:=ex3 hl;rfl⟩
 have c_2:=bq (st:=bW) X2 Y2 Z2;have a_2:Def K mg "is_label" bW ["text"] _ _:=⟨c_2,PySem.W.mg_of X G W2,c_2.binds (ps:=["text"]) λ_ _ _ _ _ _ us hl=>by obtain ⟨_,rfl⟩:=ex1 hl;rfl⟩
 have c_3:=bq (st:=bP) X3 Y3 Z3;have a_3:Def K mg "check_tall" bP ["tall"] _ _:=⟨c_3,PySem.W.mg_of X G W3,c_3.binds (ps:=["tall"]) λ_ _ _ _ _ _ us hl=>by obtain ⟨_,rfl⟩:=ex1 hl;rfl⟩
 have c_4:=bq (st:=bO) X4 Y4 Z4;have a_4:Def K mg "node_levels" bO ["tree"] _ _:=⟨c_4,PySem.W.mg_of X G W4,c_4.binds (ps:=["tree"]) λ_ _ _ _ _ _ us hl=>by obtain ⟨_,rfl⟩:=ex1 hl;rfl⟩
 have c_5:=bq (st:=dh) X5 Y5 Z5;have a_5:Def K mg "node_end" dh ["text", "place"] _ _:=⟨c_5,PySem.W.mg_of X G W5,c_5.binds (ps:=["text", "place"]) λ_ _ _ _ _ _ us hl=>by obtain ⟨_,_,rfl⟩:=ex2 hl;rfl⟩
 have c_6:=bq (st:=bA) X6 Y6 Z6;have a_6:Def K mg "check_depth" bA ["depth"] _ _:=⟨c_6,PySem.W.mg_of X G W6,c_6.binds (ps:=["depth"]) λ_ _ _ _ _ _ us hl=>by obtain ⟨_,rfl⟩:=ex1 hl;rfl⟩
 have c_7:=bq (st:=bt) X7 Y7 Z7;have a_7:Def K mg "shut_brackets" bt ["text", "place", "opened"] _ _:=⟨c_7,PySem.W.mg_of X G W7,c_7.binds (ps:=["text", "place", "opened"]) λ_ _ _ _ _ _ us hl=>by obtain ⟨_,_,_,rfl⟩:=ex3 hl;rfl⟩
 have c_8:=bq (st:=dC) X8 Y8 Z8;have a_8:Def K mg "goes_on" dC ["text", "place", "depth"] _ _:=⟨c_8,PySem.W.mg_of X G W8,c_8.binds (ps:=["text", "place", "depth"]) λ_ _ _ _ _ _ us hl=>by obtain ⟨_,_,_,rfl⟩:=ex3 hl;rfl⟩
 have c_9:=bq (st:=cB) X9 Y9 Z9;have a_9:Def K mg "_law_cell" cB ["_law_script", "_law_k"] _ _:=⟨c_9,PySem.W.mg_of X G W9,c_9.binds (ps:=["_law_script", "_law_k"]) λ_ _ _ _ _ _ us hl=>by obtain ⟨_,_,rfl⟩:=ex2 hl;rfl⟩
 have c_10:=bq (st:=cG) X10 Y10 Z10;have a_10:Def K mg "_law_whole" cG ["_law_found"] _ _:=⟨c_10,PySem.W.mg_of X G W10,c_10.binds (ps:=["_law_found"]) λ_ _ _ _ _ _ us hl=>by obtain ⟨_,rfl⟩:=ex1 hl;rfl⟩
 have c_11:=bq (st:=cC) X11 Y11 Z11;have a_11:Def K mg "_law_label" cC ["_law_number", "_law_most"] _ _:=⟨c_11,PySem.W.mg_of X G W11,c_11.binds (ps:=["_law_number", "_law_most"]) λ_ _ _ _ _ _ us hl=>by obtain ⟨_,_,rfl⟩:=ex2 hl;rfl⟩
 have c_12:=bq (st:=cW) X12 Y12 Z12;have a_12:Def K mg "_law_sign" cW ["_law_number"] _ _:=⟨c_12,PySem.W.mg_of X G W12,c_12.binds (ps:=["_law_number"]) λ_ _ _ _ _ _ us hl=>by obtain ⟨_,rfl⟩:=ex1 hl;rfl⟩
 have c_13:=bq (st:=cX) X13 Y13 Z13;have a_13:Def K mg "_law_line" cX ["_law_number"] _ _:=⟨c_13,PySem.W.mg_of X G W13,c_13.binds (ps:=["_law_number"]) λ_ _ _ _ _ _ us hl=>by obtain ⟨_,rfl⟩:=ex1 hl;rfl⟩
 have c_14:=bq (st:=cV) X14 Y14 Z14;have a_14:Def K mg "_law_star" cV ["_law_number"] _ _:=⟨c_14,PySem.W.mg_of X G W14,c_14.binds (ps:=["_law_number"]) λ_ _ _ _ _ _ us hl=>by obtain ⟨_,rfl⟩:=ex1 hl;rfl⟩
 have c_15:=bq (st:=dQ) X15 Y15 Z15;have a_15:Def K mg "_law_odd" dQ ["_law_number"] _ _:=⟨c_15,PySem.W.mg_of X G W15,c_15.binds (ps:=["_law_number"]) λ_ _ _ _ _ _ us hl=>by obtain ⟨_,rfl⟩:=ex1 hl;rfl⟩
 have c_16:=bq (st:=bD) X16 Y16 Z16;have a_16:Def K mg "_law_is_name" bD ["_law_word_here"] _ _:=⟨c_16,PySem.W.mg_of X G W16,c_16.binds (ps:=["_law_word_here"]) λ_ _ _ _ _ _ us hl=>by obtain ⟨_,rfl⟩:=ex1 hl;rfl⟩
 have c_17:=bq (st:=b7) X17 Y17 Z17;have a_17:Def K mg "_law_depth" b7 ["_law_text"] _ _:=⟨c_17,PySem.W.mg_of X G W17,c_17.binds (ps:=["_law_text"]) λ_ _ _ _ _ _ us hl=>by obtain ⟨_,rfl⟩:=ex1 hl;rfl⟩
 have c_18:=bq (st:=cJ) X18 Y18 Z18;have a_18:Def K mg "_law_word" cJ ["_law_error"] _ _:=⟨c_18,PySem.W.mg_of X G W18,c_18.binds (ps:=["_law_error"]) λ_ _ _ _ _ _ us hl=>by obtain ⟨_,rfl⟩:=ex1 hl;rfl⟩
 have c_19:=bq (st:=bB) X19 Y19 Z19;have a_19:Def K mg "check_elder" bB ["rows", "number"] _ _:=⟨c_19,PySem.W.mg_of X G W19,c_19.binds (ps:=["rows", "number"]) λ_ _ _ _ _ _ us hl=>by obtain ⟨_,_,rfl⟩:=ex2 hl;rfl⟩
 have c_20:=bq (st:=bC) X20 Y20 Z20;have a_20:Def K mg "check_label" bC ["label"] _ _:=⟨c_20,PySem.W.mg_of X G W20,c_20.binds (ps:=["label"]) λ_ _ _ _ _ _ us hl=>by obtain ⟨_,rfl⟩:=ex1 hl;rfl⟩
 have c_21:=bq (st:=cf) X21 Y21 Z21;have a_21:Def K mg "read_node" cf ["elder", "part"] _ _:=⟨c_21,PySem.W.mg_of X G W21,c_21.binds (ps:=["elder", "part"]) λ_ _ _ _ _ _ us hl=>by obtain ⟨_,_,rfl⟩:=ex2 hl;rfl⟩
 have c_22:=bq (st:=cY) X22 Y22 Z22;have a_22:Def K mg "_law_tree" cY ["_law_script", "_law_start", "_law_many", "_law_most", "_law_deep"] _ _:=⟨c_22,PySem.W.mg_of X G W22,c_22.binds (ps:=["_law_script", "_law_start", "_law_many", "_law_most", "_law_deep"]) λ_ _ _ _ _ _ us hl=>by obtain ⟨_,_,_,_,_,rfl⟩:=ex5 hl;rfl⟩
 have c_23:=bq (st:=bS) X23 Y23 Z23;have a_23:Def K mg "_law_spoiled" bS ["_law_text", "_law_cell_here"] _ _:=⟨c_23,PySem.W.mg_of X G W23,c_23.binds (ps:=["_law_text", "_law_cell_here"]) λ_ _ _ _ _ _ us hl=>by obtain ⟨_,_,rfl⟩:=ex2 hl;rfl⟩
 have c_24:=bq (st:=bT) X24 Y24 Z24;have a_24:Def K mg "_law_is_done" bT ["_law_word_here"] _ _:=⟨c_24,PySem.W.mg_of X G W24,c_24.binds (ps:=["_law_word_here"]) λ_ _ _ _ _ _ us hl=>by obtain ⟨_,rfl⟩:=ex1 hl;rfl⟩
 have c_25:=bq (st:=cI) X25 Y25 Z25;have a_25:Def K mg "_law_kinds" cI ["_law_found"] _ _:=⟨c_25,PySem.W.mg_of X G W25,c_25.binds (ps:=["_law_found"]) λ_ _ _ _ _ _ us hl=>by obtain ⟨_,rfl⟩:=ex1 hl;rfl⟩
 have c_26:=bq (st:=cb) X26 Y26 Z26;have a_26:Def K mg "made_tree" cb ["rows"] _ _:=⟨c_26,PySem.W.mg_of X G W26,c_26.binds (ps:=["rows"]) λ_ _ _ _ _ _ us hl=>by obtain ⟨_,rfl⟩:=ex1 hl;rfl⟩
 have c_27:=bq (st:=b_) X27 Y27 Z27;have a_27:Def K mg "read_rows" b_ ["text"] _ _:=⟨c_27,PySem.W.mg_of X G W27,c_27.binds (ps:=["text"]) λ_ _ _ _ _ _ us hl=>by obtain ⟨_,rfl⟩:=ex1 hl;rfl⟩
 have c_28:=bq (st:=b9) X28 Y28 Z28;have a_28:Def K mg "_law_formed" b9 ["_law_text"] _ _:=⟨c_28,PySem.W.mg_of X G W28,c_28.binds (ps:=["_law_text"]) λ_ _ _ _ _ _ us hl=>by obtain ⟨_,rfl⟩:=ex1 hl;rfl⟩
 have c_29:=bq (st:=cA) X29 Y29 Z29;have a_29:Def K mg "read_tree" cA ["text"] _ _:=⟨c_29,PySem.W.mg_of X G W29,c_29.binds (ps:=["text"]) λ_ _ _ _ _ _ us hl=>by obtain ⟨_,rfl⟩:=ex1 hl;rfl⟩
 have c_30:=bq (st:=cF) X30 Y30 Z30;have a_30:Def K mg "_law_read" cF ["_law_text"] _ _:=⟨c_30,PySem.W.mg_of X G W30,c_30.binds (ps:=["_law_text"]) λ_ _ _ _ _ _ us hl=>by obtain ⟨_,rfl⟩:=ex1 hl;rfl⟩
 have c_31:=bq (st:=ax) X31 Y31 Z31;have a_31:Def K mg "_law_text_of" ax ["_law_tree_here", "_law_node"] _ _:=⟨c_31,PySem.W.mg_of X G W31,c_31.binds (ps:=["_law_tree_here", "_law_node"]) λ_ _ _ _ _ _ us hl=>by obtain ⟨_,_,rfl⟩:=ex2 hl;rfl⟩
 have c_32:=bq (st:=cZ) X32 Y32 Z32;have a_32:Def K mg "_law_good" cZ ["_law_text"] _ _:=⟨c_32,PySem.W.mg_of X G W32,c_32.binds (ps:=["_law_text"]) λ_ _ _ _ _ _ us hl=>by obtain ⟨_,rfl⟩:=ex1 hl;rfl⟩
 have c_33:=bq (st:=j7) X33 Y33 Z33;refine ⟨PySem.W.fnOf "law" "law" (aT j7) (aP j7) (aq j7) .none O33 P33 T33 J33 U33 V33,λs v=>.of_eq rfl,λbase _ _=>?_⟩
 have b_1:FnOk l.prog w K mg base CX0 1 _ _ _ _:=kX a_1.F T;have b_2:FnOk l.prog w K mg base CX0 1 _ _ _ _:=pB a_2.F T;have b_3:FnOk l.prog w K mg base CX0 1 _ _ _ _:=mB a_3.F T;have Gx_check_tall:FnOk l.prog w K mg base (CXE l.prog w) 1 _ _ _ _:=mE a_3.F T;have b_4:FnOk l.prog w K mg base CX0 1 _ _ _ _:=my a_4.F T;have b_5:FnOk l.prog w K mg base CX0 1 _ _ _ _:=pw a_5.F T;have b_6:FnOk l.prog w K mg base CX0 1 _ _ _ _:=mi a_6.F T;have Gx_check_depth:FnOk l.prog w K mg base (CXE l.prog w) 1 _ _ _ _:=lO a_6.F T;have b_7:FnOk l.prog w K mg base CX0 1 _ _ _ _:=kG a_7.F T;have b_8:FnOk l.prog w K mg base CX0 1 _ _ _ _:=qe a_8.F T;have Gx_goes_on:FnOk l.prog w K mg base (CXE l.prog w) 1 _ _ _ _:=qd a_8.F T;have b_9:FnOk l.prog w K mg base CX0 1 _ _ _ _:=oU a_9.F T;have b_10:FnOk l.prog w K mg base CX0 1 _ _ _ _:=mL a_10.F T;have b_11:FnOk l.prog w K mg base CX0 1 _ _ _ _:=mG a_11.F T;have b_12:FnOk l.prog w K mg base CX0 1 _ _ _ _:=oy a_12.F T;have b_13:FnOk l.prog w K mg base CX0 1 _ _ _ _:=oR a_13.F T;have b_14:FnOk l.prog w K mg base CX0 1 _ _ _ _:=ov a_14.F T;have b_15:FnOk l.prog w K mg base CX0 1 _ _ _ _:=p9 a_15.F T;have b_16:FnOk l.prog w K mg base CX0 1 _ _ _ _:=k_ a_16.F T;have b_17:FnOk l.prog w K mg base CX0 1 _ _ _ _:=mI a_17.F T;have W__law_word_NoText:=jr (P:=l.prog) (w:=w) (base:=base) a_18.F T;have W__law_word_NoTree:=jx (P:=l.prog) (w:=w) (base:=base) a_18.F T;have b_19:FnOk l.prog w K mg base CX0 2 _ _ _ _:=lU a_19.F T a_1 b_1;have Gx_check_elder:FnOk l.prog w K mg base (CXE l.prog w) 2 _ _ _ _:=lS a_19.F T a_1 b_1;have b_20:FnOk l.prog w K mg base CX0 2 _ _ _ _:=lR a_20.F T a_2 b_2;have Gx_check_label:FnOk l.prog w K mg base (CXE l.prog w) 2 _ _ _ _:=lP a_20.F T a_2 b_2;have b_21:FnOk l.prog w K mg base CX0 2 _ _ _ _:=oA a_21.F T a_2 b_2;have Gx_read_node:FnOk l.prog w K mg base (CXE l.prog w) 2 _ _ _ _:=oO a_21.F T a_2 b_2;have b_22:FnOk l.prog w K mg base CX0 2 _ _ _ _:=oZ a_22.F T a_9 b_9 a_11 b_11;have b_23:FnOk l.prog w K mg base CX0 2 _ _ _ _:=kT a_23.F T a_12 b_12;have b_24:FnOk l.prog w K mg base CX0 2 _ _ _ _:=k9 a_24.F T a_16 b_16;have b_25:FnOk l.prog w K mg base CX0 2 _ _ _ _:=mH a_25.F T a_10 b_10;have b_26:FnOk l.prog w K mg base CX0 3 _ _ _ _:=oH a_26.F T a_19 b_19 Gx_check_elder a_20 b_20 Gx_check_label a_3 b_3 Gx_check_tall a_4 b_4;have Gx_made_tree:FnOk l.prog w K mg base (CXE l.prog w) 3 _ _ _ _:=oX a_26.F T a_19 b_19 Gx_check_elder a_20 b_20 Gx_check_label a_3 b_3 Gx_check_tall a_4 b_4;have b_27:FnOk l.prog w K mg base CX0 3 _ _ _ _:=ox a_27.F T a_5 b_5 a_21 b_21 Gx_read_node a_6 b_6 Gx_check_depth a_7 b_7 a_8 b_8 Gx_goes_on;have Gx_read_rows:FnOk l.prog w K mg base (CXE l.prog w) 3 _ _ _ _:=n8 a_27.F T a_5 b_5 a_21 b_21 Gx_read_node a_6 b_6 Gx_check_depth a_7 b_7 a_8 b_8 Gx_goes_on;have b_28:FnOk l.prog w K mg base CX0 3 _ _ _ _:=mv a_28.F T a_16 b_16 a_24 b_24 a_17 b_17;have b_29:FnOk l.prog w K mg base CX0 4 _ _ _ _:=og a_29.F T a_26 b_26 Gx_made_tree a_27 b_27 Gx_read_rows;have Gx_read_tree:FnOk l.prog w K mg base (CXE l.prog w) 4 _ _ _ _:=nZ a_29.F T a_26 b_26 Gx_made_tree a_27 b_27 Gx_read_rows;have b_30:FnOk l.prog w K mg base CX0 5 _ _ _ _:=nU a_30.F T a_29 b_29 Gx_read_tree a_18 W__law_word_NoText W__law_word_NoTree;have G__law_text_of_r1:FnOk l.prog w K mg base CX0 2 _ _ _ _:=jW a_31.F T  a_31 Bq;have G__law_text_of_r2:FnOk l.prog w K mg base CX0 3 _ _ _ _:=jP a_31.F T  a_31 G__law_text_of_r1;have G__law_text_of_r3:FnOk l.prog w K mg base CX0 4 _ _ _ _:=jL a_31.F T  a_31 G__law_text_of_r2;have G__law_text_of_r4:FnOk l.prog w K mg base CX0 5 _ _ _ _:=jI a_31.F T  a_31 G__law_text_of_r3;have G__law_text_of_r5:FnOk l.prog w K mg base CX0 6 _ _ _ _:=jN a_31.F T  a_31 G__law_text_of_r4;have G__law_text_of_r6:FnOk l.prog w K mg base CX0 7 _ _ _ _:=jF a_31.F T  a_31 G__law_text_of_r5;have G__law_text_of_r7:FnOk l.prog w K mg base CX0 8 _ _ _ _:=jU a_31.F T  a_31 G__law_text_of_r6;have G__law_text_of_r8:FnOk l.prog w K mg base CX0 9 _ _ _ _:=jR a_31.F T  a_31 G__law_text_of_r7;have b_31:FnOk l.prog w K mg base CX0 10 _ _ _ _:=jT a_31.F T  a_31 G__law_text_of_r8;have b_32:FnOk l.prog w K mg base CX0 11 _ _ _ _:=nP a_32.F T a_31 b_31 a_17 b_17 a_28 b_28 a_30 b_30 a_25 b_25;exact AO c_33 T a_9 b_9 a_22 b_22 a_31 b_31 a_23 b_23 a_13 b_13 a_14 b_14 a_15 b_15 a_30 b_30 a_32 b_32
end B
def PySem.W.Fast.tw2888468457553940973:Nat:=0
def PySem.W.Fast.tw5805846228154717905:Nat:=0
def PySem.W.Fast.tw9034135719834743981:Nat:=0
def PySem.W.Fast.tw1247110733271010354:Nat:=0
def PySem.W.Fast.tw7094939528065778220:Nat:=0
def PySem.W.Fast.tw15564720272605947315:Nat:=0
def PySem.W.Fast.tw130485502104075497:Nat:=0
def PySem.W.Fast.tw6922698192964804257:Nat:=0
def PySem.W.Fast.tw11442322092757161820:Nat:=0
def PySem.W.Fast.tw2314387582133760985:Nat:=0
def PySem.W.Fast.tw13237838422366987854:Nat:=0
def PySem.W.Fast.tw10316268678776791132:Nat:=0
def PySem.W.Fast.tw10758653122141345543:Nat:=0
def PySem.W.Fast.tw3154562342046397262:Nat:=0
def PySem.W.Fast.tw1958813570735412055:Nat:=0
def PySem.W.Fast.tw2314145656824309573:Nat:=0
def PySem.W.Fast.tw10031139078343526649:Nat:=0
def PySem.W.Fast.tw801981595374757090:Nat:=0
open PySem PySem.W PyProof.Rows
set_option maxRecDepth 100000 in
set_option maxHeartbeats 0 in
theorem PySem.Challenge.cw_boughdraw_k12_texts_refused_holds : PySem.Challenge.rw_boughdraw_k12_texts_refused.Holds := by
 w_on;o_law;k_head;(case hw=>w_witness2)
 k_fill
 refine L3.Ec (l:=PySem.Challenge.rw_boughdraw_k12_texts_refused) (x := "_law_script") (k:=12) (fn:=B.l9) rfl rfl ⟨rfl,by decide,by decide⟩ (λw h Y=>PySem.W.kIn_of Y) B.tu ?F
 case F =>
  intro w mg fa h KX G hmg;refine' B.all_mk KX G hmg ?W1 ?X1 ?Y1 ?Z1 ?W2 ?X2 ?Y2 ?Z2 ?W3 ?X3 ?Y3 ?Z3 ?W4 ?X4 ?Y4 ?Z4 ?W5 ?X5 ?Y5 ?Z5 ?W6 ?X6 ?Y6 ?Z6 ?W7 ?X7 ?Y7 ?Z7 ?W8 ?X8 ?Y8 ?Z8 ?W9 ?X9 ?Y9 ?Z9 ?W10 ?X10 ?Y10 ?Z10 ?W11 ?X11 ?Y11 ?Z11 ?W12 ?X12 ?Y12 ?Z12 ?W13 ?X13 ?Y13 ?Z13 ?W14 ?X14 ?Y14 ?Z14 ?W15 ?X15 ?Y15 ?Z15 ?W16 ?X16 ?Y16 ?Z16 ?W17 ?X17 ?Y17 ?Z17 ?W18 ?X18 ?Y18 ?Z18 ?W19 ?X19 ?Y19 ?Z19 ?W20 ?X20 ?Y20 ?Z20 ?W21 ?X21 ?Y21 ?Z21 ?W22 ?X22 ?Y22 ?Z22 ?W23 ?X23 ?Y23 ?Z23 ?W24 ?X24 ?Y24 ?Z24 ?W25 ?X25 ?Y25 ?Z25 ?W26 ?X26 ?Y26 ?Z26 ?W27 ?X27 ?Y27 ?Z27 ?W28 ?X28 ?Y28 ?Z28 ?W29 ?X29 ?Y29 ?Z29 ?W30 ?X30 ?Y30 ?Z30 ?W31 ?X31 ?Y31 ?Z31 ?W32 ?X32 ?Y32 ?Z32 ?W33 ?X33 ?Y33 ?Z33 ?z0 ?z1 ?z2 ?z3 ?z4 ?z5 ?z6 ?z7 ?z8 ?z9 ?z10 ?z11 ?z12 ?g_DEEPEST ?g_GREATEST_LEVEL ?g_GREATEST_TALL ?g_LETTERS ?g_LONGEST_LABEL ?g_MOST_NODES ?g_MOST_SIGNS ?g_TALL_FIGURES ?ca_DrawError ?ca_NoDeed ?ca_NoNode ?ca_NoPicture ?ca_NoPlace ?ca_NoText ?ca_NoTree ?ca_TooMany ?x_NoText1 ?x_NoText2 ?x_NoText3 ?x_NoText4 ?x_NoText5 ?x_NoTree1 ?x_NoTree2 ?x_NoTree3 ?x_NoTree4 ?x_NoTree5 ?h_DrawError ?u_NoText_DrawError ?u_NoTree_DrawError ?k_NoText_NoText ?k_NoText_NoTree ?k_NoTree_NoText ?k_NoTree_NoTree ?v_NoText_ValueError ?v_NoTree_ValueError ?t_NoText_NoNode_NoPicture_TooMany_NoDeed_NoPlace ?t_NoTree_NoNode_NoPicture_TooMany_NoDeed_NoPlace
  case W1|X1|Y1|Z1|W2|X2|Y2|Z2|W3|X3|Y3|Z3|W4|X4|Y4|Z4|W5|X5|Y5|Z5|W6|X6|Y6|Z6|W7|X7|Y7|Z7|W8|X8|Y8|Z8|W9|X9|Y9|Z9|W10|X10|Y10|Z10|W11|X11|Y11|Z11|W12|X12|Y12|Z12|W13|X13|Y13|Z13|W14|X14|Y14|Z14|W15|X15|Y15|Z15|W16|X16|Y16|Z16|W17|X17|Y17|Z17|W18|X18|Y18|Z18|W19|X19|Y19|Z19|W20|X20|Y20|Z20|W21|X21|Y21|Z21|W22|X22|Y22|Z22|W23|X23|Y23|Z23|W24|X24|Y24|Z24|W25|X25|Y25|Z25|W26|X26|Y26|Z26|W27|X27|Y27|Z27|W28|X28|Y28|Z28|W29|X29|Y29|Z29|W30|X30|Y30|Z30|W31|X31|Y31|Z31|W32|X32|Y32|Z32|W33|X33|Y33|Z33|z0|z1|z2|z3|z4|z5|z6|z7|z8|z9|z10|z11|z12|g_DEEPEST|g_GREATEST_LEVEL|g_GREATEST_TALL|g_LETTERS|g_LONGEST_LABEL|g_MOST_NODES|g_MOST_SIGNS|g_TALL_FIGURES|ca_DrawError|ca_NoDeed|ca_NoNode|ca_NoPicture|ca_NoPlace|ca_NoText|ca_NoTree|ca_TooMany=>k_is
  (case x_NoText1=>k_exc)
  (case x_NoText2=>first | k_is | kernel_rfl)
  (case x_NoText3=>first | k_is | kernel_rfl)
  (case x_NoText4=>first | k_is | kernel_rfl)
  (case x_NoText5=>first | k_is | kernel_rfl)
  (case x_NoTree1=>k_exc)
  (case x_NoTree2=>first | k_is | kernel_rfl)
  (case x_NoTree3=>first | k_is | kernel_rfl)
  (case x_NoTree4=>first | k_is | kernel_rfl)
  (case x_NoTree5=>first | k_is | kernel_rfl)
  (case h_DrawError=>k_exc)
  (case u_NoText_DrawError=>first | k_is | kernel_rfl)
  (case u_NoTree_DrawError=>first | k_is | kernel_rfl)
  (case k_NoText_NoText=>first | k_is | kernel_rfl)
  (case k_NoText_NoTree=>first | k_is | kernel_rfl)
  (case k_NoTree_NoText=>first | k_is | kernel_rfl)
  (case k_NoTree_NoTree=>first | k_is | kernel_rfl)
  (case v_NoText_ValueError=>first | k_is | kernel_rfl)
  (case v_NoTree_ValueError=>first | k_is | kernel_rfl)
  (case t_NoText_NoNode_NoPicture_TooMany_NoDeed_NoPlace=>first | k_is | kernel_rfl)
  (case t_NoTree_NoNode_NoPicture_TooMany_NoDeed_NoPlace=>first | k_is | kernel_rfl)
